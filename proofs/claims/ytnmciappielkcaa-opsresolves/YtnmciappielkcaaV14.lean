import Derived.WalkMore
import Derived.Deep.RegionHeld3
import Derived.Lib.SliceRun
import Derived.Laws.BytesString
import Derived.Laws.BytesArg
import Derived.Lib.SlBytesConst
import Derived.Test.YtnmciappielkcaaV05
import Derived.Test.YtnmciappielkcaaV06
import Derived.Test.YtnmciappielkcaaV09
import Derived.Test.YtnmciappielkcaaV10
import Derived.Test.YtnmciappielkcaaV11
import Derived.Test.YtnmciappielkcaaV12
import Derived.Test.YtnmciappielkcaaV13
set_option maxRecDepth 100000
set_option maxHeartbeats 8000000
namespace Go.Proofs.Ytnmciappielkcaa
open Go.RowKit
set_option linter.unusedVariables false
def Stay (g:Nat) (w w':World):Prop:=Below g w w' ∧ ∀ k,g < k → k < w.heap.size → w'.heap[k]? = w.heap[k]?
theorem Stay.refl (g:Nat) (w:World):Stay g w w:=⟨Below.refl _ _,fun _ _ _ => rfl⟩
theorem Stay.trans {g:Nat} {a b c:World} (h:Stay g a b) (k:Stay g b c):Stay g a c:=⟨bl_tr7 h.1 k.1,fun i h1 h2 => (k.2 i h1 (Nat.lt_of_lt_of_le h2 h.1.size)).trans (h.2 i h1 h2)⟩
theorem Stay.below {g:Nat} {w w':World} (h:Below w.heap.size w w') (hg:g ≤ w.heap.size):Stay g w w':=⟨bl_mono7 h hg,fun k _ h2 => h.block k h2⟩
theorem Stay.block {g:Nat} {w w':World} (h:Stay g w w') {k:Nat} (hk:k ≠ g) (hl:k < w.heap.size):w'.heap[k]? = w.heap[k]?:=by
 rcases Nat.lt_or_ge k g with h1 | h1
 ·exact h.1.block k h1
 ·exact h.2 k (by omega) hl
def Off (g:Nat) (p:Option Addr) (n:Nat):Prop:=∀ b o,p = some ⟨b,o,none⟩ → 0 < n → b ≠ g
theorem Stay.box {g k:Nat} {w w':World} {cs:Array Value} {t:TypeId} (s:Stay g w w') (h:Box w k cs t) (hk:k ≠ g):Box w' k cs t:=(s.block hk h.lt).trans h
theorem Off.nil {g:Nat} {p:Option Addr}:Off g p 0:=fun _ _ _ h => by omega
end Go.Proofs.Ytnmciappielkcaa
