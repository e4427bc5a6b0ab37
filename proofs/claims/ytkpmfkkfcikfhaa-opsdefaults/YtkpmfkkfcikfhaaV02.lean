import Derived.Carry
import Derived.Laws.OwnMore
import Derived.Test.YtkpmfkkfcikfhaaV01
set_option maxRecDepth 100000
set_option maxHeartbeats 8000000
namespace Go.Proofs.Ytkpmfkkfcikfhaa
open Go.RowKit
set_option linter.unusedVariables false
def Ints (k:IntKind) (w:World) (p:Option Addr) (cap:Nat) (xs:List Int):Prop :=
 xs.length ≤ cap ∧ cap ≤ 9223372036854775807 ∧ (∀ x ∈ xs,(Lit.int k x).wf = true) ∧
  (0 < xs.length → ∃ b o,p = some ⟨b,o,none⟩ ∧ b < w.heap.size ∧ ∀ i,i < xs.length → w.cell? ⟨b,o + i,none⟩ = some (.int k (xs.getD i 0))) ∧ (p = none → cap = 0)
theorem Ints.lies {k:IntKind} {w:World} {p:Option Addr} {cap:Nat} {xs:List Int} (h:Ints k w p cap xs) (hp:0 < xs.length):∃ b o,p = some ⟨b,o,none⟩ ∧ b < w.heap.size ∧ ∀ i,i < xs.length → w.cell? ⟨b,o + i,none⟩ = some (.int k (xs.getD i 0)):=h.2.2.2.1 hp
theorem Ints.below {k:IntKind} {w w':World} {p:Option Addr} {cap:Nat} {xs:List Int} (h:Ints k w p cap xs) (hb:Below w.heap.size w w'):Ints k w' p cap xs:=by
 obtain ⟨h1,h2,h3,h4,h5⟩:=h
 refine ⟨h1,h2,h3,fun hp => ?_,h5⟩
 obtain ⟨b,o,e,g1,g2⟩:=h4 hp
 exact ⟨b,o,e,Nat.lt_of_lt_of_le g1 hb.size,fun i hi => (hb.cell (p:=⟨b,o + i,none⟩) g1).trans (g2 i hi)⟩
theorem bw_drew {B:Nat} {a w:World} (h:Below B a w) (n:Nat):Below B a (w.drewN n):=h.trans ⟨rfl,rfl,rfl,Nat.le_refl _,fun _ _ => rfl⟩
theorem Ints.len {k:IntKind} {w:World} {p:Option Addr} {cap:Nat} {xs:List Int} (h:Ints k w p cap xs):xs.length ≤ 9223372036854775807:=Nat.le_trans h.1 h.2.1
end Go.Proofs.Ytkpmfkkfcikfhaa
