import Derived.SizedLaws
import Derived.Deep.Slices
import Derived.Test.YtnmciappielkcaaV06
set_option maxRecDepth 100000
set_option maxHeartbeats 8000000
namespace Go.Proofs.Ytnmciappielkcaa
open Go.RowKit
set_option linter.unusedVariables false
def Lent6 (w:World) (g cap:Nat) (xs:List Int):Prop :=
 Ints .u8 w (some ⟨g,0,none⟩) cap xs ∧ xs.length + 2 ≤ cap ∧ g < w.heap.size ∧ w.cell? ⟨g,xs.length,none⟩ = some (.int .u8 201) ∧ w.cell? ⟨g,xs.length + 1,none⟩ = some (.int .u8 202)
theorem Lent6.below {w w':World} {g cap:Nat} {xs:List Int} (h:Lent6 w g cap xs) (hb:Below w.heap.size w w'):Lent6 w' g cap xs:=by
 obtain ⟨h1,h2,h3,h4,h5⟩:=h
 exact ⟨h1.below hb,h2,Nat.lt_of_lt_of_le h3 hb.size,(hb.cell (p:=⟨g,xs.length,none⟩) h3).trans h4,(hb.cell (p:=⟨g,xs.length + 1,none⟩) h3).trans h5⟩
theorem weights_mem_all {H:Type} {P:Program} {e:TypeId} {d:DataW H}:∀ {l:List (DataW H)},d ∈ l → ∀ m ∈ d.weights P e,m ∈ DataW.weightsAll P e l
 | x :: r,hd,m,hm => by
   rw [DataW.weightsAll,List.mem_append]
   rcases List.mem_cons.1 hd with h | h
   ·subst h; exact .inl hm
   ·exact .inr (weights_mem_all h m hm)
end Go.Proofs.Ytnmciappielkcaa
