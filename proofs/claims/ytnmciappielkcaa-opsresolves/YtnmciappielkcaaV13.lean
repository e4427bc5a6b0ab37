import Derived.Test.YtnmciappielkcaaV06
import Derived.Test.YtnmciappielkcaaV09
import Derived.Test.YtnmciappielkcaaV12
set_option maxRecDepth 100000
set_option maxHeartbeats 8000000
namespace Go.Proofs.Ytnmciappielkcaa
open Go.RowKit
set_option linter.unusedVariables false
theorem Box.set5 {w:World} {g:Nat} {a0 a1 a2 a3 a4:Value} {t:TypeId} (h:Box w g #[a0,a1,a2,a3,a4] t) (u0 u1 u2 u3 u4:Value):Box (((((w.setCell ⟨g,0,none⟩ u0).setCell ⟨g,1,none⟩ u1).setCell ⟨g,2,none⟩ u2).setCell ⟨g,3,none⟩ u3).setCell ⟨g,4,none⟩ u4) g #[u0,u1,u2,u3,u4] t:=by
 have h0:Box (w.setCell ⟨g,0,none⟩ u0) g #[u0,a1,a2,a3,a4] t:=h.same 0 u0
 have h1:Box ((w.setCell ⟨g,0,none⟩ u0).setCell ⟨g,1,none⟩ u1) g #[u0,u1,a2,a3,a4] t:=h0.same 1 u1
 have h2:Box (((w.setCell ⟨g,0,none⟩ u0).setCell ⟨g,1,none⟩ u1).setCell ⟨g,2,none⟩ u2) g #[u0,u1,u2,a3,a4] t:=h1.same 2 u2
 have h3:Box ((((w.setCell ⟨g,0,none⟩ u0).setCell ⟨g,1,none⟩ u1).setCell ⟨g,2,none⟩ u2).setCell ⟨g,3,none⟩ u3) g #[u0,u1,u2,u3,a4] t:=h2.same 3 u3
 have h4:Box (((((w.setCell ⟨g,0,none⟩ u0).setCell ⟨g,1,none⟩ u1).setCell ⟨g,2,none⟩ u2).setCell ⟨g,3,none⟩ u3).setCell ⟨g,4,none⟩ u4) g #[u0,u1,u2,u3,u4] t:=h3.same 4 u4
 exact h4
theorem bset5 {B:Nat} {a w:World} (h:Below B a w) {g:Nat} (hg:B ≤ g) (u0 u1 u2 u3 u4:Value):Below B a (((((w.setCell ⟨g,0,none⟩ u0).setCell ⟨g,1,none⟩ u1).setCell ⟨g,2,none⟩ u2).setCell ⟨g,3,none⟩ u3).setCell ⟨g,4,none⟩ u4):=by
 have h0:Below B a (w.setCell ⟨g,0,none⟩ u0):=h.setCell hg u0
 have h1:Below B a ((w.setCell ⟨g,0,none⟩ u0).setCell ⟨g,1,none⟩ u1):=h0.setCell hg u1
 have h2:Below B a (((w.setCell ⟨g,0,none⟩ u0).setCell ⟨g,1,none⟩ u1).setCell ⟨g,2,none⟩ u2):=h1.setCell hg u2
 have h3:Below B a ((((w.setCell ⟨g,0,none⟩ u0).setCell ⟨g,1,none⟩ u1).setCell ⟨g,2,none⟩ u2).setCell ⟨g,3,none⟩ u3):=h2.setCell hg u3
 have h4:Below B a (((((w.setCell ⟨g,0,none⟩ u0).setCell ⟨g,1,none⟩ u1).setCell ⟨g,2,none⟩ u2).setCell ⟨g,3,none⟩ u3).setCell ⟨g,4,none⟩ u4):=h3.setCell hg u4
 exact h4
theorem Box.off5 {w:World} {k g:Nat} {cs:Array Value} {t:TypeId} (h:Box w k cs t) (hne:k ≠ g) (u0 u1 u2 u3 u4:Value):Box (((((w.setCell ⟨g,0,none⟩ u0).setCell ⟨g,1,none⟩ u1).setCell ⟨g,2,none⟩ u2).setCell ⟨g,3,none⟩ u3).setCell ⟨g,4,none⟩ u4) k cs t:=by
 have h0:Box (w.setCell ⟨g,0,none⟩ u0) k cs t:=Box.other h hne 0 u0
 have h1:Box ((w.setCell ⟨g,0,none⟩ u0).setCell ⟨g,1,none⟩ u1) k cs t:=Box.other h0 hne 1 u1
 have h2:Box (((w.setCell ⟨g,0,none⟩ u0).setCell ⟨g,1,none⟩ u1).setCell ⟨g,2,none⟩ u2) k cs t:=Box.other h1 hne 2 u2
 have h3:Box ((((w.setCell ⟨g,0,none⟩ u0).setCell ⟨g,1,none⟩ u1).setCell ⟨g,2,none⟩ u2).setCell ⟨g,3,none⟩ u3) k cs t:=Box.other h2 hne 3 u3
 have h4:Box (((((w.setCell ⟨g,0,none⟩ u0).setCell ⟨g,1,none⟩ u1).setCell ⟨g,2,none⟩ u2).setCell ⟨g,3,none⟩ u3).setCell ⟨g,4,none⟩ u4) k cs t:=Box.other h3 hne 4 u4
 exact h4
theorem Box.set6 {w:World} {g:Nat} {a0 a1 a2 a3 a4 a5:Value} {t:TypeId} (h:Box w g #[a0,a1,a2,a3,a4,a5] t) (u0 u1 u2 u3 u4 u5:Value):Box ((((((w.setCell ⟨g,0,none⟩ u0).setCell ⟨g,1,none⟩ u1).setCell ⟨g,2,none⟩ u2).setCell ⟨g,3,none⟩ u3).setCell ⟨g,4,none⟩ u4).setCell ⟨g,5,none⟩ u5) g #[u0,u1,u2,u3,u4,u5] t:=by
 have h0:Box (w.setCell ⟨g,0,none⟩ u0) g #[u0,a1,a2,a3,a4,a5] t:=h.same 0 u0
 have h1:Box ((w.setCell ⟨g,0,none⟩ u0).setCell ⟨g,1,none⟩ u1) g #[u0,u1,a2,a3,a4,a5] t:=h0.same 1 u1
 have h2:Box (((w.setCell ⟨g,0,none⟩ u0).setCell ⟨g,1,none⟩ u1).setCell ⟨g,2,none⟩ u2) g #[u0,u1,u2,a3,a4,a5] t:=h1.same 2 u2
 have h3:Box ((((w.setCell ⟨g,0,none⟩ u0).setCell ⟨g,1,none⟩ u1).setCell ⟨g,2,none⟩ u2).setCell ⟨g,3,none⟩ u3) g #[u0,u1,u2,u3,a4,a5] t:=h2.same 3 u3
 have h4:Box (((((w.setCell ⟨g,0,none⟩ u0).setCell ⟨g,1,none⟩ u1).setCell ⟨g,2,none⟩ u2).setCell ⟨g,3,none⟩ u3).setCell ⟨g,4,none⟩ u4) g #[u0,u1,u2,u3,u4,a5] t:=h3.same 4 u4
 have h5:Box ((((((w.setCell ⟨g,0,none⟩ u0).setCell ⟨g,1,none⟩ u1).setCell ⟨g,2,none⟩ u2).setCell ⟨g,3,none⟩ u3).setCell ⟨g,4,none⟩ u4).setCell ⟨g,5,none⟩ u5) g #[u0,u1,u2,u3,u4,u5] t:=h4.same 5 u5
 exact h5
theorem bset6 {B:Nat} {a w:World} (h:Below B a w) {g:Nat} (hg:B ≤ g) (u0 u1 u2 u3 u4 u5:Value):Below B a ((((((w.setCell ⟨g,0,none⟩ u0).setCell ⟨g,1,none⟩ u1).setCell ⟨g,2,none⟩ u2).setCell ⟨g,3,none⟩ u3).setCell ⟨g,4,none⟩ u4).setCell ⟨g,5,none⟩ u5):=by
 have h0:Below B a (w.setCell ⟨g,0,none⟩ u0):=h.setCell hg u0
 have h1:Below B a ((w.setCell ⟨g,0,none⟩ u0).setCell ⟨g,1,none⟩ u1):=h0.setCell hg u1
 have h2:Below B a (((w.setCell ⟨g,0,none⟩ u0).setCell ⟨g,1,none⟩ u1).setCell ⟨g,2,none⟩ u2):=h1.setCell hg u2
 have h3:Below B a ((((w.setCell ⟨g,0,none⟩ u0).setCell ⟨g,1,none⟩ u1).setCell ⟨g,2,none⟩ u2).setCell ⟨g,3,none⟩ u3):=h2.setCell hg u3
 have h4:Below B a (((((w.setCell ⟨g,0,none⟩ u0).setCell ⟨g,1,none⟩ u1).setCell ⟨g,2,none⟩ u2).setCell ⟨g,3,none⟩ u3).setCell ⟨g,4,none⟩ u4):=h3.setCell hg u4
 have h5:Below B a ((((((w.setCell ⟨g,0,none⟩ u0).setCell ⟨g,1,none⟩ u1).setCell ⟨g,2,none⟩ u2).setCell ⟨g,3,none⟩ u3).setCell ⟨g,4,none⟩ u4).setCell ⟨g,5,none⟩ u5):=h4.setCell hg u5
 exact h5
theorem str_nil7:strOfNums ([]:List Int) = { data:=#[] }:=rfl
theorem map_take7 {α β:Type} (f:α → β) (z:α) (l:List α) (n:Nat) (h:n < l.length):(l.take (n + 1)).map f = (l.take n).map f ++ [f (l.getD n z)]:=by
 rw [List.take_add_one,List.map_append,List.getD_eq_getElem?_getD,List.getElem?_eq_getElem h]; rfl
end Go.Proofs.Ytnmciappielkcaa
