import Derived.Test.YtbmmcbagdomonaaGreatV02
import Derived.Test.YtbmmcbagdomonaaGreatV19
set_option maxRecDepth 100000
set_option maxHeartbeats 40000000
namespace Go.Proofs.YtbmmcbagdomonaaGreat
open Go.RowKit
set_option linter.unusedVariables false
theorem WalkArith6 {y:Int} (h0:0 ≤ y) (h1:y < 4294967296):(Lit.int .u32 y).wf = true:=by
 simp [Lit.wf,IntKind.min,IntKind.max,IntKind.signed,IntKind.bits]; omega
def canonT (T:Ten):Ten:=(T.1,T.2.1,T.2.2.1.map Flt.canon,T.2.2.2.1,T.2.2.2.2)
theorem canon_wf {x:Int} (h0:0 ≤ x) (h1:x < 4294967296):0 ≤ Flt.canon x ∧ Flt.canon x < 4294967296:=by
 unfold Flt.canon
 split <;> omega
def turnL (xs:List Int) (n:Nat):List Int:=(xs.take n).map Flt.canon ++ xs.drop n
theorem turnL_length (xs:List Int) (n:Nat) (h:n ≤ xs.length):(turnL xs n).length = xs.length:=by unfold turnL; simp; omega
theorem turnL_zero (xs:List Int):turnL xs 0 = xs:=by simp [turnL]
theorem turnL_all (xs:List Int) (n:Nat) (h:n = xs.length):turnL xs n = xs.map Flt.canon:=by subst h; simp [turnL]
theorem turnL_getD (xs:List Int) (n:Nat) (h:n < xs.length):(turnL xs n).getD n 0 = xs.getD n 0:=by
 unfold turnL
 have el:((xs.take n).map Flt.canon).length = n:=by simp; omega
 rw [List.getD_eq_getElem?_getD,List.getD_eq_getElem?_getD,List.getElem?_append_right (by omega),el,Nat.sub_self]
 simp
theorem turnL_set (xs:List Int) (n:Nat) (h:n < xs.length) (x:Int) (hx:x = Flt.canon (xs.getD n 0)):(turnL xs n).set n x = turnL xs (n + 1):=by
 unfold turnL
 have el:((xs.take n).map Flt.canon).length = n:=by simp; omega
 have ed:xs.drop n = xs.getD n 0 :: xs.drop (n + 1):=by
  rw [List.drop_eq_getElem_cons h]; congr 1; simp [List.getElem?_eq_getElem h]
 rw [List.set_append_right _ _ (by omega),el,Nat.sub_self,ed,List.set_cons_zero,take_succ xs n h,List.map_append,hx]
 simp
end Go.Proofs.YtbmmcbagdomonaaGreat
