import Derived.Lib.ConvBytes
import Derived.Deep.DeepAppendWide
import Derived.Test.YtbmmcbagdomonaaGreatV04
set_option maxRecDepth 100000
set_option maxHeartbeats 40000000
namespace Go.Proofs.YtbmmcbagdomonaaGreat
open Go.RowKit
set_option linter.unusedVariables false
theorem any_takeI (P:Int → Bool) (l:List Int) (n:Nat) (h:n < l.length):(l.take (n + 1)).any P = ((l.take n).any P || P (l.getD n 0)):=by
 rw [List.take_add_one,List.any_append,List.getD_eq_getElem?_getD,List.getElem?_eq_getElem h]
 simp
theorem any_memI {P:Int → Bool} {l:List Int} {n:Nat} (h:n < l.length) (hp:P (l.getD n 0) = true):l.any P = true:=List.any_eq_true.2 ⟨_,getD_mem6 h,hp⟩
theorem str_isE (s:Str):(strOfNums s).toList.isEmpty = decide (s = []):=by
 rw [ByteArray.toList_eq,strOfNums_data]
 cases s <;> rfl
def AtSm (a:AtA):Prop:=a.nm.length ≤ 100000 ∧ a.s.length ≤ 100000 ∧ a.fl.length ≤ 100000 ∧ a.is.length ≤ 100000 ∧ a.T.2.1.length ≤ 1000 ∧ a.T.2.2.1.length ≤ 10000000 ∧ a.T.2.2.2.1.length ≤ 10000000 ∧ a.T.2.2.2.2.length ≤ 10000000
end Go.Proofs.YtbmmcbagdomonaaGreat
