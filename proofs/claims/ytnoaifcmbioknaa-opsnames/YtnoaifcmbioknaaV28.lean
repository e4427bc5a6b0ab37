import Derived.Deep.QuietTactic
import Derived.Test.YtnoaifcmbioknaaV02
import Derived.Test.YtnoaifcmbioknaaV27
set_option maxRecDepth 100000
set_option maxHeartbeats 8000000
namespace Go.Proofs.Ytnoaifcmbioknaa
open Go.RowKit
set_option linter.unusedVariables false
theorem str_ne {a b:Str} (ha:isB a) (hb:isB b) (h:¬ a = b):((strOfNums a).toList == (strOfNums b).toList) = false:=by
 rw [beq_eq_false_iff_ne]
 intro e
 refine h (str_inj ha hb ?_)
 rw [str_list,str_list] at e
 unfold strOfNums
 rw [e]
end Go.Proofs.Ytnoaifcmbioknaa
