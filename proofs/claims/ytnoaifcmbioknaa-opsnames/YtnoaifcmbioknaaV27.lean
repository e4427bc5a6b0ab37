import Derived.Test.YtnoaifcmbioknaaV26
set_option maxRecDepth 100000
set_option maxHeartbeats 8000000
namespace Go.Proofs.Ytnoaifcmbioknaa
open Go.RowKit
set_option linter.unusedVariables false
theorem str_list (s:Str):(strOfNums s).toList = s.map fun n => UInt8.ofNat n.toNat:=by
 rw [ByteArray.toList_eq,strOfNums_data]
end Go.Proofs.Ytnoaifcmbioknaa
