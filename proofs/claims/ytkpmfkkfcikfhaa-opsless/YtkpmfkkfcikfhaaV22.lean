import Derived.Laws.BytesString
import Derived.WalkMore
import Derived.Deep.RegionHeld3
import Derived.Lib.SliceRun
import Derived.Laws.BytesArg
import Derived.Lib.SlBytesConst
import Derived.Test.YtkpmfkkfcikfhaaV05
import Derived.Test.YtkpmfkkfcikfhaaV09
import Derived.Test.YtkpmfkkfcikfhaaV12
import Derived.Test.YtkpmfkkfcikfhaaV21
set_option maxRecDepth 100000
set_option maxHeartbeats 8000000
namespace Go.Proofs.Ytkpmfkkfcikfhaa
open Go.RowKit
set_option linter.unusedVariables false
theorem Stay.box {g k:Nat} {w w':World} {cs:Array Value} {t:TypeId} (s:Stay g w w') (h:Box w k cs t) (hk:k ≠ g):Box w' k cs t:=(s.block hk h.lt).trans h
end Go.Proofs.Ytkpmfkkfcikfhaa
