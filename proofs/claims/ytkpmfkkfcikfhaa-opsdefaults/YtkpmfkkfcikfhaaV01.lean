import Derived.Test.YtkpmfkkfcikfhaaChecked
import Derived.WalkKit
import Derived.ProofKit
import Derived.OpenShut
import Derived.Deep.QuietTactic
import Derived.BigQuiet
import Derived.Deep.RegionWith
import Derived.Below
import Derived.Handy
import Derived.RegionTactic
import Derived.ChangeAlike
import Derived.Laws.MathBits
import Derived.Laws.BitsAll
import Derived.RowKit
set_option maxRecDepth 100000
set_option maxHeartbeats 8000000
namespace Go.Proofs.Ytkpmfkkfcikfhaa
open Go.RowKit
set_option linter.unusedVariables false
theorem hide {p:Prop} (h:p):Hid p:=h
theorem uh {p:Prop} (h:Hid p):p:=h
theorem ret_bool {a b:Bool} (h:a = b):Ending.returned (.bool a) = .returned (.bool b):=by rw [h]
theorem bl_tr {w v u:World} (h:Below w.heap.size w v) (k:Below v.heap.size v u):Below w.heap.size w u:=h.trans (k.mono h.size)
end Go.Proofs.Ytkpmfkkfcikfhaa
