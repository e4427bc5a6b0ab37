import Derived.Laws.MathBits
import Derived.Laws.BitsAll
import Derived.RowKit
import Derived.Test.YtnmciappielkcaaChecked
import Derived.WalkKit
import Derived.ProofKit
import Derived.OpenShut
import Derived.Deep.QuietTactic
import Derived.BigQuiet
import Derived.Deep.RegionWith
import Derived.Below
import Derived.Handy
import Derived.RegionTactic
import Derived.ChangeAlike
set_option maxRecDepth 100000
set_option maxHeartbeats 8000000
namespace Go.Proofs.Ytnmciappielkcaa
namespace Flt
end Flt
end Go.Proofs.Ytnmciappielkcaa
namespace Go.Proofs.Ytnmciappielkcaa
namespace Flt
end Flt
end Go.Proofs.Ytnmciappielkcaa
namespace Go.Proofs.Ytnmciappielkcaa
namespace Flt
def A (m:Nat):Nat:=if m < 8388608 then m else (8388608 + m % 8388608) * 2 ^ (m / 8388608 - 1)
end Flt
end Go.Proofs.Ytnmciappielkcaa
namespace Go.Proofs.Ytnmciappielkcaa
namespace Flt
end Flt
end Go.Proofs.Ytnmciappielkcaa
namespace Go.Proofs.Ytnmciappielkcaa
namespace Flt
end Flt
end Go.Proofs.Ytnmciappielkcaa
namespace Go.Proofs.Ytnmciappielkcaa
namespace Flt
end Flt
end Go.Proofs.Ytnmciappielkcaa
namespace Go.Proofs.Ytnmciappielkcaa
namespace Flt
end Flt
end Go.Proofs.Ytnmciappielkcaa
namespace Go.Proofs.Ytnmciappielkcaa
namespace Flt
end Flt
end Go.Proofs.Ytnmciappielkcaa
namespace Go.Proofs.Ytnmciappielkcaa
namespace Flt
end Flt
end Go.Proofs.Ytnmciappielkcaa
namespace Go.Proofs.Ytnmciappielkcaa
namespace Flt
end Flt
end Go.Proofs.Ytnmciappielkcaa
namespace Go.Proofs.Ytnmciappielkcaa
namespace Flt
end Flt
end Go.Proofs.Ytnmciappielkcaa
namespace Go.Proofs.Ytnmciappielkcaa
namespace Flt
end Flt
end Go.Proofs.Ytnmciappielkcaa
namespace Go.Proofs.Ytnmciappielkcaa
namespace Flt
end Flt
end Go.Proofs.Ytnmciappielkcaa
namespace Go.Proofs.Ytnmciappielkcaa
namespace Flt
end Flt
end Go.Proofs.Ytnmciappielkcaa
namespace Go.Proofs.Ytnmciappielkcaa
namespace Flt
end Flt
end Go.Proofs.Ytnmciappielkcaa
namespace Go.Proofs.Ytnmciappielkcaa
namespace Flt
end Flt
end Go.Proofs.Ytnmciappielkcaa
namespace Go.Proofs.Ytnmciappielkcaa
namespace Flt
end Flt
end Go.Proofs.Ytnmciappielkcaa
namespace Go.Proofs.Ytnmciappielkcaa
namespace Flt
end Flt
end Go.Proofs.Ytnmciappielkcaa
namespace Go.Proofs.Ytnmciappielkcaa
namespace Dg
end Dg
end Go.Proofs.Ytnmciappielkcaa
namespace Go.Proofs.Ytnmciappielkcaa
open Go.RowKit
theorem hide {p:Prop} (h:p):Hid p:=h
theorem uh {p:Prop} (h:Hid p):p:=h
theorem wf_i64_iff {n:Int} (h:(Lit.int .i64 n).wf = true):-9223372036854775808 ≤ n ∧ n < 9223372036854775808:=by
 simp [Lit.wf,IntKind.min,IntKind.max,IntKind.signed,IntKind.bits] at h; omega
theorem ret_bool {a b:Bool} (h:a = b):Ending.returned (.bool a) = .returned (.bool b):=by rw [h]
end Go.Proofs.Ytnmciappielkcaa
namespace Go.Proofs.Ytnmciappielkcaa
open Go.RowKit
end Go.Proofs.Ytnmciappielkcaa
namespace Go.Proofs.Ytnmciappielkcaa
open Go.RowKit
end Go.Proofs.Ytnmciappielkcaa
namespace Go.Proofs.Ytnmciappielkcaa
open Go.RowKit
set_option linter.unusedVariables false
end Go.Proofs.Ytnmciappielkcaa
namespace Go.Proofs.Ytnmciappielkcaa
open Go.RowKit
set_option linter.unusedVariables false
end Go.Proofs.Ytnmciappielkcaa
namespace Go.Proofs.Ytnmciappielkcaa
open Go.RowKit
set_option linter.unusedVariables false
theorem bl_tr {w v u:World} (h:Below w.heap.size w v) (k:Below v.heap.size v u):Below w.heap.size w u:=h.trans (k.mono h.size)
end Go.Proofs.Ytnmciappielkcaa
namespace Go.Proofs.Ytnmciappielkcaa
open Go.RowKit
set_option linter.unusedVariables false
end Go.Proofs.Ytnmciappielkcaa
