import Derived.Lib.ConvBytes
import Derived.Deep.DeepAppendWide
import Derived.Test.YtnoaifcmbioknaaV05
import Derived.Test.YtnoaifcmbioknaaV09
import Derived.Test.YtnoaifcmbioknaaV11
import Derived.Test.YtnoaifcmbioknaaV12
import Derived.Test.YtnoaifcmbioknaaV22
set_option maxRecDepth 100000
set_option maxHeartbeats 8000000
namespace Go.Proofs.Ytnoaifcmbioknaa
open Go.RowKit
set_option linter.unusedVariables false
theorem flat_one {α:Type} (f:α → Value) (l:List α):l.flatMap (fun x => [f x]) = l.map f:=by
 induction l with
 | nil => rfl
 | cons a r ih => rw [List.flatMap_cons,List.map_cons,ih]; rfl
end Go.Proofs.Ytnoaifcmbioknaa
