/-
  Walks of the document's answer to fused products and sums.
-/
import Derived.Test.YtkbniebahledmaaWkU
import Derived.Test.YtkbniebahledmaaFltK
namespace Go.Proofs.Ytkbniebahledmaa
open Go.RowKit
set_option linter.unusedVariables false

end Go.Proofs.Ytkbniebahledmaa
