/-
  The document's answers of layer 2 are what package round's functions come to: fused products and sums, roots, whole numbers.
-/
import Derived.Test.YtkbniebahledmaaWkZi
import Derived.Test.YtkbniebahledmaaWkYa
import Derived.Test.YtkbniebahledmaaWkYb
import Derived.Test.YtkbniebahledmaaWkYc
import Derived.Test.YtkbniebahledmaaWkYd
import Derived.Test.YtkbniebahledmaaWkYe
namespace Go.Proofs.Ytkbniebahledmaa
open Go.RowKit
set_option linter.unusedVariables false

end Go.Proofs.Ytkbniebahledmaa
