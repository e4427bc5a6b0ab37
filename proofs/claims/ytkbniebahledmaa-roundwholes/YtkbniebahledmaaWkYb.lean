/-
  Walks of the document's answers to whole numbers, powers of two and roots.
-/
import Derived.Test.YtkbniebahledmaaWkT
import Derived.Test.YtkbniebahledmaaFltK
namespace Go.Proofs.Ytkbniebahledmaa
open Go.RowKit
set_option linter.unusedVariables false

end Go.Proofs.Ytkbniebahledmaa
