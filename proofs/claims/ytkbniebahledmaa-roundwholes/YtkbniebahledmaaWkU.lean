/-
  Walks of the document's answers to products and quotients, and to Round.
-/
import Derived.Test.YtkbniebahledmaaWkT
namespace Go.Proofs.Ytkbniebahledmaa
open Go.RowKit
set_option linter.unusedVariables false

end Go.Proofs.Ytkbniebahledmaa
