import Derived.Test.YtbcmfgohbppndabLE

/-
  Layer 6: the code's copied, All.
-/
namespace Go.Proofs.Ytbcmfgohbppndab
open Go.RowKit
set_option linter.unusedVariables false

end Go.Proofs.Ytbcmfgohbppndab
