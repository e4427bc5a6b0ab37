import Derived.Test.YtbepkmehnghmcaaIT
import Derived.Test.YtbepkmehnghmcaaIM
import Derived.Test.YtbepkmehnghmcaaIQ
import Derived.Test.YtbepkmehnghmcaaJD
import Derived.Test.YtbepkmehnghmcaaJF
import Derived.Test.YtbepkmehnghmcaaJI
import Derived.Test.YtbepkmehnghmcaaJJ
import Derived.Test.YtbepkmehnghmcaaJL
import Derived.Test.YtbepkmehnghmcaaJN

/-
  Layer 5: the code's contracts, all of them.
-/
namespace Go.Proofs.Ytbepkmehnghmcaa
open Go.RowKit
set_option linter.unusedVariables false
end Go.Proofs.Ytbepkmehnghmcaa
