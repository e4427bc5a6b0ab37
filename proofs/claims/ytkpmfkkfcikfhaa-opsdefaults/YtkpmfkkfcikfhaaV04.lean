import Derived.Test.YtkpmfkkfcikfhaaV03
set_option maxRecDepth 100000
set_option maxHeartbeats 8000000
namespace Go.Proofs.Ytkpmfkkfcikfhaa
open Go.RowKit
set_option linter.unusedVariables false
def isB (r:List Int):Prop:=∀ c ∈ r,0 ≤ c ∧ c < 256
end Go.Proofs.Ytkpmfkkfcikfhaa
