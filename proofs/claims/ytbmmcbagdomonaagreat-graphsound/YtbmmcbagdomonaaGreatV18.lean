import Derived.Test.YtbmmcbagdomonaaGreatV03
set_option maxRecDepth 100000
set_option maxHeartbeats 40000000
namespace Go.Proofs.YtbmmcbagdomonaaGreat
open Go.RowKit
set_option linter.unusedVariables false
theorem al2 (w:World) (a b:Obj):Below w.heap.size w ((w.alloc a).alloc b):=((Below.refl _ _).alloc (Nat.le_refl _) _).alloc (by simp) _
end Go.Proofs.YtbmmcbagdomonaaGreat
