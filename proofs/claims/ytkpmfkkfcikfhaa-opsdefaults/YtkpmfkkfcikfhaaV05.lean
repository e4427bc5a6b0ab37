import Derived.Test.YtkpmfkkfcikfhaaV04
set_option maxRecDepth 100000
set_option maxHeartbeats 8000000
namespace Go.Proofs.Ytkpmfkkfcikfhaa
open Go.RowKit
set_option linter.unusedVariables false
theorem al1p (w:World) (o:Obj):Below w.heap.size w (w.alloc o):=(Below.refl _ _).alloc (Nat.le_refl _) _
theorem bneTp {a b:Int} (h:¬ a = b):(a != b) = true:=by simp [h]
theorem bneFp {a b:Int} (h:a = b):(a != b) = false:=by simp [h]
end Go.Proofs.Ytkpmfkkfcikfhaa
