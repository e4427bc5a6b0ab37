import Derived.Test.YtnmciappielkcaaV04
set_option maxRecDepth 100000
set_option maxHeartbeats 8000000
namespace Go.Proofs.Ytnmciappielkcaa
open Go.RowKit
set_option linter.unusedVariables false
theorem al1p (w:World) (o:Obj):Below w.heap.size w (w.alloc o):=(Below.refl _ _).alloc (Nat.le_refl _) _
theorem bneTp {a b:Int} (h:¬ a = b):(a != b) = true:=by simp [h]
theorem bneFp {a b:Int} (h:a = b):(a != b) = false:=by simp [h]
theorem ls_one6 {α:Type} [Inhabited α] {f:α → Value} (w:World) (x:α) (t:TypeId):Ls f (w.alloc (.cells #[f x] t)) (some ⟨w.heap.size,0,none⟩) 1 [x]:=by
 refine ⟨Nat.le_refl _,by omega,fun _ => ⟨w.heap.size,0,rfl,by simp,fun i hi => ?_⟩,fun h => by cases h⟩
 have:i = 0:=by simp at hi; omega
 subst this; simp
end Go.Proofs.Ytnmciappielkcaa
