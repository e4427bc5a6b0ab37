import Derived.Test.YtbcmfgohbppndabLI
import Derived.Test.YtbcmfgohbppndabLF

/-
  Layer 6: the code's Last, Joined.
-/
namespace Go.Proofs.Ytbcmfgohbppndab
open Go.RowKit
set_option linter.unusedVariables false

theorem okW_one (l : List FA) (x : Int) : okW [x] l = !(l.any fun a => a.wr != x) := by
  unfold okW
  induction l with
  | nil => rfl
  | cons a r ih =>
    rw [List.all_cons, List.any_cons, ih]
    by_cases h : a.wr = x <;> simp [h]
theorem ls_one64 (w : World) (x : Int) (t : TypeId) : Ls (Value.int .i64) (w.alloc (.cells #[.int .i64 x] t)) (some ⟨w.heap.size, 0, none⟩) 1 [x] := ls_one6 w x t
end Go.Proofs.Ytbcmfgohbppndab
