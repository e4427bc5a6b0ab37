import Derived.Test.YtbepkmehnghmcaaGX
import Derived.Test.YtbepkmehnghmcaaGU

/-
  Layer 4: the document's strides.
-/
namespace Go.Proofs.Ytbepkmehnghmcaa
open Go.RowKit
set_option linter.unusedVariables false

def strideL (ds : List Int) : List Int := (List.range ds.length).map fun i => wrap64 (prodL (ds.drop (i + 1)))
theorem strideL_length (ds : List Int) : (strideL ds).length = ds.length := by simp [strideL]
theorem strideL_take (ds : List Int) (n : Nat) (h : n < ds.length) : (strideL ds).take (n + 1) = (strideL ds).take n ++ [wrap64 (prodL (ds.drop (n + 1)))] := by
  rw [List.take_add_one]
  simp [strideL, h]
theorem wrap64_wf2 (a : Int) : (Lit.int .i64 (wrap64 a)).wf = true := wrap64_wf a
theorem drop_take_succ (ds : List Int) (n k : Nat) (h1 : n ≤ k) (h2 : k < ds.length) : (ds.take (k + 1)).drop n = (ds.take k).drop n ++ [ds.getD k 0] := by
  rw [take_succ ds k h2, List.drop_append_of_le_length (by rw [List.length_take]; omega)]
/-- Strides: the list and the error that the document asks. -/
def StridesR (ds xs : List Int) (e : Int) : Prop := ((sizeV ds).2 ≠ 0 ∧ xs = [] ∧ e = (sizeV ds).2) ∨ ((sizeV ds).2 = 0 ∧ xs = strideL ds ∧ e = 0)
theorem StridesR.one {ds xs ys : List Int} {e f : Int} (h : StridesR ds xs e) (k : StridesR ds ys f) : xs = ys ∧ e = f := by
  rcases h with ⟨a, b, c⟩ | ⟨a, b, c⟩ <;> rcases k with ⟨a', b', c'⟩ | ⟨a', b', c'⟩ <;> subst_vars
  · exact ⟨rfl, rfl⟩
  · exact absurd a' a
  · exact absurd a a'
  · exact ⟨rfl, rfl⟩
theorem one_cellI (w : World) (x : Int) : ∀ j u, (vals [x])[j]? = some u → (w.alloc (.cells #[.int .i64 x] 3)).cell? ((⟨w.heap.size, 0, none⟩ : Addr).add j) = some u := by
  intro j u hj
  match j, hj with
  | 0, hj => simp [vals] at hj; subst hj; simp [Addr.add]
  | j + 1, hj => simp [vals] at hj

end Go.Proofs.Ytbepkmehnghmcaa
