import Derived.Test.YtbepkmehnghmcaaIZ

/-
  Layer 5: the document's examples, as the statements ask them first.
-/
namespace Go.Proofs.Ytbepkmehnghmcaa
open Go.RowKit
set_option linter.unusedVariables false

theorem lit_ls {α : Type} [Inhabited α] (f : α → Value) (w : World) (t : TypeId) (xs : List α) (hl : xs.length ≤ 9223372036854775807) : Ls f (w.alloc (.cells ⟨xs.map f⟩ t)) (some ⟨w.heap.size, 0, none⟩) xs.length xs := by
  refine ⟨Nat.le_refl _, hl, fun _ => ⟨w.heap.size, 0, rfl, by simp, fun i hi => ?_⟩, fun h => by cases h⟩
  rw [(Box.new w ⟨xs.map f⟩ t).cell, Nat.zero_add]
  simp [hi, List.getD_eq_getElem?_getD]
theorem lit_ints (k : IntKind) (w : World) (t : TypeId) (xs : List Int) (hl : xs.length ≤ 9223372036854775807) (hw : ∀ x ∈ xs, (Lit.int k x).wf = true) : Ints k (w.alloc (.cells ⟨xs.map (Value.int k)⟩ t)) (some ⟨w.heap.size, 0, none⟩) xs.length xs :=
  (lit_ls (Value.int k) w t xs hl).ints hw
def t57 : Ten := (7, [2], [], [5, 7], [])
theorem aw5a : pickE t57 [3] [1, -1, 0] = 0 ∧ pickV t57 [3] [1, -1, 0] = (7, [3], [], [7, 0, 5], []) := by
  have h : pickE t57 [3] [1, -1, 0] = 0 := by decide
  exact ⟨h, by unfold pickV; rw [if_pos h]; decide⟩
theorem aw5b : pickE t57 [1] [2] = 2 ∧ pickV t57 [1] [2] = noTen := by
  have h : pickE t57 [1] [2] = 2 := by decide
  exact ⟨h, by unfold pickV; rw [h]; rfl⟩
theorem aw5c : intsE t57 = 0 ∧ intsV t57 = [5, 7] := by decide
theorem aw5d : checkV t57 = 0 := by decide
theorem aw5e : bytesV t57 = [5, 0, 0, 0, 0, 0, 0, 0, 7, 0, 0, 0, 0, 0, 0, 0] := by decide
theorem aw5f : fromE 9 [2] [1, 2] = 1 ∧ fromV 9 [2] [1, 2] = noTen := by
  have h : fromE 9 [2] [1, 2] = 1 := by
    unfold fromE
    rw [if_neg (by decide), if_neg (by decide), if_pos ⟨rfl, 1, by decide, by decide⟩]
  exact ⟨h, by unfold fromV; rw [h]; rfl⟩
theorem aw5g : canonT (0, [], [2139095041], [], []) = (0, [], [2143289344], [], []) := by decide
theorem aw5h : checkV (1, [2], [1], [], []) = 3 := by decide
end Go.Proofs.Ytbepkmehnghmcaa
