import Derived.Test.YtbepkmehnghmcaaGY

/-
  Layer 4: the document's indices.
-/
namespace Go.Proofs.Ytbepkmehnghmcaa
open Go.RowKit
set_option linter.unusedVariables false

/-- A row of n ints that the call made: its numbers. -/
def MadeI (w wr : World) (g n : Nat) (os : List Int) : Prop :=
  os.length = n ∧ wr.ownsRow w.heap.size 3 1 (.slice (some ⟨g, 0, none⟩) n n) n (vals os) ∧ Below w.heap.size w wr ∧ (∀ d ∈ os, (Lit.int .i64 d).wf = true) ∧ w.heap.size ≤ g
theorem MadeI.stored {w wr : World} {g n : Nat} {os : List Int} (h : MadeI w wr g n os) (j : Nat) (d : Int) (hd : (Lit.int .i64 d).wf = true) :
    MadeI w (wr.setCell ⟨g, j, none⟩ (.int .i64 d)) g n (os.set j d) := by
  obtain ⟨h1, h2, h3, h4, h5⟩ := h
  refine ⟨by simpa using h1, ?_, h3.setCell h5 _, ?_, h5⟩
  · have := (h2.stored j (.int .i64 d)).1
    unfold vals at this ⊢
    rw [← List.map_set] at this
    exact this
  · intro x hx
    rcases List.mem_or_eq_of_mem_set hx with h | h
    · exact h4 x h
    · subst h; exact hd
theorem MadeI.cell {w wr : World} {g n : Nat} {os : List Int} (h : MadeI w wr g n os) (j : Nat) (hj : j < n) : wr.cell? ⟨g, j, none⟩ = some (.int .i64 (os.getD j 0)) := by
  have hl := h.1
  rw [h.2.1.cellAt j (by omega), vals, List.getElem?_map, List.getElem?_eq_getElem (by omega), List.getD_eq_getElem?_getD, List.getElem?_eq_getElem (by omega)]; rfl
theorem MadeI.own {w wr : World} {g n : Nat} {os : List Int} (h : MadeI w wr g n os) : OwnI w wr (.slice (some ⟨g, 0, none⟩) n n) os :=
  ⟨by rw [h.1]; exact h.2.1, h.2.2.1, h.2.2.2.1⟩
theorem MadeI.first {w w1 : World} {n : Nat} (hown : w1.ownsRow w.heap.size 3 1 (.slice (some ⟨w.heap.size, 0, none⟩) n n) n (madeCells (Value.int .i64 0).cells (n * 1)).toList) (hg : w.grownBy w1 none) :
    MadeI w w1 w.heap.size n (List.replicate n 0) := by
  refine ⟨by simp, ?_, (Below.refl _ _).grown hg (Nat.le_refl _) (fun k hk => by cases hk), ?_, Nat.le_refl _⟩
  · have e : (madeCells (Value.int .i64 0).cells (n * 1)).toList = vals (List.replicate n 0) := by
      unfold vals
      rw [Nat.mul_one, show (Value.int .i64 0).cells = #[Value.int .i64 0] from rfl, toList_madeCells_one, List.map_replicate]
    rw [← e]; exact hown
  · intro d hd; rw [List.mem_replicate] at hd; rw [hd.2]; decide

/-- The last m digits' worth. -/
def sufM (ds xs : List Int) : Nat → Int
  | 0 => 0
  | m + 1 => xs.getD (ds.length - 1 - m) 0 * prodL (ds.drop (ds.length - m)) + sufM ds xs m
theorem drop_cons (ds : List Int) (i : Nat) (h : i < ds.length) : prodL (ds.drop i) = ds.getD i 0 * prodL (ds.drop (i + 1)) := by
  have : ds.getD i 0 = ds[i] := by simp [List.getElem?_eq_getElem h]
  rw [this, List.drop_eq_getElem_cons h]; rfl
/-- An offset is the first digits' worth and the last digits'. -/
theorem off_suf (ds xs : List Int) : ∀ n, n ≤ ds.length → offN ds xs n * prodL (ds.drop n) + sufM ds xs (ds.length - n) = sufM ds xs ds.length
  | 0, _ => by simp [offN]
  | n + 1, hn => by
    have ih := off_suf ds xs n (by omega)
    have e : ds.length - n = (ds.length - (n + 1)) + 1 := by omega
    rw [e] at ih
    show (offN ds xs n * ds.getD n 0 + xs.getD n 0) * prodL (ds.drop (n + 1)) + sufM ds xs (ds.length - (n + 1)) = _
    rw [← ih, drop_cons ds n (by omega)]
    show _ = _ + (xs.getD (ds.length - 1 - (ds.length - (n + 1))) 0 * prodL (ds.drop (ds.length - (ds.length - (n + 1)))) + sufM ds xs (ds.length - (n + 1)))
    rw [show ds.length - 1 - (ds.length - (n + 1)) = n by omega, show ds.length - (ds.length - (n + 1)) = n + 1 by omega, Int.add_mul, Int.mul_assoc, Int.add_assoc]
theorem off_is_suf (ds xs : List Int) : offN ds xs ds.length = sufM ds xs ds.length := by
  have := off_suf ds xs ds.length (Nat.le_refl _)
  rw [List.drop_length, Nat.sub_self] at this
  simpa [prodL, sufM] using this
/-- Only the last m digits count. -/
theorem sufM_congr {ds xs ys : List Int} : ∀ m, m ≤ ds.length → (∀ i, ds.length - m ≤ i → i < ds.length → xs.getD i 0 = ys.getD i 0) → sufM ds xs m = sufM ds ys m
  | 0, _, _ => rfl
  | m + 1, hm, h => by
    show xs.getD _ 0 * _ + sufM ds xs m = ys.getD _ 0 * _ + sufM ds ys m
    rw [h (ds.length - 1 - m) (by omega) (by omega), sufM_congr m (by omega) (fun i h1 h2 => h i (by omega) h2)]

/-- Index: the list and the error that the document asks. -/
def IndexR (ds : List Int) (at' : Int) (xs : List Int) (e : Int) : Prop :=
  ((sizeV ds).2 ≠ 0 ∧ xs = [] ∧ e = (sizeV ds).2) ∨ ((sizeV ds).2 = 0 ∧ (at' < 0 ∨ (sizeV ds).1 ≤ at') ∧ xs = [] ∧ e = 2) ∨
  ((sizeV ds).2 = 0 ∧ 0 ≤ at' ∧ at' < (sizeV ds).1 ∧ xs.length = ds.length ∧ inR ds xs ∧ offN ds xs ds.length = at' ∧ e = 0)
theorem getD_set (xs : List Int) (i j : Nat) (d : Int) (h : i < xs.length) : (xs.set i d).getD j 0 = if j = i then d else xs.getD j 0 := by
  rw [List.getD_eq_getElem?_getD, List.getD_eq_getElem?_getD, List.getElem?_set]
  by_cases e : i = j
  · subst e; simp [h]
  · rw [if_neg e, if_neg (fun h => e h.symm)]

end Go.Proofs.Ytbepkmehnghmcaa
