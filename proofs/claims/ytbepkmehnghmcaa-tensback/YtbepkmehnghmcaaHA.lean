import Derived.Test.YtbepkmehnghmcaaGZ

/-
  Layer 4: the document's answer to what two shapes come to.
-/
namespace Go.Proofs.Ytbepkmehnghmcaa
open Go.RowKit
set_option linter.unusedVariables false

def dimV (ds : List Int) (k : Nat) : Int := if ds.length ≤ k then 1 else ds.getD (ds.length - 1 - k) 0
def bcD (a b : List Int) (i : Nat) : Int := if dimV a i = 1 then dimV b i else dimV a i
def rankOf (a b : List Int) : Nat := max a.length b.length
def bcL (a b : List Int) : List Int := (List.range (rankOf a b)).map fun j => bcD a b (rankOf a b - 1 - j)
def fits (a b : List Int) : Prop := ∀ i, i < rankOf a b → dimV a i = dimV b i ∨ dimV a i = 1 ∨ dimV b i = 1
/-- Broadcast: the list and the error that the document asks. -/
def BroadR (a b xs : List Int) (e : Int) : Prop :=
  ((sizeV a).2 ≠ 0 ∧ xs = [] ∧ e = (sizeV a).2) ∨ ((sizeV a).2 = 0 ∧ (sizeV b).2 ≠ 0 ∧ xs = [] ∧ e = (sizeV b).2) ∨ ((sizeV a).2 = 0 ∧ (sizeV b).2 = 0 ∧ ¬ fits a b ∧ xs = [] ∧ e = 3) ∨
  ((sizeV a).2 = 0 ∧ (sizeV b).2 = 0 ∧ fits a b ∧ (sizeV (bcL a b)).2 ≠ 0 ∧ xs = [] ∧ e = (sizeV (bcL a b)).2) ∨ ((sizeV a).2 = 0 ∧ (sizeV b).2 = 0 ∧ fits a b ∧ (sizeV (bcL a b)).2 = 0 ∧ xs = bcL a b ∧ e = 0)
theorem dimV_range {ds : List Int} (h : ∀ d ∈ ds, 0 ≤ d ∧ d ≤ 4096) (k : Nat) : 0 ≤ dimV ds k ∧ dimV ds k ≤ 4096 := by
  unfold dimV
  split
  · omega
  · exact h _ (getD_mem (by omega))
theorem bcL_length (a b : List Int) : (bcL a b).length = rankOf a b := by simp [bcL]
theorem bcL_eq {a b xs : List Int} (hl : xs.length = rankOf a b) (h : ∀ i, i < rankOf a b → xs.getD (rankOf a b - 1 - i) 0 = bcD a b i) : xs = bcL a b := by
  apply List.ext_getElem
  · rw [hl, bcL_length]
  · intro j h1 h2
    have := h (rankOf a b - 1 - j) (by omega)
    rw [show rankOf a b - 1 - (rankOf a b - 1 - j) = j by omega] at this
    rw [List.getD_eq_getElem?_getD, List.getElem?_eq_getElem h1] at this
    simp [bcL]
    simpa using this

end Go.Proofs.Ytbepkmehnghmcaa
