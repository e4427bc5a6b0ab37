import Derived.Test.YtbcmfgohbppndabKE

/-
  Layer 6: the document's picks.
-/
namespace Go.Proofs.Ytbcmfgohbppndab
open Go.RowKit
set_option linter.unusedVariables false

def allA (l : List FA) (num : Int) : List FA := l.filter (fun a => a.n == num)
theorem allA_f (l : List FA) (num : Int) : (allA l num).map FA.f = allV (l.map FA.f) num := by
  unfold allA allV
  rw [List.filter_map]
  rfl
theorem allA_take (l : List FA) (num : Int) (n : Nat) (h : n < l.length) : allA (l.take (n + 1)) num = allA (l.take n) num ++ (if (l.getD n noFA).n == num then [l.getD n noFA] else []) := by
  unfold allA
  rw [List.take_add_one, List.filter_append, List.getD_eq_getElem?_getD]
  rw [List.getElem?_eq_getElem h]
  simp [List.filter_cons]
theorem allA_len (l : List FA) (num : Int) (n : Nat) : (allA (l.take n) num).length ≤ n := by
  unfold allA
  have := List.length_filter_le (fun a => a.n == num) (l.take n)
  rw [List.length_take] at this
  omega
def lastA (l : List FA) (num wire : Int) : FA := if (lastV (l.map FA.f) num wire).2.1 = true then (allA l num).getD ((allA l num).length - 1) noFA else noFA
theorem any_take (P : Fld → Bool) (l : List FA) (n : Nat) (h : n < l.length) : (l.take (n + 1)).any (fun a => P a.f) = ((l.take n).any (fun a => P a.f) || P (l.getD n noFA).f) := by
  rw [List.take_add_one, List.any_append, List.getD_eq_getElem?_getD, List.getElem?_eq_getElem h]
  simp
theorem any_map (P : Fld → Bool) (l : List FA) : (l.map FA.f).any P = l.any (fun a => P a.f) := by rw [List.any_map]; rfl
theorem any_of {P : Fld → Bool} {l : List FA} {n : Nat} (h : n < l.length) (hp : P (l.getD n noFA).f = true) : l.any (fun a => P a.f) = true := List.any_eq_true.2 ⟨_, getD_memF h, hp⟩
theorem lastA_f (l : List FA) (num wire : Int) : (lastA l num wire).f = (lastV (l.map FA.f) num wire).1 := by
  unfold lastA lastV
  by_cases h : (allV (l.map FA.f) num).any (fun f => f.2.1 != wire) = true
  · rw [if_pos h]; rfl
  · rw [if_neg h]
    by_cases h0 : (allV (l.map FA.f) num).length = 0
    · rw [if_pos h0]; rfl
    · rw [if_neg h0, if_pos rfl, ← allA_f, List.length_map]
      rw [← allA_f, List.length_map] at h0
      show ((allA l num).getD ((allA l num).length - 1) noFA).f = ((allA l num).map FA.f).getD ((allA l num).length - 1) noFld
      rw [List.getD_eq_getElem?_getD, List.getD_eq_getElem?_getD, List.getElem?_map, List.getElem?_eq_getElem (by omega)]
      rfl
theorem lastA_in {w : World} {l : List FA} {num wire : Int} (h : ∀ a ∈ l, FaIn w a) : FaIn w (lastA l num wire) := by
  unfold lastA
  split
  · by_cases h0 : (allA l num).length = 0
    · rw [List.getD_eq_getElem?_getD, List.getElem?_eq_none (by omega)]; exact noFA_in w
    · have := getD_memF (show (allA l num).length - 1 < (allA l num).length by omega)
      exact h _ (List.mem_filter.1 this).1
  · exact noFA_in w
end Go.Proofs.Ytbcmfgohbppndab
