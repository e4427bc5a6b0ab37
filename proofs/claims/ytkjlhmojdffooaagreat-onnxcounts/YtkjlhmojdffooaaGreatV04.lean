import Derived.Test.YtkjlhmojdffooaaGreatV03

/-
  Layer 6: the document's picks.
-/
namespace Go.Proofs.YtkjlhmojdffooaaGreat
open Go.RowKit
set_option linter.unusedVariables false

def allA (l : List FA) (num : Int) : List FA := l.filter (fun a => a.n == num)
theorem allA_f (l : List FA) (num : Int) : (allA l num).map FA.f = allV (l.map FA.f) num := by
  unfold allA allV
  rw [List.filter_map]
  rfl
theorem allA_take (l : List FA) (num : Int) (n : Nat) (h : n < l.length) : allA (l.take (n + 1)) num = allA (l.take n) num ++ (if (l.getD n noFA).n == num then [l.getD n noFA] else []) := by
  unfold allA
  rw [List.take_add_one, List.filter_append, List.getD_eq_getElem?_getD]
  rw [List.getElem?_eq_getElem h]
  simp [List.filter_cons]
theorem allA_len (l : List FA) (num : Int) (n : Nat) : (allA (l.take n) num).length ≤ n := by
  unfold allA
  have := List.length_filter_le (fun a => a.n == num) (l.take n)
  rw [List.length_take] at this
  omega
theorem any_map (P : Fld → Bool) (l : List FA) : (l.map FA.f).any P = l.any (fun a => P a.f) := by rw [List.any_map]; rfl
end Go.Proofs.YtkjlhmojdffooaaGreat
