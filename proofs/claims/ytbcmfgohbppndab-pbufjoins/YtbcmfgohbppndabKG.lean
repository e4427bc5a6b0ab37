import Derived.Test.YtbcmfgohbppndabKF

/-
  Layer 6: the document's joined bytes and lists.
-/
namespace Go.Proofs.Ytbcmfgohbppndab
open Go.RowKit
set_option linter.unusedVariables false

def sumD (l : List FA) : Nat := (l.map fun a => a.d.length).sum
theorem sumD_append (l m : List FA) : sumD (l ++ m) = sumD l + sumD m := by simp [sumD]
theorem sumD_all (l : List FA) (num : Int) : sumD (allA l num) ≤ sumD l := by
  induction l with
  | nil => simp [allA, sumD]
  | cons a r ih =>
    have e : sumD (a :: r) = a.d.length + sumD r := by simp [sumD]
    unfold allA at ih ⊢
    rw [List.filter_cons]
    split
    · have e2 : sumD (a :: r.filter fun a => a.n == num) = a.d.length + sumD (r.filter fun a => a.n == num) := by simp [sumD]
      omega
    · omega
theorem sumD_take (l : List FA) (n : Nat) : sumD (l.take n) ≤ sumD l := by
  have := sumD_append (l.take n) (l.drop n)
  rw [List.take_append_drop] at this
  omega
def flatD (l : List FA) : List Int := l.flatMap fun a => a.d
theorem flatD_len (l : List FA) : (flatD l).length = sumD l := by
  unfold flatD sumD
  rw [List.length_flatMap]
theorem flatD_f (l : List FA) : (l.map FA.f).flatMap (fun f => f.2.2.2) = flatD l := by
  unfold flatD
  rw [List.flatMap_map]
  rfl
theorem take_addF (l : List FA) (n : Nat) (h : n < l.length) : l.take (n + 1) = l.take n ++ [l.getD n noFA] := by
  rw [List.take_add_one, List.getD_eq_getElem?_getD, List.getElem?_eq_getElem h]
  rfl
theorem allA_in {w : World} {l : List FA} {num : Int} (h : ∀ a ∈ l, FaIn w a) : ∀ a ∈ allA l num, FaIn w a := fun a ha => h a (List.mem_filter.1 ha).1
theorem flatD_isB {w : World} {l : List FA} (h : ∀ a ∈ l, FaIn w a) : isB (flatD l) := fun c hc => by
  obtain ⟨a, ha, hd⟩ := List.mem_flatMap.1 hc
  exact (h a ha).ok.2.2 c hd

end Go.Proofs.Ytbcmfgohbppndab
