import Derived.Test.YtkbniebahledmabGD
import Derived.Test.YtkbniebahledmabGA

/-
  Walks of the document's answer to fused products and sums.
-/
namespace Go.Proofs.Ytkbniebahledmab
open Go.RowKit
set_option linter.unusedVariables false

end Go.Proofs.Ytkbniebahledmab

/-
  Walks of the document's answers to whole numbers, powers of two and roots.
-/
namespace Go.Proofs.Ytkbniebahledmab
open Go.RowKit
set_option linter.unusedVariables false

end Go.Proofs.Ytkbniebahledmab

/-
  Walks of the document's answer to roots.
-/
namespace Go.Proofs.Ytkbniebahledmab
open Go.RowKit
set_option linter.unusedVariables false

theorem root_end (n : Nat) (m : Nat) (hn : n < Flt.A 2139095040 * Flt.A 2139095040) (h1 : m + 1 ≤ 2139095040) (h2 : Flt.A m * Flt.A m ≤ n) (h3 : m + 1 = 2139095040 ∨ n < Flt.A (m + 1) * Flt.A (m + 1)) : Flt.IsRt n m := by
  refine ⟨by omega, h2, ?_⟩
  rcases h3 with h | h
  · rw [h]; exact hn
  · exact h
theorem root_bound (m : Nat) (h : m < 2139095040) : Flt.A m * 2 ^ 149 < Flt.A 2139095040 * Flt.A 2139095040 := by
  have h1 := Flt.A_strict h
  have h2 : (2 : Nat) ^ 149 ≤ Flt.A 2139095040 := by
    rw [Flt.A_inf]
    have : (2 : Nat) ^ 149 ≤ 2 ^ 254 := Nat.pow_le_pow_right (by decide) (by omega)
    omega
  have p : 0 < (2 : Nat) ^ 149 := Nat.two_pow_pos _
  exact Nat.lt_of_lt_of_le (Nat.mul_lt_mul_of_pos_right h1 p) (Nat.mul_le_mul_left _ h2)

end Go.Proofs.Ytkbniebahledmab

/-
  Walks of the document's answers to floats without their broken part.
-/
namespace Go.Proofs.Ytkbniebahledmab
open Go.RowKit
set_option linter.unusedVariables false

theorem ret_tup2 {a a' : Int} {b b' : Bool} (h : a = a') (g : b = b') : Ending.returned (.tuple #[.int .u64 a, .bool b]) = .returned (.tuple #[.int .u64 a', .bool b']) := by rw [h, g]

end Go.Proofs.Ytkbniebahledmab

/-
  Walks of the document's answers to roots and fused products and sums where nothing is rounded.
-/
namespace Go.Proofs.Ytkbniebahledmab
open Go.RowKit
set_option linter.unusedVariables false

theorem sg_no (a b : Bool) (h : (a == b) = false) (e : a = b) : False := by subst e; simp at h
theorem sg_yes (a b : Bool) (h : (a == b) = true) (e : ¬ a = b) : False := e (by simpa using h)

end Go.Proofs.Ytkbniebahledmab
