/-
  Walks of the document's answer to roots.
-/
import Derived.Test.YtkbniebahledmaaWkT
import Derived.Test.YtkbniebahledmaaFltK
namespace Go.Proofs.Ytkbniebahledmaa
open Go.RowKit
set_option linter.unusedVariables false

theorem root_end (n : Nat) (m : Nat) (hn : n < Flt.A 2139095040 * Flt.A 2139095040) (h1 : m + 1 ≤ 2139095040) (h2 : Flt.A m * Flt.A m ≤ n) (h3 : m + 1 = 2139095040 ∨ n < Flt.A (m + 1) * Flt.A (m + 1)) : Flt.IsRt n m := by
  refine ⟨by omega, h2, ?_⟩
  rcases h3 with h | h
  · rw [h]; exact hn
  · exact h
theorem root_bound (m : Nat) (h : m < 2139095040) : Flt.A m * 2 ^ 149 < Flt.A 2139095040 * Flt.A 2139095040 := by
  have h1 := Flt.A_strict h
  have h2 : (2 : Nat) ^ 149 ≤ Flt.A 2139095040 := by
    rw [Flt.A_inf]
    have : (2 : Nat) ^ 149 ≤ 2 ^ 254 := Nat.pow_le_pow_right (by decide) (by omega)
    omega
  have p : 0 < (2 : Nat) ^ 149 := Nat.two_pow_pos _
  exact Nat.lt_of_lt_of_le (Nat.mul_lt_mul_of_pos_right h1 p) (Nat.mul_le_mul_left _ h2)

end Go.Proofs.Ytkbniebahledmaa
