/-
  Floats without their broken part. No program is named here.
-/
import Derived.Test.YtkbniebahledmaaFltK
namespace Go.Proofs.Ytkbniebahledmaa
namespace Flt

theorem cut_up (E f : Nat) (h : 150 ≤ E) : f * 2 ^ (E - 1) / 2 ^ 149 = f * 2 ^ (E - 150) := by
  have e : f * 2 ^ (E - 1) = f * 2 ^ (E - 150) * 2 ^ 149 := by rw [Nat.mul_assoc, ← Nat.pow_add, show E - 150 + 149 = E - 1 by omega]
  rw [e, Nat.mul_div_cancel _ (Nat.two_pow_pos 149)]
theorem cut_down (E f : Nat) (h1 : 1 ≤ E) (h2 : E ≤ 150) : f * 2 ^ (E - 1) / 2 ^ 149 = f / 2 ^ (150 - E) := by
  have e : (2 : Nat) ^ 149 = 2 ^ (150 - E) * 2 ^ (E - 1) := by rw [← Nat.pow_add, show 150 - E + (E - 1) = 149 by omega]
  rw [e, Nat.mul_div_mul_right _ _ (Nat.two_pow_pos (E - 1))]
/-- The bits and the exponent that are cut, of a float without its sign. -/
def cutE (m : Nat) : Nat := if m / 8388608 = 0 then 1 else m / 8388608
def cutF (m : Nat) : Nat := if m / 8388608 = 0 then m % 8388608 else m % 8388608 + 8388608
theorem A_cut (m : Nat) : A m = cutF m * 2 ^ (cutE m - 1) := by
  unfold A cutE cutF
  by_cases h : m < 8388608
  · rw [if_pos h, if_pos (by omega), if_pos (by omega), Nat.mod_eq_of_lt h]; simp
  · rw [if_neg h, if_neg (by omega), if_neg (by omega), Nat.add_comm]
theorem cutF_lt (m : Nat) : cutF m < 16777216 := by unfold cutF; split <;> omega
theorem cut_lt (m : Nat) (h : m / 8388608 < 190) : A m / 2 ^ 149 < 9223372036854775808 := by
  rw [Nat.div_lt_iff_lt_mul (Nat.two_pow_pos 149), A_cut]
  have h1 := cutF_lt m
  have h2 : cutE m ≤ 189 := by unfold cutE; split <;> omega
  have h3 : 2 ^ (cutE m - 1) ≤ 2 ^ 188 := Nat.pow_le_pow_right (by decide) (by omega)
  have h4 : cutF m * 2 ^ (cutE m - 1) ≤ cutF m * 2 ^ 188 := Nat.mul_le_mul_left _ h3
  have h5 : cutF m * 2 ^ 188 < 16777216 * 2 ^ 188 := Nat.mul_lt_mul_of_pos_right h1 (Nat.two_pow_pos 188)
  have h6 : 16777216 * 2 ^ 188 = 9223372036854775808 * 2 ^ 149 := by decide
  omega
/-- A float without its broken part, as a whole number of 64 bits. -/
def toIntV (a : Int) : Int :=
  if isNaN a = true then 0
  else if 190 ≤ mg a / 8388608 then (if sgn a = true then -9223372036854775808 else 9223372036854775807)
  else if sgn a = true then -((A (mg a) / 2 ^ 149 : Nat) : Int) else ((A (mg a) / 2 ^ 149 : Nat) : Int)
/-- The root where nothing is rounded. -/
def sqrtX (a : Int) : Int := if isNaN a = true then 2143289344 else if absF a = 0 ∨ a = 2139095040 then a else 2143289344
/-- The fused product and sum where not all are finite. -/
def fmaX (a b c : Int) : Int :=
  if (isNaN a || isNaN b || isNaN c || isNaN (mulBy 0 a b)) = true then 2143289344
  else if (isInf a || isInf b) = true then (if (isInf c && (sgn c != (sgn a != sgn b))) = true then 2143289344 else mulBy 0 a b)
  else c
theorem div_cast (F k : Nat) : ((F / 2 ^ k : Nat) : Int) = (F : Int) / 2 ^ k := by rw [pow_cast, ← Int.natCast_ediv]
theorem half_step (f j : Nat) : f / 2 ^ j / 2 = f / 2 ^ (j + 1) := by rw [Nat.pow_succ, Nat.div_div_eq_div_mul]
end Flt
end Go.Proofs.Ytkbniebahledmaa
