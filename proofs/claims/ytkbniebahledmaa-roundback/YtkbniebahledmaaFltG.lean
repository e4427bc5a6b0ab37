/-
  AddBy, MulBy and DivBy of package soft are the document's, of all finite floats. No program is named here.
-/
import Derived.Test.YtkbniebahledmaaFltF
namespace Go.Proofs.Ytkbniebahledmaa
namespace Flt

/-- A float without its sign. -/
def mg (a : Int) : Nat := (a % 2147483648).toNat
theorem mg_lt (a : Int) : mg a < 2147483648 := by unfold mg; omega
theorem isNaN_iff (a : Int) : isNaN a = true ↔ 2139095040 < mg a := by unfold isNaN mg; rw [decide_eq_true_eq]; omega
theorem isNaN_not (a : Int) : isNaN a = false ↔ mg a ≤ 2139095040 := by unfold isNaN mg; rw [decide_eq_false_iff_not]; omega
theorem isInf_iff (a : Int) : isInf a = true ↔ mg a = 2139095040 := by unfold isInf mg; rw [decide_eq_true_eq]; omega
theorem isInf_not (a : Int) : isInf a = false ↔ mg a ≠ 2139095040 := by unfold isInf mg; rw [decide_eq_false_iff_not]; omega
theorem fin_iff (a : Int) : (isNaN a = false ∧ isInf a = false) ↔ mg a < 2139095040 := by rw [isNaN_not, isInf_not]; omega
theorem signed_eq (a : Int) (h0 : 0 ≤ a) (h1 : a < 4294967296) : a = signBit (sgn a) + (mg a : Int) := by
  unfold signBit sgn mg
  by_cases h : 2147483648 ≤ a
  · simp [h]; omega
  · simp [h]; omega
theorem sgn_signed (n : Bool) (m : Nat) (h : m < 2147483648) : sgn (signBit n + (m : Int)) = n := by
  unfold sgn signBit
  cases n
  · simp; omega
  · simp; omega
theorem mg_signed (n : Bool) (m : Nat) (h : m < 2147483648) : mg (signBit n + (m : Int)) = m := by
  unfold mg signBit
  cases n
  · simp; omega
  · simp; omega
theorem signed_range (n : Bool) (m : Nat) (h : m < 2147483648) : 0 ≤ signBit n + (m : Int) ∧ signBit n + (m : Int) < 4294967296 := by
  unfold signBit; cases n
  · simp; omega
  · simp; omega

theorem amt (a : Int) (_h0 : 0 ≤ a) (hf : mg a < 2139095040) :
    ∃ e s : Nat, expo a = (e : Int) - 149 ∧ sig a = (s : Int) ∧ s < 16777216 ∧ e ≤ 253 ∧ (0 < e → 8388608 ≤ s) ∧ A (mg a) = s * 2 ^ e ∧ (s = 0 ↔ mg a = 0) := by
  unfold mg at *
  unfold expo sig
  by_cases h : a / 8388608 % 256 = 0
  · refine ⟨0, (a % 8388608).toNat, by rw [if_pos h]; omega, by rw [if_pos h]; omega, by omega, by omega, by omega, ?_, by omega⟩
    have := A_form 0 (a % 8388608).toNat (by omega) (by omega)
    rw [← this]
    congr 1; omega
  · refine ⟨(a / 8388608 % 256 - 1).toNat, (a % 8388608 + 8388608).toNat, by rw [if_neg h]; omega, by rw [if_neg h]; omega, by omega, by omega, by omega, ?_, by omega⟩
    have := A_form (a / 8388608 % 256 - 1).toNat (a % 8388608 + 8388608).toNat (by omega) (by omega)
    rw [← this]
    congr 1; omega

theorem addBy_fin (way a b : Int) (h0 : 0 ≤ a) (g0 : 0 ≤ b) (ha : mg a < 2139095040) (hb : mg b < 2139095040) :
    SumSpec way (sgn a) (sgn b) (A (mg a)) (A (mg b)) (addBy way a b) := by
  obtain ⟨n1, n2⟩ := (fin_iff a).2 ha
  obtain ⟨n3, n4⟩ := (fin_iff b).2 hb
  have hd : addBy way a b = sumM way (sgn a) (expo a) (sig a) (sgn b) (expo b) (sig b) := by simp [addBy, n1, n2, n3, n4]
  rw [hd]
  obtain ⟨ex, xs, x1, x2, x3, x4, x5, x6, _⟩ := amt a h0 ha
  obtain ⟨ey, ys, y1, y2, y3, y4, y5, y6, _⟩ := amt b g0 hb
  rw [x1, x2, y1, y2, x6, y6]
  unfold sumM
  by_cases ho : (ex : Int) - 149 < (ey : Int) - 149
  · rw [if_pos ho]
    refine SumSpec.swap ?_
    by_cases hg : ey - ex ≤ 39
    · exact sum_near_spec way _ _ ey ys ex xs y3 x3 (by omega) hg (by omega)
    · exact sum_far_spec way _ _ ey ys ex xs y3 (y5 (by omega)) x3 (by omega) (by omega)
  · rw [if_neg ho]
    by_cases hg : ex - ey ≤ 39
    · exact sum_near_spec way _ _ ex xs ey ys x3 y3 (by omega) hg (by omega)
    · exact sum_far_spec way _ _ ex xs ey ys x3 (x5 (by omega)) y3 (by omega) (by omega)

theorem RN_zero (way : Int) (neg : Bool) (q : Nat) (hq : 0 < q) : RN way neg 0 q 0 := by
  refine ⟨0, ⟨by omega, by simp [A_zero], fun _ => ?_⟩, ?_⟩
  · have : A (0 + 1) = 1 := by have := A_form 0 1 (by omega) (by omega); simpa using this
    rw [this]; omega
  · simp [pick, A_zero]

theorem mulBy_fin (way a b : Int) (h0 : 0 ≤ a) (g0 : 0 ≤ b) (ha : mg a < 2139095040) (hb : mg b < 2139095040) :
    ∃ r : Nat, mulBy way a b = signBit (sgn a != sgn b) + (r : Int) ∧ RN way (sgn a != sgn b) (A (mg a) * A (mg b)) (2 ^ 149) r := by
  obtain ⟨n1, n2⟩ := (fin_iff a).2 ha
  obtain ⟨n3, n4⟩ := (fin_iff b).2 hb
  have hd : mulBy way a b = rnd way (sgn a != sgn b) (expo a + expo b) (sig a * sig b) false := by simp [mulBy, n1, n2, n3, n4]
  rw [hd]
  obtain ⟨ex, xs, x1, x2, x3, x4, x5, x6, _⟩ := amt a h0 ha
  obtain ⟨ey, ys, y1, y2, y3, y4, y5, y6, _⟩ := amt b g0 hb
  rw [x1, x2, y1, y2, x6, y6, ← Int.natCast_mul]
  rcases Nat.eq_zero_or_pos (xs * ys) with hz | hz
  · have e0 : xs * 2 ^ ex * (ys * 2 ^ ey) = 0 := by
      rw [show xs * 2 ^ ex * (ys * 2 ^ ey) = xs * ys * (2 ^ ex * 2 ^ ey) by ac_rfl, hz, Nat.zero_mul]
    rw [hz, e0]
    refine ⟨0, ?_, RN_zero way _ _ (Nat.two_pow_pos _)⟩
    simp [rnd]
  · have hlt : xs * ys < 16777216 * 16777216 := Nat.mul_lt_mul'' x3 y3
    refine rnd_RN way _ _ (xs * ys) false _ (2 ^ 149) 149 (ex + ey) hz (by omega) (by omega) (by omega) (Nat.two_pow_pos _) (by omega) (.inl ⟨rfl, ?_⟩)
    rw [Nat.pow_add]; ac_rfl

theorem divBy_fin (way a b : Int) (h0 : 0 ≤ a) (g0 : 0 ≤ b) (ha : mg a < 2139095040) (hb : mg b < 2139095040) (za : mg a ≠ 0) (zb : mg b ≠ 0) :
    ∃ r : Nat, divBy way a b = signBit (sgn a != sgn b) + (r : Int) ∧ RN way (sgn a != sgn b) (A (mg a) * 2 ^ 149) (A (mg b)) r := by
  obtain ⟨n1, n2⟩ := (fin_iff a).2 ha
  obtain ⟨n3, n4⟩ := (fin_iff b).2 hb
  have z1 : ¬ a % 2147483648 = 0 := by unfold mg at za; omega
  have z2 : ¬ b % 2147483648 = 0 := by unfold mg at zb; omega
  have hd : divBy way a b = quoM way (sgn a != sgn b) (expo a) (sig a) (expo b) (sig b) := by simp [divBy, n1, n2, n3, n4, z1, z2]
  rw [hd]
  obtain ⟨ex, xs, x1, x2, x3, x4, x5, x6, x7⟩ := amt a h0 ha
  obtain ⟨ey, ys, y1, y2, y3, y4, y5, y6, y7⟩ := amt b g0 hb
  rw [x1, x2, y1, y2, x6, y6]
  have xs1 : 1 ≤ xs := by rcases Nat.eq_zero_or_pos xs with h | h; (exact absurd (x7.1 h) za); exact h
  have ys1 : 1 ≤ ys := by rcases Nat.eq_zero_or_pos ys with h | h; (exact absurd (y7.1 h) zb); exact h
  obtain ⟨L, hL, L1, S0, S1, _⟩ := lz_nat xs xs1 (by omega)
  unfold quoM
  rw [hL, Int.toNat_natCast, pow_cast, ← Int.natCast_mul, ← Int.natCast_ediv, ← Int.natCast_emod]
  have dm := Nat.div_add_mod (xs * 2 ^ L) ys
  have dl := Nat.mod_lt (xs * 2 ^ L) (show ys > 0 by omega)
  have qlo : 549755813888 ≤ xs * 2 ^ L / ys := by
    rw [Nat.le_div_iff_mul_le (by omega)]
    have : 549755813888 * ys ≤ 549755813888 * 16777216 := Nat.mul_le_mul_left _ (by omega)
    omega
  have qhi : xs * 2 ^ L / ys ≤ xs * 2 ^ L := Nat.div_le_self _ _
  have hp : xs * 2 ^ ex * 2 ^ 149 * 2 ^ (L + ey) = (xs * 2 ^ L) * (2 ^ ey * 2 ^ (ex + 149)) := by
    rw [Nat.pow_add, Nat.pow_add]; ac_rfl
  generalize hS : xs * 2 ^ L = S at *
  have pp : 0 < 2 ^ ey * 2 ^ (ex + 149) := Nat.mul_pos (Nat.two_pow_pos _) (Nat.two_pow_pos _)
  have hs : ∀ z : Nat, z * (ys * 2 ^ ey) * 2 ^ (ex + 149) = (z * ys) * (2 ^ ey * 2 ^ (ex + 149)) := by
    intro z; rw [← Nat.mul_assoc z, Nat.mul_assoc (z * ys)]
  have hAb : 0 < ys * 2 ^ ey := Nat.mul_pos ys1 (Nat.two_pow_pos _)
  by_cases hr : S % ys = 0
  · have n : decide (((S % ys : Nat) : Int) ≠ 0) = false := by simp [hr]
    rw [n]
    refine rnd_RN way _ _ (S / ys) false _ (ys * 2 ^ ey) (L + ey) (ex + 149) (by omega) (by omega) (by omega) (by omega) hAb (by omega) (.inl ⟨rfl, ?_⟩)
    rw [hp, hs]
    congr 1
    rw [Nat.mul_comm]; omega
  · have n : decide (((S % ys : Nat) : Int) ≠ 0) = true := by
      rw [decide_eq_true_eq]; omega
    rw [n]
    refine rnd_RN way _ _ (S / ys) true _ (ys * 2 ^ ey) (L + ey) (ex + 149) (by omega) (by omega) (by omega) (by omega) hAb (by omega) (.inr (.inl ⟨rfl, by omega, ?_, ?_⟩))
    · rw [hp, hs]
      refine Nat.mul_lt_mul_of_pos_right ?_ pp
      rw [Nat.mul_comm]; omega
    · rw [hp, hs]
      refine Nat.mul_lt_mul_of_pos_right ?_ pp
      rw [Nat.mul_comm, Nat.mul_add]; omega

/-- What is picked is no more than the infinite one. -/
theorem RN_le {way : Int} {neg : Bool} {p q r : Nat} (h : RN way neg p q r) : r ≤ 2139095040 := by
  obtain ⟨m, ⟨m1, _, _⟩, rfl⟩ := h
  unfold pick
  (repeat' split) <;> omega
end Flt
end Go.Proofs.Ytkbniebahledmaa
