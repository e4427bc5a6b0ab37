/-
  Rounding as package soft reckons it is rounding as the document words it. No program is named here.
-/
import Derived.Test.YtkbniebahledmaaFltC
namespace Go.Proofs.Ytkbniebahledmaa
namespace Flt

/-- The dropped bits, for a drop of at most 64. -/
theorem rest_nat (S D : Nat) (hD : D ≤ 64) : restOf (S : Int) (D : Int) = ((S % 2 ^ D * 2 ^ (64 - D) : Nat) : Int) := by
  unfold restOf
  rw [if_pos (by omega), show (64 - (D : Int)).toNat = 64 - D by omega]
  have e : (2 : Nat) ^ 64 = 2 ^ D * 2 ^ (64 - D) := by rw [← Nat.pow_add, show D + (64 - D) = 64 by omega]
  have e2 : S * 2 ^ (64 - D) % 2 ^ 64 = S % 2 ^ D * 2 ^ (64 - D) := by rw [e, Nat.mul_mod_mul_right]
  rw [← e2, show (18446744073709551616 : Int) = ((2 ^ 64 : Nat) : Int) by decide, show (2 : Int) ^ (64 - D) = ((2 ^ (64 - D) : Nat) : Int) from (Int.natCast_pow 2 (64 - D)).symm, ← Int.natCast_mul, ← Int.natCast_emod]

theorem rest_zero (S D : Nat) (hD : D ≤ 64) : restOf (S : Int) (D : Int) = 0 ↔ S % 2 ^ D = 0 := by
  rw [rest_nat S D hD]
  have hp := Nat.two_pow_pos (64 - D)
  constructor
  · intro h
    have h2 : S % 2 ^ D * 2 ^ (64 - D) = 0 := by generalize S % 2 ^ D * 2 ^ (64 - D) = X at h ⊢; omega
    rcases Nat.mul_eq_zero.1 h2 with h3 | h3
    · exact h3
    · omega
  · intro h; rw [h]; simp
theorem half_nat (D : Nat) (hD : D ≤ 64) (h1 : 1 ≤ D) : 9223372036854775808 = 2 ^ (D - 1) * 2 ^ (64 - D) := by
  rw [← Nat.pow_add, show D - 1 + (64 - D) = 63 by omega]
theorem rest_half (S D : Nat) (hD : D ≤ 64) (h1 : 1 ≤ D) : restOf (S : Int) (D : Int) = 9223372036854775808 ↔ S % 2 ^ D = 2 ^ (D - 1) := by
  rw [rest_nat S D hD]
  have hp := Nat.two_pow_pos (64 - D)
  have hh := half_nat D hD h1
  constructor
  · intro h
    have h2 : S % 2 ^ D * 2 ^ (64 - D) = 9223372036854775808 := by generalize S % 2 ^ D * 2 ^ (64 - D) = X at h ⊢; omega
    rw [hh] at h2
    exact Nat.eq_of_mul_eq_mul_right hp h2
  · intro h; rw [h, ← hh]; rfl
theorem rest_ge (S D : Nat) (hD : D ≤ 64) (h1 : 1 ≤ D) : 9223372036854775808 ≤ restOf (S : Int) (D : Int) ↔ 2 ^ (D - 1) ≤ S % 2 ^ D := by
  rw [rest_nat S D hD]
  have hp := Nat.two_pow_pos (64 - D)
  have hh := half_nat D hD h1
  constructor
  · intro h
    have h2 : 9223372036854775808 ≤ S % 2 ^ D * 2 ^ (64 - D) := by generalize S % 2 ^ D * 2 ^ (64 - D) = X at h ⊢; omega
    rw [hh] at h2
    exact Nat.le_of_mul_le_mul_right h2 hp
  · intro h
    have h2 : 9223372036854775808 ≤ S % 2 ^ D * 2 ^ (64 - D) := by rw [hh]; exact Nat.mul_le_mul_right _ h
    generalize S % 2 ^ D * 2 ^ (64 - D) = X at h2 ⊢; omega

theorem pow_split (D : Nat) (h : 1 ≤ D) : 2 ^ D = 2 * 2 ^ (D - 1) := by
  rw [← Nat.pow_succ', show (D - 1).succ = D by omega]

/-- Does the amount go on to the next one? By the dropped bits alone. -/
theorem goesOn_iff (way : Int) (neg : Bool) (S D : Nat) (more : Bool) (h0 : 0 < S) (h1 : S < 18446744073709551616) (hD : 40 ≤ D) :
    goesOn way neg (S : Int) (D : Int) more = true ↔
      (way = 1 ∧ neg = false ∧ ¬ (more = false ∧ S % 2 ^ D = 0)) ∨ (way = 2 ∧ neg = true ∧ ¬ (more = false ∧ S % 2 ^ D = 0)) ∨
      (way ≠ 1 ∧ way ≠ 2 ∧ ((more = false ∧ S % 2 ^ D = 2 ^ (D - 1) ∧ S / 2 ^ D % 2 = 1) ∨ (more = true ∧ S % 2 ^ D = 2 ^ (D - 1)) ∨ 2 ^ (D - 1) < S % 2 ^ D)) := by
  unfold goesOn
  by_cases hd : D ≤ 64
  · have hd' : (D : Int) ≤ 64 := by omega
    have q1 : ((S : Int) / 2 ^ (D : Int).toNat % 2 = 1) ↔ S / 2 ^ D % 2 = 1 := by
      rw [Int.toNat_natCast]
      have : ((S / 2 ^ D % 2 : Nat) : Int) = (S : Int) / 2 ^ D % 2 := by push_cast; rfl
      rw [← this]; omega
    simp only [rest_zero S D hd, rest_half S D hd (by omega), rest_ge S D hd (by omega), q1, hd', decide_true, Bool.and_true, and_true]
    by_cases w1 : way = 1
    · subst w1
      cases neg <;> cases more <;> simp
    · by_cases w2 : way = 2
      · subst w2
        cases neg <;> cases more <;> simp
      · rw [if_neg w1, if_neg w2]
        have hp := Nat.two_pow_pos (D - 1)
        cases more
        · by_cases hh : S % 2 ^ D = 2 ^ (D - 1)
          · simp [hh, w1, w2]
          · simp [hh, w1, w2]; omega
        · simp [w1, w2]; omega
  · have hr : restOf (S : Int) (D : Int) = 0 := by unfold restOf; rw [if_neg (by omega)]
    have hd' : ¬ (D : Int) ≤ 64 := by omega
    have hp : 2 ^ 64 ≤ 2 ^ (D - 1) := Nat.pow_le_pow_right (by decide) (by omega)
    have hp2 := pow_split D (by omega)
    have hm : S % 2 ^ D = S := Nat.mod_eq_of_lt (by omega)
    rw [hm, hr]
    simp only [hd', decide_false, Bool.and_false, Bool.not_false, Bool.and_true, and_false, if_false]
    have n0 : S ≠ 0 := by omega
    have n1 : S ≠ 2 ^ (D - 1) := by omega
    have n2 : ¬ 2 ^ (D - 1) < S := by omega
    by_cases w1 : way = 1
    · subst w1; simp [n0]
    · by_cases w2 : way = 2
      · subst w2; simp [n0]
      · simp [w1, w2, n1, n2]

/-- From the value in two powers of two to the value at the drop. -/
theorem at_drop {p S q a b D f g : Nat} {more : Bool} (hF : f + a = D + b)
    (hv : (more = false ∧ p * 2 ^ a = S * q * 2 ^ b) ∨ (more = true ∧ S * q * 2 ^ b < p * 2 ^ a ∧ p * 2 ^ a < (S + g) * q * 2 ^ b)) :
    (more = false ∧ p * 2 ^ D = S * (q * 2 ^ f)) ∨ (more = true ∧ S * (q * 2 ^ f) < p * 2 ^ D ∧ p * 2 ^ D < (S + g) * (q * 2 ^ f)) := by
  have k1 : ∀ x : Nat, x * q * 2 ^ b * 2 ^ D = x * (q * 2 ^ f) * 2 ^ a := by
    intro x
    rw [Nat.mul_assoc (x * q), ← Nat.pow_add, Nat.add_comm b D, ← hF, Nat.pow_add, ← Nat.mul_assoc, Nat.mul_assoc x q]
  have k2 : p * 2 ^ a * 2 ^ D = p * 2 ^ D * 2 ^ a := by ac_rfl
  have pa := Nat.two_pow_pos a
  have pD := Nat.two_pow_pos D
  rcases hv with ⟨h, e⟩ | ⟨h, e1, e2⟩
  · left
    refine ⟨h, Nat.eq_of_mul_eq_mul_right pa ?_⟩
    rw [← k2, e, k1]
  · right
    refine ⟨h, Nat.lt_of_mul_lt_mul_right (a := 2 ^ a) ?_, Nat.lt_of_mul_lt_mul_right (a := 2 ^ a) ?_⟩
    · rw [← k2, ← k1]; exact Nat.mul_lt_mul_of_pos_right e1 pD
    · rw [← k2, ← k1]; exact Nat.mul_lt_mul_of_pos_right e2 pD

/-- The amount that the code picks is the one that the way picks. -/
theorem pick_goes {way : Int} {neg more : Bool} {p q m S D : Nat} (h0 : 0 < S) (h1 : S < 18446744073709551616) (hD : 40 ≤ D) (hm : m < 2139095040)
    (c1 : A m * q = p ↔ (more = false ∧ S % 2 ^ D = 0))
    (c2 : (A m + A (m + 1)) * q < 2 * p ↔ (2 ^ (D - 1) < S % 2 ^ D ∨ (more = true ∧ S % 2 ^ D = 2 ^ (D - 1))))
    (c3 : (A m + A (m + 1)) * q = 2 * p ↔ (more = false ∧ S % 2 ^ D = 2 ^ (D - 1))) (hodd : m % 2 = S / 2 ^ D % 2) :
    pick way neg p q m = m + (if goesOn way neg (S : Int) (D : Int) more = true then 1 else 0) := by
  have hg := goesOn_iff way neg S D more h0 h1 hD
  unfold pick
  rw [if_neg (by omega)]
  simp only [hg, c1, c2, c3, hodd]
  have hp := Nat.two_pow_pos (D - 1)
  by_cases w1 : way = 1
  · subst w1
    cases neg
    · by_cases hx : more = false ∧ S % 2 ^ D = 0
      · simp [hx]
      · simp [inW, outW, hx]
    · simp [inW]
  · by_cases w2 : way = 2
    · subst w2
      cases neg
      · simp [inW]
      · by_cases hx : more = false ∧ S % 2 ^ D = 0
        · simp [hx]
        · simp [inW, outW, hx]
    · have i0 : inW way neg = false := by simp [inW, w1, w2]
      have o0 : outW way neg = false := by simp [outW, w1, w2]
      simp only [i0, o0, w1, w2]
      generalize S % 2 ^ D = R at *
      generalize 2 ^ (D - 1) = H at *
      generalize S / 2 ^ D % 2 = o at *
      clear hg c1 c2 c3 hodd
      by_cases e0 : R = 0 <;> by_cases e1 : H < R <;> by_cases e2 : R = H <;> by_cases e3 : o = 1 <;> first | (exfalso; omega) | (cases more <;> simp [e0, e1, e2, e3]; done) | (cases more <;> simp_all; done) | (cases more <;> simp_all <;> omega)

theorem beyond_pick (way : Int) (neg : Bool) : beyond way neg = ((if inW way neg = true then 2139095039 else 2139095040 : Nat) : Int) := by
  unfold beyond inW
  by_cases w1 : way = 1
  · subst w1; cases neg <;> simp
  · by_cases w2 : way = 2
    · subst w2; cases neg <;> simp
    · simp [w1, w2]

/-- A word whose first bit is 1, at an exponent field, as the code rounds it. -/
theorem core_RN (way : Int) (neg more : Bool) (S : Nat) (F : Int) (p q a b g : Nat) (h0 : 9223372036854775808 ≤ S) (h1 : S < 18446744073709551616) (hq : 0 < q)
    (hF : F - 41 = (b : Int) - a) (gS : g ∣ S) (gH : g ∣ 2 ^ 39)
    (hv : (more = false ∧ p * 2 ^ a = S * q * 2 ^ b) ∨ (more = true ∧ S * q * 2 ^ b < p * 2 ^ a ∧ p * 2 ^ a < (S + g) * q * 2 ^ b)) :
    ∃ r : Nat, core way neg (S : Int) F more = (r : Int) ∧ RN way neg p q r := by
  by_cases f1 : 254 < F
  · refine ⟨_, ?_, 2139095040, ⟨Nat.le_refl _, ?_, fun h => absurd h (Nat.lt_irrefl _)⟩, rfl⟩
    · unfold core pick
      rw [if_pos f1, if_pos rfl]; exact beyond_pick way neg
    · rw [A_inf]
      obtain ⟨c, hc⟩ : ∃ c, b = a + 214 + c := ⟨b - a - 214, by omega⟩
      have low : S * q * 2 ^ b ≤ p * 2 ^ a := by rcases hv with ⟨_, e⟩ | ⟨_, e, _⟩ <;> omega
      have e1 : 9223372036854775808 * q * 2 ^ b ≤ S * q * 2 ^ b := Nat.mul_le_mul_right _ (Nat.mul_le_mul_right _ h0)
      have e2 : 9223372036854775808 * q * 2 ^ b = (9223372036854775808 * 2 ^ 214 * q * 2 ^ c) * 2 ^ a := by
        rw [hc, Nat.pow_add, Nat.pow_add]; ac_rfl
      have e3 : 9223372036854775808 * 2 ^ 214 * q * 2 ^ c ≤ p := Nat.le_of_mul_le_mul_right (by omega) (Nat.two_pow_pos a)
      have e4 : 9223372036854775808 * 2 ^ 214 * q * 1 ≤ 9223372036854775808 * 2 ^ 214 * q * 2 ^ c := Nat.mul_le_mul_left _ (Nat.two_pow_pos c)
      have e5 : 8388608 * 2 ^ 254 = 9223372036854775808 * 2 ^ 214 := by decide
      rw [e5]; omega
  by_cases f2 : F < 1
  · obtain ⟨D, hD⟩ : ∃ D : Nat, (D : Int) = 41 - F := ⟨(41 - F).toNat, by omega⟩
    have hv' := at_drop (f := 0) (D := D) (by omega) hv
    rw [Nat.pow_zero, Nat.mul_one] at hv'
    have ht : S / 2 ^ D < 8388608 := by
      rw [Nat.div_lt_iff_lt_mul (Nat.two_pow_pos D)]
      have : 2 ^ 41 ≤ 2 ^ D := Nat.pow_le_pow_right (by decide) (by omega)
      omega
    have hA : A (S / 2 ^ D) = S / 2 ^ D := by have := A_form 0 (S / 2 ^ D) (by omega) (by omega); simpa using this
    have hA1 : A (S / 2 ^ D + 1) = S / 2 ^ D + 1 := by have := A_form 0 (S / 2 ^ D + 1) (by omega) (by omega); simpa using this
    have gD : g ∣ 2 ^ (D - 1) := Nat.dvd_trans gH (Nat.pow_dvd_pow 2 (by omega))
    have P := pick_of (p := p) (q := q) (m := S / 2 ^ D) (t := S / 2 ^ D) (K := q) (M := 2 ^ D) (H := 2 ^ (D - 1)) (S := S) (g := g) (more := more)
      (by rw [hA]) (by rw [hA1]) hq (Nat.two_pow_pos _) (pow_split D (by omega)) rfl (by omega) gS gD hv'
    obtain ⟨P1, P2, P3, P4⟩ := P
    refine ⟨_, ?_, S / 2 ^ D, P1, rfl⟩
    rw [pick_goes (S := S) (D := D) (more := more) (by omega) h1 (by omega) (by omega) P2 P3 P4 rfl]
    unfold core
    rw [if_neg f1, if_pos f2, ← hD, Int.toNat_natCast]
    have e : (S : Int) / 2 ^ D = ((S / 2 ^ D : Nat) : Int) := by
      rw [Int.natCast_ediv, Int.natCast_pow]; rfl
    rw [e]
    split <;> simp
  · obtain ⟨f, hf⟩ : ∃ f : Nat, (f : Int) = F - 1 := ⟨(F - 1).toNat, by omega⟩
    have hv' := at_drop (f := f) (D := 40) (by omega) hv
    have e40 : (2 : Nat) ^ 40 = 1099511627776 := by decide
    have ht1 : S / 2 ^ 40 < 16777216 := by rw [e40]; omega
    have ht2 : 8388608 ≤ S / 2 ^ 40 := by rw [e40]; omega
    have hA := A_form f (S / 2 ^ 40) (by omega) (by omega)
    have hA1 := A_form f (S / 2 ^ 40 + 1) (by omega) (by omega)
    have P := pick_of (p := p) (q := q) (m := f * 8388608 + S / 2 ^ 40) (t := S / 2 ^ 40) (K := q * 2 ^ f) (M := 2 ^ 40) (H := 2 ^ 39) (S := S) (g := g) (more := more)
      (by rw [hA]; ac_rfl) (by rw [show f * 8388608 + S / 2 ^ 40 + 1 = f * 8388608 + (S / 2 ^ 40 + 1) by omega, hA1]; ac_rfl) (Nat.mul_pos hq (Nat.two_pow_pos _)) (by decide) (by decide) rfl (by omega) gS gH hv'
    obtain ⟨P1, P2, P3, P4⟩ := P
    refine ⟨_, ?_, f * 8388608 + S / 2 ^ 40, P1, rfl⟩
    rw [pick_goes (S := S) (D := 40) (more := more) (by omega) h1 (by omega) (by omega) P2 P3 P4 (by omega)]
    unfold core
    rw [if_neg f1, if_neg f2]
    rw [e40]
    have e : ((S / 1099511627776 : Nat) : Int) = (S : Int) / 1099511627776 := rfl
    rw [show ((40 : Nat) : Int) = 40 from rfl]
    split <;> omega
end Flt
end Go.Proofs.Ytkbniebahledmaa
