/-
  Round, sums, products and quotients of package soft are the document's: what is rounded is the very value. No program is named here.
-/
import Derived.Test.YtkbniebahledmaaFltD
namespace Go.Proofs.Ytkbniebahledmaa
namespace Flt

theorem lz_nat (s : Nat) (h0 : 1 ≤ s) (h1 : s < 18446744073709551616) :
    ∃ L : Nat, lz (s : Int) = (L : Int) ∧ L ≤ 63 ∧ 9223372036854775808 ≤ s * 2 ^ L ∧ s * 2 ^ L < 18446744073709551616 ∧ (16777216 ≤ s → L ≤ 39) := by
  obtain ⟨s1, s2⟩ := bitLen_spec s
  have s3 := s2 (by omega)
  unfold lz
  rw [Int.toNat_natCast]
  generalize bitLen s = B at *
  have hB : 1 ≤ B := by
    rcases Nat.eq_zero_or_pos B with h | h
    · rw [h] at s1; simp at s1; omega
    · exact h
  have hB2 : B ≤ 64 := by
    rcases Nat.lt_or_ge 64 B with h | h
    · exfalso
      have : 2 ^ 64 ≤ 2 ^ (B - 1) := Nat.pow_le_pow_right (by decide) (by omega)
      omega
    · exact h
  have p1 : (2 : Nat) ^ (B - 1) * 2 ^ (64 - B) = 9223372036854775808 := by
    rw [← Nat.pow_add, show B - 1 + (64 - B) = 63 by omega]
  have p2 : (2 : Nat) ^ B * 2 ^ (64 - B) = 18446744073709551616 := by
    rw [← Nat.pow_add, show B + (64 - B) = 64 by omega]
  have q1 : 2 ^ (B - 1) * 2 ^ (64 - B) ≤ s * 2 ^ (64 - B) := Nat.mul_le_mul_right _ s3
  have q2 : s * 2 ^ (64 - B) < 2 ^ B * 2 ^ (64 - B) := Nat.mul_lt_mul_of_pos_right s1 (Nat.two_pow_pos _)
  rw [p1] at q1
  rw [p2] at q2
  refine ⟨64 - B, by omega, by omega, q1, q2, fun hs => ?_⟩
  rcases Nat.lt_or_ge 39 (64 - B) with h | h
  · exfalso
    have e1 : 2 ^ 40 ≤ 2 ^ (64 - B) := Nat.pow_le_pow_right (by decide) (by omega)
    have e2 : 16777216 * 2 ^ 40 ≤ s * 2 ^ (64 - B) := Nat.mul_le_mul hs e1
    omega
  · exact h

/-- What is rounded: s at an exponent, exactly, or a little more. -/
def Val (p q a b s : Nat) (more : Bool) : Prop :=
  (more = false ∧ p * 2 ^ a = s * q * 2 ^ b) ∨
  (more = true ∧ 16777216 ≤ s ∧ s * q * 2 ^ b < p * 2 ^ a ∧ p * 2 ^ a < (s + 1) * q * 2 ^ b) ∨
  (more = true ∧ s * q * 2 ^ b < p * 2 ^ a ∧ p * 2 ^ a * 2 ^ 63 < (s * 2 ^ 63 + 1) * q * 2 ^ b)

theorem rnd_RN (way : Int) (neg : Bool) (exp : Int) (s : Nat) (more : Bool) (p q a b : Nat) (h0 : 1 ≤ s) (h1 : s < 18446744073709551616)
    (e0 : -1000 ≤ exp) (e1 : exp ≤ 1000) (hq : 0 < q) (hE : exp + 149 = (b : Int) - a) (hv : Val p q a b s more) :
    ∃ r : Nat, rnd way neg exp (s : Int) more = signBit neg + (r : Int) ∧ RN way neg p q r := by
  obtain ⟨L, hL, L1, S0, S1, L39⟩ := lz_nat s h0 h1
  have hS : (s : Int) * 2 ^ L = ((s * 2 ^ L : Nat) : Int) := by rw [Int.natCast_mul, Int.natCast_pow]; rfl
  have hr : rnd way neg exp (s : Int) more = signBit neg + core way neg ((s * 2 ^ L : Nat) : Int) (exp - L + 190) more := by
    unfold rnd
    rw [if_neg (by omega), hL, Int.toNat_natCast, hS, if_neg (by omega), if_neg (by omega)]
  have key : ∃ g, g ∣ s * 2 ^ L ∧ g ∣ 2 ^ 39 ∧ ((more = false ∧ p * 2 ^ (a + L) = (s * 2 ^ L) * q * 2 ^ b) ∨ (more = true ∧ (s * 2 ^ L) * q * 2 ^ b < p * 2 ^ (a + L) ∧ p * 2 ^ (a + L) < (s * 2 ^ L + g) * q * 2 ^ b)) := by
    have k1 : p * 2 ^ (a + L) = p * 2 ^ a * 2 ^ L := by rw [Nat.pow_add, Nat.mul_assoc]
    have k2 : (s * 2 ^ L) * q * 2 ^ b = s * q * 2 ^ b * 2 ^ L := by ac_rfl
    have pL := Nat.two_pow_pos L
    rcases hv with ⟨h, e⟩ | ⟨h, hs, v1, v2⟩ | ⟨h, v1, v2⟩
    · exact ⟨1, ⟨s * 2 ^ L, by omega⟩, ⟨2 ^ 39, by omega⟩, .inl ⟨h, by rw [k1, k2, e]⟩⟩
    · refine ⟨2 ^ L, ⟨s, Nat.mul_comm _ _⟩, Nat.pow_dvd_pow 2 (L39 hs), .inr ⟨h, ?_, ?_⟩⟩
      · rw [k1, k2]; exact Nat.mul_lt_mul_of_pos_right v1 pL
      · rw [k1, show (s * 2 ^ L + 2 ^ L) * q * 2 ^ b = (s + 1) * q * 2 ^ b * 2 ^ L by rw [← Nat.succ_mul]; ac_rfl]
        exact Nat.mul_lt_mul_of_pos_right v2 pL
    · refine ⟨1, ⟨s * 2 ^ L, by omega⟩, ⟨2 ^ 39, by omega⟩, .inr ⟨h, ?_, ?_⟩⟩
      · rw [k1, k2]; exact Nat.mul_lt_mul_of_pos_right v1 pL
      · refine Nat.lt_of_mul_lt_mul_right (a := 2 ^ (63 - L)) ?_
        have c1 : p * 2 ^ (a + L) * 2 ^ (63 - L) = p * 2 ^ a * 2 ^ 63 := by
          rw [k1, Nat.mul_assoc, ← Nat.pow_add, show L + (63 - L) = 63 by omega]
        have c2 : s * 2 ^ 63 + 1 ≤ (s * 2 ^ L + 1) * 2 ^ (63 - L) := by
          rw [Nat.add_mul, Nat.mul_assoc, ← Nat.pow_add, show L + (63 - L) = 63 by omega, Nat.one_mul]
          have := Nat.two_pow_pos (63 - L)
          omega
        have c3 : (s * 2 ^ 63 + 1) * q * 2 ^ b ≤ (s * 2 ^ L + 1) * 2 ^ (63 - L) * q * 2 ^ b := Nat.mul_le_mul_right _ (Nat.mul_le_mul_right _ c2)
        have c4 : (s * 2 ^ L + 1) * 2 ^ (63 - L) * q * 2 ^ b = (s * 2 ^ L + 1) * q * 2 ^ b * 2 ^ (63 - L) := by ac_rfl
        omega
  obtain ⟨g, g1, g2, hv'⟩ := key
  obtain ⟨r, c1, c2⟩ := core_RN way neg more (s * 2 ^ L) (exp - L + 190) p q (a + L) b g S0 S1 hq (by omega) g1 g2 hv'
  exact ⟨r, by rw [hr, c1], c2⟩
end Flt
end Go.Proofs.Ytkbniebahledmaa
