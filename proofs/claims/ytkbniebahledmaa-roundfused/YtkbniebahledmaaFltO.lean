/-
  Whole numbers of floats, roots and powers of two as package round reckons them are the document's. No program is named here.
-/
import Derived.Test.YtkbniebahledmaaFltN
namespace Go.Proofs.Ytkbniebahledmaa
namespace Flt

def cgo (way : Int) (neg : Bool) (n rest half : Int) : Bool :=
  if way = 1 then !neg && decide (rest ≠ 0) else if way = 2 then neg && decide (rest ≠ 0) else decide (half < rest) || (decide (rest = half) && decide (n % 2 = 1))
def dropW (a : Int) : Int := if -expo a < 62 then -expo a else 62
def wholeN (way a : Int) : Int := sig a / 2 ^ (dropW a).toNat + (if cgo way (sgn a) (sig a / 2 ^ (dropW a).toNat) (sig a % 2 ^ (dropW a).toNat) (2 ^ (dropW a - 1).toNat) = true then 1 else 0)
def wholeC (way a : Int) : Int := if isNaN a = true then 2143289344 else if 0 ≤ expo a then a else rnd 0 (sgn a) 0 (wholeN way a) false

/-- Does the amount V, in units of 2^-149, go on to the next whole number? -/
def goes (way : Int) (neg : Bool) (V : Nat) : Prop :=
  V % 2 ^ 149 ≠ 0 ∧ (if way = 1 then neg = false else if way = 2 then neg = true else (2 ^ 149 < 2 * (V % 2 ^ 149) ∨ (2 * (V % 2 ^ 149) = 2 ^ 149 ∧ V / 2 ^ 149 % 2 = 1)))

theorem cgo_iff (way : Int) (neg : Bool) (N R H : Nat) (V c : Nat) (hc : 0 < c) (h1 : V / 2 ^ 149 = N) (h2 : V % 2 ^ 149 = R * c) (h3 : 2 ^ 149 = 2 * (H * c)) :
    cgo way neg (N : Int) (R : Int) (H : Int) = true ↔ goes way neg V := by
  unfold cgo goes
  rw [h1, h2]
  have z : R * c ≠ 0 ↔ R ≠ 0 := ⟨fun h g => h (by rw [g, Nat.zero_mul]), fun h g => by rcases Nat.mul_eq_zero.1 g with g | g <;> omega⟩
  have l : 2 ^ 149 < 2 * (R * c) ↔ H < R := by
    rw [h3]
    exact ⟨fun h => Nat.lt_of_mul_lt_mul_right (a := c) (by omega), fun h => by have := Nat.mul_lt_mul_of_pos_right h hc; omega⟩
  have e : 2 * (R * c) = 2 ^ 149 ↔ R = H := by
    rw [h3]
    exact ⟨fun h => Nat.eq_of_mul_eq_mul_right hc (by omega), fun h => by rw [h]⟩
  rw [z, l, e]
  have hpos : 0 < H := by
    rcases Nat.eq_zero_or_pos H with h | h
    · rw [h, Nat.zero_mul] at h3
      have := Nat.two_pow_pos 149
      omega
    · exact h
  by_cases w1 : way = 1
  · simp only [if_pos w1]
    cases neg <;> simp
  · by_cases w2 : way = 2
    · simp only [if_neg w1, if_pos w2]
      cases neg <;> simp
    · simp only [if_neg w1, if_neg w2, Bool.or_eq_true, Bool.and_eq_true, decide_eq_true_eq]
      omega

theorem pow_two_pos (n : Nat) (h : 0 < n) : (2 : Nat) ^ n = 2 * 2 ^ (n - 1) := by
  obtain ⟨k, rfl⟩ : ∃ k, n = k + 1 := ⟨n - 1, by omega⟩
  rw [Nat.pow_succ, Nat.add_sub_cancel]; omega

/-- What Floor, Ceil and Even of a finite float come to: a whole number N, exactly. -/
theorem wholeC_spec (way a : Int) (h0 : 0 ≤ a) (h1 : a < 4294967296) (ha : mg a < 2139095040) :
    ∃ m N : Nat, wholeC way a = signBit (sgn a) + (m : Int) ∧ m < 2139095040 ∧ A m = N * 2 ^ 149 ∧ ((goes way (sgn a) (A (mg a)) ∧ N = A (mg a) / 2 ^ 149 + 1) ∨ (¬ goes way (sgn a) (A (mg a)) ∧ N = A (mg a) / 2 ^ 149)) := by
  obtain ⟨n1, n2⟩ := (fin_iff a).2 ha
  obtain ⟨e, s, x1, x2, x3, x4, x5, x6, x7⟩ := amt a h0 ha
  have p149 := Nat.two_pow_pos 149
  unfold wholeC
  rw [n1, if_neg (by simp)]
  by_cases hp : 0 ≤ expo a
  · rw [if_pos hp]
    have hV : A (mg a) = s * 2 ^ (e - 149) * 2 ^ 149 := by rw [x6, Nat.mul_assoc, ← Nat.pow_add, show e - 149 + 149 = e by omega]
    refine ⟨mg a, s * 2 ^ (e - 149), signed_eq a h0 h1, ha, hV, .inr ⟨?_, ?_⟩⟩
    · intro h; apply h.1; rw [hV, Nat.mul_mod_left]
    · rw [hV, Nat.mul_div_cancel _ p149]
  · rw [if_neg hp]
    -- the count that is dropped
    obtain ⟨d, hd⟩ : ∃ d : Nat, dropW a = (d : Int) := ⟨(dropW a).toNat, by unfold dropW; split <;> omega⟩
    have hd1 : 1 ≤ d ∧ d ≤ 62 := by unfold dropW at hd; split at hd <;> omega
    have key : A (mg a) / 2 ^ 149 = s / 2 ^ d ∧ ∃ c, 0 < c ∧ A (mg a) % 2 ^ 149 = s % 2 ^ d * c ∧ ((2 ^ 149 = 2 * (2 ^ (d - 1) * c)) ∨ (d = 62 ∧ 2 ^ 149 ≥ 2 * (2 ^ 61 * c))) := by
      by_cases hsm : e + d = 149
      · have hV : A (mg a) = s * 2 ^ (149 - d) := by rw [x6]; congr 2; omega
        have e149 : (2 : Nat) ^ 149 = 2 ^ d * 2 ^ (149 - d) := by rw [← Nat.pow_add]; congr 1; omega
        refine ⟨?_, 2 ^ (149 - d), Nat.two_pow_pos _, ?_, .inl ?_⟩
        · rw [hV, e149, Nat.mul_div_mul_right _ _ (Nat.two_pow_pos _)]
        · rw [hV, e149, Nat.mul_mod_mul_right]
        · rw [← Nat.mul_assoc, ← pow_two_pos d (by omega), ← e149]
      · have hd62 : d = 62 := by unfold dropW at hd; split at hd <;> omega
        have he : e + 62 < 149 := by unfold dropW at hd; split at hd <;> omega
        have hle : 2 ^ e * 2 ^ 62 ≤ 2 ^ 149 := by rw [← Nat.pow_add]; exact Nat.pow_le_pow_right (by decide) (by omega)
        have hs62 : s < 2 ^ 62 := Nat.lt_trans x3 (by decide)
        have hVlt : A (mg a) < 2 ^ 149 := by
          rw [x6]
          have : s * 2 ^ e < 2 ^ 62 * 2 ^ e := Nat.mul_lt_mul_of_pos_right hs62 (Nat.two_pow_pos _)
          rw [Nat.mul_comm (2 ^ 62)] at this
          omega
        rw [hd62]
        refine ⟨by rw [Nat.div_eq_of_lt hVlt, Nat.div_eq_of_lt hs62], 2 ^ e, Nat.two_pow_pos _, ?_, .inr ⟨rfl, ?_⟩⟩
        · rw [Nat.mod_eq_of_lt hVlt, Nat.mod_eq_of_lt hs62, x6]
        · have e62 : (2 : Nat) ^ 62 = 2 * 2 ^ 61 := by decide
          rw [e62] at hle
          generalize (2 : Nat) ^ 61 = u at *
          rw [← Nat.mul_assoc, Nat.mul_comm]; omega
    obtain ⟨k1, c, c0, k2, k3⟩ := key
    -- the amount that is rounded
    have hsd : sig a / 2 ^ d = ((s / 2 ^ d : Nat) : Int) := by rw [x2, pow_cast, ← Int.natCast_ediv]
    have hsm : sig a % 2 ^ d = ((s % 2 ^ d : Nat) : Int) := by rw [x2, pow_cast, ← Int.natCast_emod]
    have hh : (2 : Int) ^ (dropW a - 1).toNat = ((2 ^ (d - 1) : Nat) : Int) := by rw [hd, show ((d : Int) - 1).toNat = d - 1 by omega, pow_cast]
    have hgo : cgo way (sgn a) ((s / 2 ^ d : Nat) : Int) ((s % 2 ^ d : Nat) : Int) ((2 ^ (d - 1) : Nat) : Int) = true ↔ goes way (sgn a) (A (mg a)) := by
      rcases k3 with k3 | ⟨k3, k4⟩
      · exact cgo_iff way (sgn a) _ _ _ _ c c0 k1 k2 k3
      · subst k3
        have hs62 : s < 2 ^ 62 := Nat.lt_trans x3 (by decide)
        have hs61 : s < 2 ^ 61 := Nat.lt_trans x3 (by decide)
        have hlt : s * c < 2 ^ 61 * c := Nat.mul_lt_mul_of_pos_right hs61 c0
        rw [Nat.mod_eq_of_lt hs62] at k2 ⊢
        unfold cgo goes
        rw [k2]
        have z : s * c ≠ 0 ↔ s ≠ 0 := ⟨fun h g => h (by rw [g, Nat.zero_mul]), fun h g => by rcases Nat.mul_eq_zero.1 g with g | g <;> omega⟩
        rw [z]
        have f1 : ¬ (2 ^ 149 < 2 * (s * c)) := by
          have := k4
          omega
        have f2 : ¬ (2 * (s * c) = 2 ^ 149) := by
          have := k4
          omega
        have f3 : ¬ (((2 ^ (62 - 1) : Nat) : Int) < (s : Int)) := by
          rw [show 62 - 1 = 61 from rfl]; omega
        have f4 : ¬ ((s : Int) = ((2 ^ (62 - 1) : Nat) : Int)) := by
          rw [show 62 - 1 = 61 from rfl]; omega
        by_cases w1 : way = 1
        · simp only [if_pos w1]; cases sgn a <;> simp
        · by_cases w2 : way = 2
          · simp only [if_neg w1, if_pos w2]; cases sgn a <;> simp
          · simp only [if_neg w1, if_neg w2, Bool.or_eq_true, Bool.and_eq_true, decide_eq_true_eq]
            constructor
            · rintro (h | ⟨h, _⟩)
              · exact absurd h f3
              · exact absurd h f4
            · rintro ⟨_, h | ⟨h, _⟩⟩
              · exact absurd h f1
              · exact absurd h f2
    have hn : s / 2 ^ d < 8388608 := by
      refine Nat.div_lt_of_lt_mul ?_
      have : 2 ^ 1 ≤ 2 ^ d := Nat.pow_le_pow_right (by decide) hd1.1
      have h2 : 2 ^ 1 * 8388608 ≤ 2 ^ d * 8388608 := Nat.mul_le_mul_right _ this
      omega
    unfold wholeN
    rw [hd] at hh ⊢
    rw [Int.toNat_natCast, hsd, hsm, hh]
    -- rounding of a whole number that fits
    have fits : ∀ N : Nat, N ≤ 16777216 → ∃ m : Nat, rnd 0 (sgn a) 0 (N : Int) false = signBit (sgn a) + (m : Int) ∧ m < 2139095040 ∧ A m = N * 2 ^ 149 := by
      intro N hN
      obtain ⟨m, hm⟩ := repr_of 149 N hN
      have hmlt : m < 2139095040 := by
        rcases Nat.lt_or_ge m 2139095040 with h | h
        · exact h
        · exfalso
          have g1 := A_mono h
          rw [A_inf, hm] at g1
          have g2 : N * 2 ^ 149 ≤ 16777216 * 2 ^ 149 := Nat.mul_le_mul_right _ hN
          have g3 : (16777216 : Nat) * 2 ^ 149 < 8388608 * 2 ^ 254 := by decide
          omega
      rcases Nat.eq_zero_or_pos N with hz | hz
      · subst hz
        have : m = 0 := A_inj (by rw [hm, A_zero, Nat.zero_mul])
        exact ⟨m, by rw [this]; simp [rnd], hmlt, hm⟩
      · obtain ⟨r, r1, r2⟩ := rnd_exact 0 (sgn a) 149 N (N * 2 ^ 149) hz (by omega) (by omega) rfl
        rw [← hm] at r2
        have := RN_exact (q := 1) (by decide) hmlt (by rw [Nat.mul_one]; exact r2)
        subst this
        exact ⟨r, r1, hmlt, hm⟩
    by_cases hg : goes way (sgn a) (A (mg a))
    · rw [if_pos (hgo.2 hg)]
      obtain ⟨m, m1, m2, m3⟩ := fits (s / 2 ^ d + 1) (by omega)
      refine ⟨m, s / 2 ^ d + 1, ?_, m2, m3, .inl ⟨hg, by rw [k1]⟩⟩
      rw [← m1]; congr 1
    · rw [if_neg (fun h => hg (hgo.1 h))]
      obtain ⟨m, m1, m2, m3⟩ := fits (s / 2 ^ d) (by omega)
      refine ⟨m, s / 2 ^ d, ?_, m2, m3, .inr ⟨hg, by rw [k1]⟩⟩
      rw [← m1]; congr 1
end Flt
end Go.Proofs.Ytkbniebahledmaa
