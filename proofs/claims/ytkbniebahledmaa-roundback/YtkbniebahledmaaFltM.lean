/-
  Fused products and sums as package round reckons them, in two words, are the document's: the very sum, rounded once. No program is named here.
-/
import Derived.Test.YtkbniebahledmaaFltL
namespace Go.Proofs.Ytkbniebahledmaa
namespace Flt

/-- Two words, and whether there is more, rounded. -/
def narrowM (way : Int) (neg : Bool) (exp : Int) (T : Nat) (more : Bool) : Int :=
  rnd way neg (exp - (64 - (bitLen (T / 2 ^ 64) : Int))) ((T / 2 ^ bitLen (T / 2 ^ 64) : Nat) : Int) (more || decide (T % 2 ^ bitLen (T / 2 ^ 64) ≠ 0))
def lowT (s n : Nat) : Nat := s * 2 ^ 64 / 2 ^ n
def lowM (s n : Nat) : Bool := decide (s * 2 ^ 64 % 2 ^ n ≠ 0)
def upM (b : Bool) : Nat := if b = true then 1 else 0
/-- The sum of two whose first bits stand alike, the first at no lesser exponent. -/
def sumW (way : Int) (xn : Bool) (xe : Int) (xs : Nat) (yn : Bool) (ye : Int) (ys : Nat) : Int :=
  if xn = yn then narrowM way xn xe (xs * 2 ^ 64 + lowT ys (xe - ye).toNat) (lowM ys (xe - ye).toNat)
  else if xs * 2 ^ 64 = lowT ys (xe - ye).toNat + upM (lowM ys (xe - ye).toNat) then signBit (decide (way = 2))
  else narrowM way xn xe (xs * 2 ^ 64 - (lowT ys (xe - ye).toNat + upM (lowM ys (xe - ye).toNat))) (lowM ys (xe - ye).toNat)
def sumV (way : Int) (xn : Bool) (xe : Int) (xs : Nat) (yn : Bool) (ye : Int) (ys : Nat) : Int :=
  if xe < ye ∨ (xe = ye ∧ xs < ys) then sumW way yn ye ys xn xe xs else sumW way xn xe xs yn ye ys
/-- A number shifted until its first bit is the word's second one. -/
def topS (s : Nat) : Nat := s * 2 ^ (63 - bitLen s)
def topE (exp : Int) (s : Nat) : Int := exp - (63 - (bitLen s : Int))
def fmaC (way a b c : Int) : Int :=
  if (isNaN (mulBy way a b) || isNaN c) = true then 2143289344
  else if ((isInf a || isInf b) && isInf c && (c != mulBy way a b)) = true then 2143289344
  else if (isInf a || isInf b) = true then mulBy way a b
  else if isInf c = true then c
  else if sig a * sig b = 0 ∧ sig c = 0 ∧ (sgn a != sgn b) ≠ sgn c then signBit (decide (way = 2))
  else if sig a * sig b = 0 then c
  else if sig c = 0 then mulBy way a b
  else sumV way (sgn a != sgn b) (topE (expo a + expo b) (sig a * sig b).toNat) (topS (sig a * sig b).toNat) (sgn c) (topE (expo c) (sig c).toNat) (topS (sig c).toNat)

theorem narrow_spec (way : Int) (neg : Bool) (e K T p : Nat) (more : Bool) (hT0 : 0 < T) (hT1 : T < 2 ^ 128) (hm : more = true → 2 ^ 64 ≤ T) (he : 64 ≤ e) (he1 : e ≤ 1000) (hK : 149 ≤ K) (hK1 : K ≤ 900)
    (hp : (more = false ∧ p = T * 2 ^ (e - 64)) ∨ (more = true ∧ T * 2 ^ (e - 64) < p ∧ p < (T + 1) * 2 ^ (e - 64))) :
    ∃ r : Nat, narrowM way neg ((e : Int) - K) T more = signBit neg + (r : Int) ∧ RN way neg p (2 ^ (K - 149)) r := by
  unfold narrowM
  obtain ⟨s1, s2⟩ := bitLen_spec (T / 2 ^ 64)
  have hB64 : bitLen (T / 2 ^ 64) ≤ 64 := by
    rcases Nat.eq_zero_or_pos (T / 2 ^ 64) with h | h
    · rw [h]; decide
    · have := s2 (by omega)
      rcases Nat.lt_or_ge 64 (bitLen (T / 2 ^ 64)) with h2 | h2
      · exfalso
        have h3 : 2 ^ 64 ≤ 2 ^ (bitLen (T / 2 ^ 64) - 1) := Nat.pow_le_pow_right (by decide) (by omega)
        have h4 : T / 2 ^ 64 < 2 ^ 64 := Nat.div_lt_of_lt_mul (by rw [← Nat.pow_add]; exact hT1)
        omega
      · exact h2
  have hhi : T / 2 ^ 64 < 2 ^ bitLen (T / 2 ^ 64) := s1
  have hbig : 2 ^ 64 ≤ T → 2 ^ 63 ≤ T / 2 ^ bitLen (T / 2 ^ 64) := by
    intro h
    have h1 : 0 < T / 2 ^ 64 := Nat.div_pos h (by decide)
    have h2 := s2 (by omega)
    have hB1 : 1 ≤ bitLen (T / 2 ^ 64) := by
      rcases Nat.eq_zero_or_pos (bitLen (T / 2 ^ 64)) with h | h
      · rw [h] at s1; simp at s1; omega
      · exact h
    rw [Nat.le_div_iff_mul_le (Nat.two_pow_pos _)]
    generalize bitLen (T / 2 ^ 64) = B at *
    have e1 : 2 ^ 63 * 2 ^ B = 2 ^ (B - 1) * 2 ^ 64 := by rw [← Nat.pow_add, ← Nat.pow_add]; congr 1; omega
    rw [e1]
    exact Nat.le_trans (Nat.mul_le_mul_right _ h2) (Nat.div_mul_le_self _ _)
  have hsmall : T < 2 ^ 64 → bitLen (T / 2 ^ 64) = 0 := by
    intro h
    rw [Nat.div_eq_of_lt h]; decide
  generalize bitLen (T / 2 ^ 64) = B at *
  have hs64 : T / 2 ^ B < 2 ^ 64 := by
    refine Nat.div_lt_of_lt_mul ?_
    have h1 : T < (T / 2 ^ 64 + 1) * 2 ^ 64 := by
      have := Nat.lt_div_mul_add (a := T) (b := 2 ^ 64) (by decide)
      rw [Nat.add_mul]; omega
    have h2 : (T / 2 ^ 64 + 1) * 2 ^ 64 ≤ 2 ^ B * 2 ^ 64 := Nat.mul_le_mul_right _ hhi
    exact Nat.lt_of_lt_of_le h1 h2
  have hs1 : 1 ≤ T / 2 ^ B := by
    rcases Nat.lt_or_ge T (2 ^ 64) with h | h
    · rw [hsmall h]; simp; omega
    · have := hbig h; omega
  have hE : (e : Int) - K - (64 - (B : Int)) + 149 = ((B + (e - 64) : Nat) : Int) - ((K - 149 : Nat) : Int) := by omega
  have hdm : T / 2 ^ B * 2 ^ B + T % 2 ^ B = T := by rw [Nat.mul_comm]; exact Nat.div_add_mod T (2 ^ B)
  have hml := Nat.mod_lt T (Nat.two_pow_pos B)
  have pu := Nat.two_pow_pos (e - 64)
  have pK := Nat.two_pow_pos (K - 149)
  have sc : ∀ z : Nat, z * 2 ^ (K - 149) * 2 ^ (B + (e - 64)) = (z * 2 ^ B * 2 ^ (e - 64)) * 2 ^ (K - 149) := by
    intro z; rw [Nat.pow_add]
    generalize 2 ^ (K - 149) = k1
    generalize 2 ^ (e - 64) = k2
    generalize 2 ^ B = k3
    ac_rfl
  by_cases hx : more = false ∧ T % 2 ^ B = 0
  · have hm2 : (more || decide (T % 2 ^ B ≠ 0)) = false := by simp [hx.1, hx.2]
    rw [hm2]
    refine rnd_RN way neg _ (T / 2 ^ B) false p (2 ^ (K - 149)) (K - 149) (B + (e - 64)) hs1 hs64 (by omega) (by omega) pK hE (.inl ⟨rfl, ?_⟩)
    rcases hp with ⟨_, h⟩ | ⟨h, _⟩
    · rw [sc, h]
      congr 2
      omega
    · rw [hx.1] at h; cases h
  · have hm2 : (more || decide (T % 2 ^ B ≠ 0)) = true := by
      cases more
      · have : T % 2 ^ B ≠ 0 := fun h => hx ⟨rfl, h⟩
        simp [this]
      · rfl
    rw [hm2]
    have hT64 : 2 ^ 64 ≤ T := by
      rcases Nat.lt_or_ge T (2 ^ 64) with h | h
      · exfalso
        cases more
        · apply hx; refine ⟨rfl, ?_⟩; rw [hsmall h]; simp [Nat.mod_one]
        · have := hm rfl; omega
      · exact h
    have h63 := hbig hT64
    refine rnd_RN way neg _ (T / 2 ^ B) true p (2 ^ (K - 149)) (K - 149) (B + (e - 64)) hs1 hs64 (by omega) (by omega) pK hE (.inr (.inl ⟨rfl, ?_, ?_, ?_⟩))
    · have : (16777216 : Nat) ≤ 2 ^ 63 := by decide
      omega
    · rw [sc]
      refine Nat.mul_lt_mul_of_pos_right ?_ pK
      rcases hp with ⟨hf, h⟩ | ⟨_, h, _⟩
      · rw [h]
        refine Nat.mul_lt_mul_of_pos_right ?_ pu
        have : T % 2 ^ B ≠ 0 := fun h => hx ⟨hf, h⟩
        omega
      · refine Nat.lt_of_le_of_lt (Nat.mul_le_mul_right _ ?_) h
        omega
    · rw [sc]
      refine Nat.mul_lt_mul_of_pos_right ?_ pK
      have h4 : T + 1 ≤ (T / 2 ^ B + 1) * 2 ^ B := by rw [Nat.add_mul]; omega
      have h5 := Nat.mul_le_mul_right (2 ^ (e - 64)) h4
      rcases hp with ⟨hf, h⟩ | ⟨_, _, h⟩
      · rw [h]
        refine Nat.lt_of_lt_of_le ?_ h5
        exact Nat.mul_lt_mul_of_pos_right (by omega) pu
      · exact Nat.lt_of_lt_of_le h h5

theorem SumQ.swap {way : Int} {xn yn : Bool} {X Y q : Nat} {res : Int} (h : SumQ way xn yn X Y q res) : SumQ way yn xn Y X q res := by
  obtain ⟨h1, h2, h3, h4, h5⟩ := h
  refine ⟨?_, ?_, ?_, ?_, ?_⟩
  · intro e; subst e; rw [Nat.add_comm]; exact h1 rfl
  · intro e; subst e; rw [Nat.add_comm]; exact h2 rfl
  · intro e f; exact h3 (Ne.symm e) f.symm
  · intro e f; exact h5 (Ne.symm e) f
  · intro e f; exact h4 (Ne.symm e) f

theorem SumQ_scale {way : Int} {xn yn : Bool} {X Y q c : Nat} {res : Int} (hc : 0 < c) : SumQ way xn yn (X * c) (Y * c) (q * c) res ↔ SumQ way xn yn X Y q res := by
  have e1 : X * c + Y * c = (X + Y) * c := (Nat.add_mul _ _ _).symm
  have e2 : X * c - Y * c = (X - Y) * c := (Nat.sub_mul _ _ _).symm
  have e3 : Y * c - X * c = (Y - X) * c := (Nat.sub_mul _ _ _).symm
  have l1 : X * c < Y * c ↔ X < Y := ⟨fun h => Nat.lt_of_mul_lt_mul_right h, fun h => Nat.mul_lt_mul_of_pos_right h hc⟩
  have l2 : Y * c < X * c ↔ Y < X := ⟨fun h => Nat.lt_of_mul_lt_mul_right h, fun h => Nat.mul_lt_mul_of_pos_right h hc⟩
  have l3 : X * c = Y * c ↔ X = Y := ⟨fun h => Nat.eq_of_mul_eq_mul_right hc h, fun h => by rw [h]⟩
  have l4 : (X + Y) * c = 0 ↔ X + Y = 0 := ⟨fun h => by rcases Nat.mul_eq_zero.1 h with h | h <;> omega, fun h => by rw [h, Nat.zero_mul]⟩
  have l5 : 0 < (X + Y) * c ↔ 0 < X + Y := by rw [Nat.pos_iff_ne_zero, Nat.pos_iff_ne_zero]; exact not_congr l4
  unfold SumQ
  simp only [e1, e2, e3, l1, l2, l3, l4, l5, RN_scale hc]

theorem sumW_spec (way : Int) (xn yn : Bool) (ex xs ey ys K : Nat) (x0 : 2 ^ 62 ≤ xs) (x1 : xs < 2 ^ 63) (y0 : 2 ^ 62 ≤ ys) (y1 : ys < 2 ^ 63) (ho : ey ≤ ex) (ho2 : ex = ey → ys ≤ xs)
    (he : 64 ≤ ex) (he1 : ex ≤ 1000) (hK : 149 ≤ K) (hK1 : K ≤ 900) :
    SumQ way xn yn (xs * 2 ^ ex) (ys * 2 ^ ey) (2 ^ (K - 149)) (sumW way xn ((ex : Int) - K) xs yn ((ey : Int) - K) ys) := by
  have hn : ((ex : Int) - K - ((ey : Int) - K)).toNat = ex - ey := by omega
  unfold sumW
  rw [hn]
  have pn := Nat.two_pow_pos (ex - ey)
  have pu := Nat.two_pow_pos (ex - 64)
  have hdm : lowT ys (ex - ey) * 2 ^ (ex - ey) + ys * 2 ^ 64 % 2 ^ (ex - ey) = ys * 2 ^ 64 := by unfold lowT; rw [Nat.mul_comm]; exact Nat.div_add_mod _ _
  have hml := Nat.mod_lt (ys * 2 ^ 64) pn
  have hTle : lowT ys (ex - ey) ≤ ys * 2 ^ 64 := Nat.div_le_self _ _
  -- all at 2^64 times
  have hX : xs * 2 ^ ex = xs * 2 ^ 64 * 2 ^ (ex - 64) := by rw [Nat.mul_assoc, ← Nat.pow_add]; congr 2; omega
  have hY : ys * 2 ^ ey * 2 ^ 64 = (lowT ys (ex - ey) * 2 ^ (ex - ey) + ys * 2 ^ 64 % 2 ^ (ex - ey)) * 2 ^ ey := by rw [hdm]; ac_rfl
  have hex : ∀ z : Nat, z * 2 ^ (ex - ey) * 2 ^ ey = z * 2 ^ (ex - 64) * 2 ^ 64 := by
    intro z; rw [Nat.mul_assoc, Nat.mul_assoc, ← Nat.pow_add, ← Nat.pow_add]; congr 2; omega
  have hM : lowM ys (ex - ey) = true ↔ ys * 2 ^ 64 % 2 ^ (ex - ey) ≠ 0 := by unfold lowM; rw [decide_eq_true_eq]
  have hM2 : lowM ys (ex - ey) = false ↔ ys * 2 ^ 64 % 2 ^ (ex - ey) = 0 := by unfold lowM; rw [decide_eq_false_iff_not]; omega
  have hYlo : lowT ys (ex - ey) * 2 ^ (ex - 64) ≤ ys * 2 ^ ey := by
    refine Nat.le_of_mul_le_mul_right (c := 2 ^ 64) ?_ (Nat.two_pow_pos 64)
    rw [hY, ← hex]
    exact Nat.mul_le_mul_right _ (by omega)
  have hYhi : ys * 2 ^ ey < (lowT ys (ex - ey) + 1) * 2 ^ (ex - 64) := by
    refine Nat.lt_of_mul_lt_mul_right (a := 2 ^ 64) ?_
    rw [hY, ← hex]
    refine Nat.mul_lt_mul_of_pos_right ?_ (Nat.two_pow_pos _)
    rw [Nat.add_mul]; omega
  have hYeq : lowM ys (ex - ey) = false → ys * 2 ^ ey = lowT ys (ex - ey) * 2 ^ (ex - 64) := by
    intro h
    refine Nat.eq_of_mul_eq_mul_right (m := 2 ^ 64) (Nat.two_pow_pos 64) ?_
    rw [hY, ← hex, hM2.1 h, Nat.add_zero]
  have hYne : lowM ys (ex - ey) = true → lowT ys (ex - ey) * 2 ^ (ex - 64) < ys * 2 ^ ey := by
    intro h
    refine Nat.lt_of_mul_lt_mul_right (a := 2 ^ 64) ?_
    rw [hY, ← hex]
    refine Nat.mul_lt_mul_of_pos_right ?_ (Nat.two_pow_pos _)
    have := hM.1 h
    omega
  have hfar : lowM ys (ex - ey) = true → lowT ys (ex - ey) < 2 ^ 63 := by
    intro h
    have h1 : 64 < ex - ey := by
      rcases Nat.lt_or_ge 64 (ex - ey) with h2 | h2
      · exact h2
      · exfalso
        apply hM.1 h
        have : 2 ^ 64 = 2 ^ (64 - (ex - ey)) * 2 ^ (ex - ey) := by rw [← Nat.pow_add]; congr 1; omega
        rw [this, ← Nat.mul_assoc, Nat.mul_mod_left]
    unfold lowT
    refine Nat.div_lt_of_lt_mul ?_
    have h2 : 2 ^ 64 ≤ 2 ^ (ex - ey) := Nat.pow_le_pow_right (by decide) (by omega)
    calc ys * 2 ^ 64 < 2 ^ 63 * 2 ^ 64 := Nat.mul_lt_mul_of_pos_right y1 (by decide)
      _ ≤ 2 ^ 63 * 2 ^ (ex - ey) := Nat.mul_le_mul_left _ h2
      _ = 2 ^ (ex - ey) * 2 ^ 63 := Nat.mul_comm _ _
  have hYX : ys * 2 ^ ey ≤ xs * 2 ^ ex := by
    rcases Nat.lt_or_ge ey ex with h | h
    · have h1 : 2 ^ ex = 2 ^ (ex - ey - 1) * (2 * 2 ^ ey) := by
        rw [show 2 * 2 ^ ey = 2 ^ (ey + 1) by rw [Nat.pow_succ]; omega, ← Nat.pow_add]; congr 1; omega
      have h2 : 2 * 2 ^ ey ≤ 2 ^ ex := by rw [h1]; exact Nat.le_mul_of_pos_left _ (Nat.two_pow_pos _)
      have h3 : xs * (2 * 2 ^ ey) ≤ xs * 2 ^ ex := Nat.mul_le_mul_left _ h2
      have h4 : ys * 2 ^ ey ≤ (xs * 2) * 2 ^ ey := Nat.mul_le_mul_right _ (by omega)
      have h5 : (xs * 2) * 2 ^ ey = xs * (2 * 2 ^ ey) := Nat.mul_assoc _ _ _
      omega
    · have h1 : ex = ey := by omega
      rw [h1]
      exact Nat.mul_le_mul_right _ (ho2 h1)
  have pX : 0 < xs * 2 ^ ex := Nat.mul_pos (by omega) (Nat.two_pow_pos _)
  have n64 : (2 : Nat) ^ 64 = 18446744073709551616 := by decide
  have n63 : (2 : Nat) ^ 63 = 9223372036854775808 := by decide
  have n62 : (2 : Nat) ^ 62 = 4611686018427387904 := by decide
  have n128 : (2 : Nat) ^ 128 = 340282366920938463463374607431768211456 := by decide
  generalize lowT ys (ex - ey) = T at *
  generalize hmo : lowM ys (ex - ey) = more at *
  clear hY hex hM hM2 hdm hml pn
  have addX : ∀ z : Nat, xs * 2 ^ ex + z * 2 ^ (ex - 64) = (xs * 2 ^ 64 + z) * 2 ^ (ex - 64) := by
    intro z; rw [hX, Nat.add_mul]
  have subX : ∀ z : Nat, xs * 2 ^ ex - z * 2 ^ (ex - 64) = (xs * 2 ^ 64 - z) * 2 ^ (ex - 64) := by
    intro z; rw [hX, Nat.sub_mul]
  refine ⟨?_, ?_, ?_, ?_, ?_⟩
  · intro e f; omega
  · intro e f
    rw [if_pos e]
    refine narrow_spec way xn ex K _ _ more (by rw [n64]; omega) (by rw [n64, n128]; rw [n64] at hTle; omega) (fun _ => by rw [n64]; omega) he he1 hK hK1 ?_
    cases more
    · exact .inl ⟨rfl, by rw [hYeq rfl, addX]⟩
    · refine .inr ⟨rfl, ?_, ?_⟩
      · rw [← addX]; have := hYne rfl; omega
      · rw [Nat.add_assoc, ← addX]; omega
  · intro e f
    rw [if_neg e]
    cases more
    · have h1 : xs * 2 ^ 64 * 2 ^ (ex - 64) = T * 2 ^ (ex - 64) := by rw [← hX, f, hYeq rfl]
      have h2 : xs * 2 ^ 64 = T := Nat.eq_of_mul_eq_mul_right pu h1
      rw [if_pos (by simp [upM, h2])]
    · exfalso
      have h1 := hYne rfl
      have h2 := hYhi
      rw [← f, hX] at h1 h2
      have h3 := Nat.lt_of_mul_lt_mul_right h1
      have h4 := Nat.lt_of_mul_lt_mul_right h2
      omega
  · intro e f
    rw [if_neg e]
    cases more
    · have h1 : T * 2 ^ (ex - 64) < xs * 2 ^ 64 * 2 ^ (ex - 64) := by rw [← hX, ← hYeq rfl]; exact f
      have h2 := Nat.lt_of_mul_lt_mul_right h1
      rw [if_neg (by simp only [upM]; simp; omega)]
      have h3 : T + upM false = T := rfl
      rw [h3]
      exact narrow_spec way xn ex K _ _ false (by omega) (by rw [n64, n128]; omega) (fun h => by cases h) he he1 hK hK1 (.inl ⟨rfl, by rw [hYeq rfl, subX]⟩)
    · have h3 : T + upM true = T + 1 := rfl
      have h4 := hfar rfl
      rw [h3, if_neg (by rw [n64]; omega)]
      refine narrow_spec way xn ex K _ _ true (by rw [n64]; omega) (by rw [n64, n128]; omega) (fun _ => by rw [n64]; omega) he he1 hK hK1 (.inr ⟨rfl, ?_, ?_⟩)
      · rw [← subX]
        have := hYhi
        omega
      · rw [show xs * 2 ^ 64 - (T + 1) + 1 = xs * 2 ^ 64 - T by rw [n64]; omega, ← subX]
        have := hYne rfl
        omega
  · intro e f; omega
theorem low_lo (S N : Nat) (hN : N < 64) : lowT S N / 2 ^ 64 = S / 2 ^ N ∧ lowT S N % 2 ^ 64 = S * 2 ^ (64 - N) % 2 ^ 64 ∧ lowM S N = false := by
  have e : (2 : Nat) ^ 64 = 2 ^ (64 - N) * 2 ^ N := by rw [← Nat.pow_add]; congr 1; omega
  have hT : lowT S N = S * 2 ^ (64 - N) := by
    unfold lowT
    rw [e, ← Nat.mul_assoc, Nat.mul_div_cancel _ (Nat.two_pow_pos N)]
  refine ⟨?_, by rw [hT], ?_⟩
  · rw [hT]
    have e2 : (2 : Nat) ^ 64 = 2 ^ N * 2 ^ (64 - N) := by rw [← Nat.pow_add]; congr 1; omega
    rw [e2, Nat.mul_div_mul_right _ _ (Nat.two_pow_pos _)]
  · unfold lowM
    rw [e, ← Nat.mul_assoc, Nat.mul_mod_left]; rfl
theorem low_hi (S N : Nat) (hS : S < 2 ^ 63) (hN : 64 ≤ N) : lowT S N / 2 ^ 64 = 0 ∧ lowT S N % 2 ^ 64 = S / 2 ^ (N - 64) ∧ (lowM S N = true ↔ S % 2 ^ (N - 64) ≠ 0) := by
  have e : (2 : Nat) ^ N = 2 ^ (N - 64) * 2 ^ 64 := by rw [← Nat.pow_add]; congr 1; omega
  have hT : lowT S N = S / 2 ^ (N - 64) := by
    unfold lowT
    rw [e, Nat.mul_div_mul_right _ _ (Nat.two_pow_pos 64)]
  have h1 : S / 2 ^ (N - 64) ≤ S := Nat.div_le_self _ _
  have h2 : (2 : Nat) ^ 63 < 2 ^ 64 := by decide
  refine ⟨by rw [hT]; exact Nat.div_eq_of_lt (by omega), by rw [hT]; exact Nat.mod_eq_of_lt (by omega), ?_⟩
  unfold lowM
  rw [decide_eq_true_eq, e, Nat.mul_mod_mul_right]
  have := Nat.two_pow_pos 64
  constructor
  · intro h g; apply h; rw [g, Nat.zero_mul]
  · intro h g; rcases Nat.mul_eq_zero.1 g with g | g <;> omega
theorem low_rest (S D : Nat) (hD : D ≤ 64) : S * 2 ^ (64 - D) % 2 ^ 64 = 0 ↔ S % 2 ^ D = 0 := by
  have e : (2 : Nat) ^ 64 = 2 ^ D * 2 ^ (64 - D) := by rw [← Nat.pow_add]; congr 1; omega
  rw [e, Nat.mul_mod_mul_right]
  have := Nat.two_pow_pos (64 - D)
  constructor
  · intro h; rcases Nat.mul_eq_zero.1 h with g | g <;> omega
  · intro h; rw [h, Nat.zero_mul]
theorem narrow_parts (T B : Nat) (hB : B ≤ 64) : T / 2 ^ B = T / 2 ^ 64 * 2 ^ (64 - B) + T % 2 ^ 64 / 2 ^ B ∧ (T % 2 ^ B = 0 ↔ (T % 2 ^ 64) * 2 ^ (64 - B) % 2 ^ 64 = 0) := by
  have e : (2 : Nat) ^ 64 = 2 ^ (64 - B) * 2 ^ B := by rw [← Nat.pow_add]; congr 1; omega
  have h1 : T = T / 2 ^ 64 * 2 ^ (64 - B) * 2 ^ B + T % 2 ^ 64 := by
    rw [Nat.mul_assoc, ← e, Nat.mul_comm]; exact (Nat.div_add_mod T (2 ^ 64)).symm
  constructor
  · have h2 : T / 2 ^ B = (T / 2 ^ 64 * 2 ^ (64 - B) * 2 ^ B + T % 2 ^ 64) / 2 ^ B := by rw [← h1]
    rw [h2, Nat.add_comm, Nat.add_mul_div_right _ _ (Nat.two_pow_pos B), Nat.add_comm]
  · rw [low_rest _ _ hB]
    have h2 : T % 2 ^ B = (T / 2 ^ 64 * 2 ^ (64 - B) * 2 ^ B + T % 2 ^ 64) % 2 ^ B := by rw [← h1]
    rw [h2, Nat.add_comm, Nat.add_mul_mod_self_right]
end Flt
end Go.Proofs.Ytkbniebahledmaa
