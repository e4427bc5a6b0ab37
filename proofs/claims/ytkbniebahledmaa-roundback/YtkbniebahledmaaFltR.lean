/-
  Whole numbers come back, roots and squares: the mathematics of P2.7 and P2.8.
-/
import Derived.Test.YtkbniebahledmaaFltQ
namespace Go.Proofs.Ytkbniebahledmaa
namespace Flt

theorem rep_lt {n m : Nat} (hn : n ≤ 16777216) (h : A m = n * 2 ^ 149) : m ≤ 1266679808 := by
  have e : A 1266679808 = 16777216 * 2 ^ 149 := by
    have := A_form 150 8388608 (by omega) (by omega)
    rw [show (150 : Nat) * 8388608 + 8388608 = 1266679808 by decide] at this
    rw [this]
  rcases Nat.lt_or_ge 1266679808 m with g | g
  · have := A_strict g
    rw [e, h] at this
    have := Nat.lt_of_mul_lt_mul_right this
    omega
  · exact g

/-- A whole number of at most 2^24 is a float. -/
theorem fromInt_rep (n : Int) (h0 : -16777216 ≤ n) (h1 : n ≤ 16777216) :
    ∃ m : Nat, rnd 0 (decide (n < 0)) 0 (n.natAbs : Int) false = signBit (decide (n < 0)) + (m : Int) ∧ A m = n.natAbs * 2 ^ 149 ∧ m ≤ 1266679808 := by
  by_cases hz : n = 0
  · subst hz
    exact ⟨0, by decide +kernel, by decide +kernel, by omega⟩
  · obtain ⟨v, v1, v2⟩ := rnd_exact 0 (decide (n < 0)) 149 n.natAbs (n.natAbs * 2 ^ 149) (by omega) (by omega) (by omega) rfl
    obtain ⟨m, hm⟩ := repr_of 149 n.natAbs (by omega)
    have hl := rep_lt (by omega) hm
    rw [← hm] at v2
    have e := RN_exact (q := 1) (m := m) (by decide) (by omega) (by rw [Nat.mul_one]; exact v2)
    refine ⟨m, ?_, hm, hl⟩
    rw [← e, ← v1]; rfl

theorem back (n : Int) (h0 : -16777216 ≤ n) (h1 : n ≤ 16777216) : toIntV (rnd 0 (decide (n < 0)) 0 (n.natAbs : Int) false) = n := by
  obtain ⟨m, e, hm, hl⟩ := fromInt_rep n h0 h1
  rw [e]
  unfold toIntV
  have nn : isNaN (signBit (decide (n < 0)) + (m : Int)) = false := by rw [isNaN_not, mg_signed _ _ (by omega)]; omega
  rw [nn, mg_signed _ _ (by omega), sgn_signed _ _ (by omega), hm, Nat.mul_div_cancel _ (Nat.two_pow_pos 149)]
  rw [if_neg (by simp), if_neg (by omega)]
  by_cases hn : n < 0
  · simp only [hn, decide_true, if_true]; omega
  · simp only [hn, decide_false]; simp; omega

theorem less_signed (s : Bool) (x y : Nat) (hx : x ≤ 2139095040) (hy : y ≤ 2139095040) :
    lessF (signBit s + (x : Int)) (signBit s + (y : Int)) = if s = true then decide (y < x) else decide (x < y) := by
  unfold lessF
  have n1 : isNaN (signBit s + (x : Int)) = false := by rw [isNaN_not, mg_signed _ _ (by omega)]; omega
  have n2 : isNaN (signBit s + (y : Int)) = false := by rw [isNaN_not, mg_signed _ _ (by omega)]; omega
  rw [n1, n2, place_signed _ _ (by omega), place_signed _ _ (by omega)]
  cases s <;> simp
theorem equal_signed (s : Bool) (x y : Nat) (hx : x ≤ 2139095040) (hy : y ≤ 2139095040) :
    equalF (signBit s + (x : Int)) (signBit s + (y : Int)) = decide (x = y) := by
  unfold equalF
  have n1 : isNaN (signBit s + (x : Int)) = false := by rw [isNaN_not, mg_signed _ _ (by omega)]; omega
  have n2 : isNaN (signBit s + (y : Int)) = false := by rw [isNaN_not, mg_signed _ _ (by omega)]; omega
  rw [n1, n2, place_signed _ _ (by omega), place_signed _ _ (by omega)]
  rw [Bool.eq_iff_iff]
  cases s <;> simp <;> omega

theorem whole_fix (way : Int) (s : Bool) (m N : Nat) (hm : m < 2139095040) (hA : A m = N * 2 ^ 149) : wholeC way (signBit s + (m : Int)) = signBit s + (m : Int) := by
  obtain ⟨r0, r1⟩ := signed_range s m (by omega)
  obtain ⟨m', N', e1, e2, e3, e4⟩ := wholeC_spec way (signBit s + (m : Int)) r0 r1 (by rw [mg_signed _ _ (by omega)]; exact hm)
  rw [mg_signed _ _ (by omega), sgn_signed _ _ (by omega)] at e4
  rw [sgn_signed _ _ (by omega)] at e1
  have hr : A m % 2 ^ 149 = 0 := by rw [hA, Nat.mul_mod_left]
  have hd : A m / 2 ^ 149 = N := by rw [hA, Nat.mul_div_cancel _ (Nat.two_pow_pos 149)]
  rcases e4 with ⟨⟨g, _⟩, _⟩ | ⟨_, e4⟩
  · exact absurd hr g
  · rw [hd] at e4
    rw [e4, ← hA] at e3
    rw [e1, A_inj e3]

theorem div_rest (V K n r : Nat) (hn : V / K = n) (hr : V % K = r) : V = n * K + r := by
  rw [← hn, ← hr, Nat.mul_comm]; exact (Nat.div_add_mod V K).symm

/-- Floor, Ceil and Even of one float, all that is asked of them. -/
theorem wholes (a : Int) (h0 : 0 ≤ a) (h1 : a < 4294967296) (ha : mg a < 2139095040) :
    ∃ f c e F C E : Nat, wholeC 2 a = signBit (sgn a) + (f : Int) ∧ wholeC 1 a = signBit (sgn a) + (c : Int) ∧ wholeC 0 a = signBit (sgn a) + (e : Int) ∧
      f < 2139095040 ∧ c < 2139095040 ∧ e < 2139095040 ∧ A f = F * 2 ^ 149 ∧ A c = C * 2 ^ 149 ∧ A e = E * 2 ^ 149 ∧
      (sgn a = false → f ≤ mg a ∧ mg a ≤ c) ∧ (sgn a = true → c ≤ mg a ∧ mg a ≤ f) ∧ (f = mg a ↔ c = mg a) ∧ (e = f ∨ e = c) := by
  obtain ⟨f, F, f1, f2, f3, f4⟩ := wholeC_spec 2 a h0 h1 ha
  obtain ⟨c, C, c1, c2, c3, c4⟩ := wholeC_spec 1 a h0 h1 ha
  obtain ⟨e, E, e1, e2, e3, e4⟩ := wholeC_spec 0 a h0 h1 ha
  refine ⟨f, c, e, F, C, E, f1, c1, e1, f2, c2, e2, f3, c3, e3, ?_⟩
  obtain ⟨n, hn⟩ : ∃ n, A (mg a) / 2 ^ 149 = n := ⟨_, rfl⟩
  obtain ⟨r, hr⟩ : ∃ r, A (mg a) % 2 ^ 149 = r := ⟨_, rfl⟩
  have hV := div_rest _ _ _ _ hn hr
  have hlt : r < 2 ^ 149 := by rw [← hr]; exact Nat.mod_lt _ (Nat.two_pow_pos 149)
  unfold goes at f4 c4 e4
  rw [hn, hr] at f4 c4 e4
  rw [if_neg (by decide), if_pos rfl] at f4
  rw [if_pos rfl] at c4
  obtain ⟨K, hK⟩ : ∃ K : Nat, 2 ^ 149 = K := ⟨_, rfl⟩
  rw [hK] at hV hlt f3 c3 e3
  have inj : ∀ {x y X Y : Nat}, A x = X * K → A y = Y * K → X = Y → x = y := fun hx hy h => A_inj (by rw [hx, hy, h])
  have le_of : ∀ {x y : Nat}, A x ≤ A y → x ≤ y := fun {x y} h => by
    rcases Nat.lt_or_ge y x with g | g
    · have := A_strict g; omega
    · exact g
  have up : ∀ {x : Nat}, A x = (n + 1) * K → mg a ≤ x ∧ x ≠ mg a := fun {x} h => by
    have h2 : A x = n * K + K := by rw [h, Nat.add_mul, Nat.one_mul]
    refine ⟨le_of (by omega), fun h3 => ?_⟩
    rw [h3] at h2; omega
  have dn : ∀ {x : Nat}, A x = n * K → x ≤ mg a ∧ (x = mg a ↔ r = 0) := fun {x} h => by
    refine ⟨le_of (by omega), fun h3 => ?_, fun h3 => ?_⟩
    · rw [h3] at h; omega
    · exact A_inj (by omega)
  have hE : E = n ∨ (E = n + 1 ∧ r ≠ 0) := by
    rcases e4 with ⟨⟨g, _⟩, h⟩ | ⟨_, h⟩
    · exact .inr ⟨h, g⟩
    · exact .inl h
  have fin : ∀ {X Y : Nat}, F = X → C = Y → ((X = n ∧ Y = n + 1 ∧ r ≠ 0) ∨ (X = n + 1 ∧ Y = n ∧ r ≠ 0) ∨ (X = n ∧ Y = n ∧ r = 0)) → e = f ∨ e = c := by
    intro X Y hX hY h
    rcases hE with h2 | ⟨h2, h3⟩
    · rcases h with h | h | h
      · exact .inl (inj e3 f3 (by omega))
      · exact .inr (inj e3 c3 (by omega))
      · exact .inl (inj e3 f3 (by omega))
    · rcases h with h | h | h
      · exact .inr (inj e3 c3 (by omega))
      · exact .inl (inj e3 f3 (by omega))
      · omega
  by_cases hz : r = 0
  · have hF : F = n := by rcases f4 with ⟨⟨g, _⟩, _⟩ | ⟨_, h⟩; (exact absurd hz g); exact h
    have hC : C = n := by rcases c4 with ⟨⟨g, _⟩, _⟩ | ⟨_, h⟩; (exact absurd hz g); exact h
    rw [hF] at f3; rw [hC] at c3
    have x1 := dn f3
    have x2 := dn c3
    have y1 := x1.2.2 hz
    have y2 := x2.2.2 hz
    exact ⟨fun _ => ⟨by omega, by omega⟩, fun _ => ⟨by omega, by omega⟩, ⟨fun _ => y2, fun _ => y1⟩, .inl (inj e3 f3 (by rcases hE with h | ⟨_, h⟩; exact h; exact absurd hz h))⟩
  · cases hs : sgn a
    · rw [hs] at f4 c4
      have hF : F = n := by rcases f4 with ⟨⟨_, g⟩, _⟩ | ⟨_, h⟩; (cases g); exact h
      have hC : C = n + 1 := by rcases c4 with ⟨_, h⟩ | ⟨g, _⟩; exact h; exact absurd ⟨hz, rfl⟩ g
      have hl := fin hF hC (.inl ⟨rfl, rfl, hz⟩)
      rw [hF] at f3; rw [hC] at c3
      have x1 := dn f3
      have x2 := up c3
      exact ⟨fun _ => ⟨x1.1, x2.1⟩, fun h => (by cases h), ⟨fun h => absurd (x1.2.1 h) hz, fun h => absurd h x2.2⟩, hl⟩
    · rw [hs] at f4 c4
      have hC : C = n := by rcases c4 with ⟨⟨_, g⟩, _⟩ | ⟨_, h⟩; (cases g); exact h
      have hF : F = n + 1 := by rcases f4 with ⟨_, h⟩ | ⟨g, _⟩; exact h; exact absurd ⟨hz, rfl⟩ g
      have hl := fin hF hC (.inr (.inl ⟨rfl, rfl, hz⟩))
      rw [hF] at f3; rw [hC] at c3
      have x1 := dn c3
      have x2 := up f3
      exact ⟨fun h => (by cases h), fun _ => ⟨x1.1, x2.1⟩, ⟨fun h => absurd h x2.2, fun h => absurd (x1.2.1 h) hz⟩, hl⟩

/-- Squares of whole numbers up to 4096 have these as their roots. -/
theorem square_rep (n : Int) (h0 : 0 ≤ n) (h1 : n ≤ 4096) :
    ∃ m m2 : Nat, rnd 0 (decide (n < 0)) 0 (n.natAbs : Int) false = (m : Int) ∧ m ≤ 1266679808 ∧ mulBy 0 (m : Int) (m : Int) = (m2 : Int) ∧ m2 ≤ 1266679808 ∧ A m2 * 2 ^ 149 = A m * A m ∧ (m2 = 0 → m = 0) := by
  obtain ⟨m, e, hm, hl⟩ := fromInt_rep n (by omega) (by omega)
  have hd : decide (n < 0) = false := by simp; omega
  have hsq : n.natAbs * n.natAbs ≤ 16777216 := by
    have := Nat.mul_le_mul (show n.natAbs ≤ 4096 by omega) (show n.natAbs ≤ 4096 by omega); omega
  obtain ⟨m2, hm2⟩ := repr_of 149 (n.natAbs * n.natAbs) hsq
  have hl2 := rep_lt hsq hm2
  have ep : A m * A m = A m2 * 2 ^ 149 := by
    rw [hm, hm2]
    generalize (2 : Nat) ^ 149 = K
    ac_rfl
  have sm : sgn (m : Int) = false := by unfold sgn; simp; omega
  have mm : mg (m : Int) = m := by unfold mg; omega
  refine ⟨m, m2, ?_, hl, ?_, hl2, ep.symm, ?_⟩
  · rw [e, hd]; simp [signBit]
  · obtain ⟨r, r1, r2⟩ := mulBy_fin 0 (m : Int) (m : Int) (by omega) (by omega) (by omega) (by omega)
    rw [sm, mm, ep] at r2
    have := RN_exact (Nat.two_pow_pos 149) (by omega) r2
    rw [r1, sm, this]; simp [signBit]
  · intro hz
    rw [hz, A_zero] at ep
    have : A m = 0 := by
      rw [Nat.zero_mul] at ep
      rcases Nat.mul_eq_zero.1 ep with h | h <;> exact h
    exact A_inj (by rw [this, A_zero])

theorem RT_sq (m : Nat) (hm : m < 2139095040) : RT 0 (A m * A m) m := by
  refine ⟨m, ⟨hm, Nat.le_refl _, Nat.mul_lt_mul'' (A_lt_succ m) (A_lt_succ m)⟩, ?_⟩
  unfold pickRt; rw [if_pos (.inl rfl)]

theorem le_of_A {x y : Nat} (h : A x ≤ A y) : x ≤ y := by
  rcases Nat.lt_or_ge y x with g | g
  · have := A_strict g; omega
  · exact g

theorem root_far {n m : Nat} (h : A m * A m ≤ A n * 2 ^ 149) (hn : n < 2139095040) : m + 1 < 2139095040 := by
  rcases Nat.lt_or_ge (m + 1) 2139095040 with g | g
  · exact g
  · exfalso
    have e : A 2130706432 = 8388608 * 2 ^ 253 := by
      have := A_form 253 8388608 (by omega) (by omega)
      rw [show (253 : Nat) * 8388608 + 8388608 = 2130706432 by decide] at this
      exact this
    have h1 := A_mono (show 2130706432 ≤ m by omega)
    have h2 := Nat.mul_le_mul h1 h1
    have h3 := A_strict hn
    rw [A_inf] at h3
    have h4 := Nat.mul_lt_mul_of_pos_right h3 (Nat.two_pow_pos 149)
    rw [e] at h2
    have h5 : 8388608 * 2 ^ 254 * 2 ^ 149 ≤ 8388608 * 2 ^ 253 * (8388608 * 2 ^ 253) := by decide
    omega

/-- Of a number above 0: its lesser and its greater root, and their squares rounded down and up. -/
theorem roots (n l h rb ra : Nat) (hn : n < 2139095040) (hl : RT 2 (A n * 2 ^ 149) l) (hh : RT 1 (A n * 2 ^ 149) h)
    (hb : RN 2 false (A l * A l) (2 ^ 149) rb) (ha : RN 1 false (A h * A h) (2 ^ 149) ra) : rb ≤ n ∧ n ≤ ra ∧ l ≤ h := by
  obtain ⟨m, i1, rfl⟩ := hl
  obtain ⟨m', i2, rfl⟩ := hh
  have e := isRt_one i1 i2
  subst e
  have e1 : pickRt 2 (A n * 2 ^ 149) m = m := by unfold pickRt; rw [if_pos (.inr rfl)]
  rw [e1] at hb ⊢
  refine ⟨?_, ?_, ?_⟩
  · obtain ⟨k, ⟨k1, k2, k3⟩, rfl⟩ := hb
    have h1 : A k ≤ A n := Nat.le_of_mul_le_mul_right (Nat.le_trans k2 i1.2.1) (Nat.two_pow_pos 149)
    have h2 := le_of_A h1
    unfold pick
    rw [if_neg (by omega), if_pos (.inr rfl)]
    exact h2
  · have hp : A n * 2 ^ 149 ≤ A (pickRt 1 (A n * 2 ^ 149) m) * A (pickRt 1 (A n * 2 ^ 149) m) := by
      unfold pickRt
      by_cases hx : A m * A m = A n * 2 ^ 149
      · rw [if_pos (.inl hx)]; omega
      · rw [if_neg (by rintro (h | h); exact hx h; cases h), if_pos rfl]; have := i2.2.2; omega
    generalize A (pickRt 1 (A n * 2 ^ 149) m) * A (pickRt 1 (A n * 2 ^ 149) m) = p at ha hp
    obtain ⟨k, ⟨k1, k2, k3⟩, rfl⟩ := ha
    unfold pick
    by_cases hi : k = 2139095040
    · rw [if_pos hi, if_neg (by decide)]; omega
    · rw [if_neg hi]
      by_cases hx : A k * 2 ^ 149 = p
      · rw [if_pos (.inl hx)]
        rw [← hx] at hp
        exact le_of_A (Nat.le_of_mul_le_mul_right hp (Nat.two_pow_pos 149))
      · rw [if_neg (by rintro (h | h); exact hx h; cases h), if_pos (by decide)]
        have := Nat.lt_of_le_of_lt hp (k3 (by omega))
        exact le_of_A (Nat.le_of_lt (Nat.lt_of_mul_lt_mul_right this))
  · unfold pickRt; (repeat' split) <;> omega
end Flt
end Go.Proofs.Ytkbniebahledmaa
