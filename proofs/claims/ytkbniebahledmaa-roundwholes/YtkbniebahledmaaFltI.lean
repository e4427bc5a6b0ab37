/-
  What follows of sums: order is kept, and differences of neighbours in size are exact. No program is named here.
-/
import Derived.Test.YtkbniebahledmaaFltH
namespace Go.Proofs.Ytkbniebahledmaa
namespace Flt

theorem RN_mono {way : Int} {neg : Bool} {p p' q r r' : Nat} (hq : 0 < q) (hp : p ≤ p') (h : RN way neg p q r) (h' : RN way neg p' q r') : r ≤ r' := by
  obtain ⟨m, m1, rfl⟩ := h
  obtain ⟨m', m2, rfl⟩ := h'
  have hm : m ≤ m' := isFl_mono m1 m2 hq (Nat.mul_le_mul_right _ hp)
  have b1 := m1.1
  have b2 := m2.1
  have l1 := m1.2.1
  have l2 := m2.2.1
  rcases Nat.lt_or_ge m m' with hlt | hge
  · unfold pick
    cases inW way neg
    · simp only [Bool.false_eq_true, or_false, if_false]
      (repeat' split) <;> omega
    · simp only [or_true, if_true]
      (repeat' split) <;> omega
  · have e : m = m' := by omega
    subst e
    unfold pick
    by_cases hI : m = 2139095040
    · simp [hI]
    · rw [if_neg hI, if_neg hI]
      cases inW way neg
      · cases outW way neg
        · simp only [Bool.false_eq_true, or_false, if_false]
          (repeat' split) <;> omega
        · simp only [Bool.false_eq_true, or_false, if_true]
          (repeat' split) <;> omega
      · simp

theorem RN_exact {way : Int} {neg : Bool} {q m r : Nat} (hq : 0 < q) (hm : m < 2139095040) (h : RN way neg (A m * q) q r) : r = m := by
  obtain ⟨m', m1, rfl⟩ := h
  have e : IsFl (A m * q) q m := ⟨by omega, Nat.le_refl _, fun _ => Nat.mul_lt_mul_of_pos_right (A_lt_succ m) hq⟩
  have := isFl_one m1 e hq
  subst this
  unfold pick
  rw [if_neg (by omega), if_pos (Or.inl rfl)]

/-- The value of a finite float, in units of 2^-149. -/
def val (a : Int) : Int := if sgn a = true then -(A (mg a) : Int) else (A (mg a) : Int)

theorem place_signed (n : Bool) (m : Nat) (h : m < 2147483648) : place (signBit n + (m : Int)) = if n = true then -(m : Int) else (m : Int) := by
  unfold place signBit
  cases n
  · simp; omega
  · simp; omega
theorem place_eq_mg (a : Int) (h0 : 0 ≤ a) (h1 : a < 4294967296) : place a = if sgn a = true then -(mg a : Int) else (mg a : Int) := by
  have := place_signed (sgn a) (mg a) (mg_lt a)
  rw [← signed_eq a h0 h1] at this
  exact this

theorem val_lt {a b : Int} (h0 : 0 ≤ a) (h1 : a < 4294967296) (g0 : 0 ≤ b) (g1 : b < 4294967296) (h : place a < place b) : val a < val b := by
  rw [place_eq_mg a h0 h1, place_eq_mg b g0 g1] at h
  unfold val
  have pos : ∀ m, 0 < m → 0 < A m := fun m hm => by have := A_strict hm; rw [A_zero] at this; exact this
  cases hs : sgn a <;> cases ht : sgn b <;> rw [hs, ht] at h <;> simp only [Bool.false_eq_true, if_true, if_false] at h ⊢
  · have := A_strict (show mg a < mg b by omega); omega
  · omega
  · have := pos (mg a); have := pos (mg b); omega
  · have := A_strict (show mg b < mg a by omega); omega

/-- A sum by its value. -/
theorem addBy_val (way a b : Int) (h0 : 0 ≤ a) (g0 : 0 ≤ b) (ha : mg a < 2139095040) (hb : mg b < 2139095040) :
    (val a + val b = 0 → ∃ n : Bool, addBy way a b = signBit n) ∧
    (0 < val a + val b → ∃ r : Nat, addBy way a b = signBit false + (r : Int) ∧ RN way false (val a + val b).toNat 1 r) ∧
    (val a + val b < 0 → ∃ r : Nat, addBy way a b = signBit true + (r : Int) ∧ RN way true (-(val a + val b)).toNat 1 r) := by
  obtain ⟨h1, h2, h3, h4, h5⟩ := addBy_fin way a b h0 g0 ha hb
  generalize addBy way a b = res at *
  unfold val
  generalize A (mg a) = X at *
  generalize A (mg b) = Y at *
  cases hs : sgn a <;> cases ht : sgn b <;> rw [hs, ht] at h1 h2 h3 h4 h5 <;> simp only [Bool.false_eq_true, if_true, if_false]
  · refine ⟨fun e => ⟨false, h1 rfl (by omega)⟩, fun e => ?_, fun e => by omega⟩
    rw [show ((X : Int) + (Y : Int)).toNat = X + Y by omega]
    exact h2 rfl (by omega)
  · refine ⟨fun e => ⟨_, h3 (by simp) (by omega)⟩, fun e => ?_, fun e => ?_⟩
    · rw [show ((X : Int) + -(Y : Int)).toNat = X - Y by omega]
      exact h4 (by simp) (by omega)
    · rw [show (-((X : Int) + -(Y : Int))).toNat = Y - X by omega]
      exact h5 (by simp) (by omega)
  · refine ⟨fun e => ⟨_, h3 (by simp) (by omega)⟩, fun e => ?_, fun e => ?_⟩
    · rw [show (-(X : Int) + (Y : Int)).toNat = Y - X by omega]
      exact h5 (by simp) (by omega)
    · rw [show (-(-(X : Int) + (Y : Int))).toNat = X - Y by omega]
      exact h4 (by simp) (by omega)
  · refine ⟨fun e => ⟨true, h1 rfl (by omega)⟩, fun e => by omega, fun e => ?_⟩
    rw [show (-(-(X : Int) + -(Y : Int))).toNat = X + Y by omega]
    exact h2 rfl (by omega)

theorem place_signBit (n : Bool) : place (signBit n) = 0 := by
  have := place_signed n 0 (by omega)
  simpa using this

/-- Order is kept, of finite ones. -/
theorem keeps_fin (way a b c : Int) (h0 : 0 ≤ a) (h1 : a < 4294967296) (g0 : 0 ≤ b) (g1 : b < 4294967296) (k0 : 0 ≤ c)
    (ha : mg a < 2139095040) (hb : mg b < 2139095040) (hc : mg c < 2139095040) (h : place a < place b) :
    place (addBy way a c) ≤ place (addBy way b c) := by
  have hv := val_lt h0 h1 g0 g1 h
  obtain ⟨a1, a2, a3⟩ := addBy_val way a c h0 k0 ha hc
  obtain ⟨b1, b2, b3⟩ := addBy_val way b c g0 k0 hb hc
  have hv2 : val a + val c < val b + val c := by omega
  generalize val a + val c = u at *
  generalize val b + val c = v at *
  have pf : ∀ r : Nat, r ≤ 2139095040 → place (signBit false + (r : Int)) = (r : Int) := fun r hr => by
    have := place_signed false r (by omega); simpa using this
  have pt : ∀ r : Nat, r ≤ 2139095040 → place (signBit true + (r : Int)) = -(r : Int) := fun r hr => by
    have := place_signed true r (by omega); simpa using this
  rcases Int.lt_trichotomy u 0 with hu | hu | hu
  · obtain ⟨r, e1, e2⟩ := a3 hu
    rw [e1, pt r (RN_le e2)]
    rcases Int.lt_trichotomy v 0 with hw | hw | hw
    · obtain ⟨r', f1, f2⟩ := b3 hw
      rw [f1, pt r' (RN_le f2)]
      have := RN_mono (by decide) (show (-v).toNat ≤ (-u).toNat by omega) f2 e2
      omega
    · obtain ⟨n, f1⟩ := b1 hw
      rw [f1, place_signBit]; omega
    · obtain ⟨r', f1, f2⟩ := b2 hw
      rw [f1, pf r' (RN_le f2)]; omega
  · obtain ⟨n, e1⟩ := a1 hu
    rw [e1, place_signBit]
    obtain ⟨r', f1, f2⟩ := b2 (by omega)
    rw [f1, pf r' (RN_le f2)]; omega
  · obtain ⟨r, e1, e2⟩ := a2 hu
    obtain ⟨r', f1, f2⟩ := b2 (by omega)
    rw [e1, f1, pf r (RN_le e2), pf r' (RN_le f2)]
    have := RN_mono (by decide) (show u.toNat ≤ v.toNat by omega) e2 f2
    omega

/-- What fits into 24 bits at a power of two is a float's amount. -/
theorem repr_of (f : Nat) : ∀ d : Nat, d ≤ 16777216 → ∃ m, A m = d * 2 ^ f := by
  induction f with
  | zero => intro d hd; exact ⟨d, by have := A_form 0 d hd (by omega); simpa using this⟩
  | succ f ih =>
    intro d hd
    by_cases h : 8388608 ≤ d
    · exact ⟨(f + 1) * 8388608 + d, A_form (f + 1) d hd (by omega)⟩
    · obtain ⟨m, hm⟩ := ih (2 * d) (by omega)
      exact ⟨m, by rw [hm, Nat.pow_succ]; ac_rfl⟩

theorem sterb (x y : Nat) (h1 : A y ≤ A x) (h2 : A x ≤ 2 * A y) : ∃ d, A d = A x - A y ∧ d ≤ y := by
  have hle : y ≤ x := by
    rcases Nat.lt_or_ge x y with h | h
    · have := A_strict h; omega
    · exact h
  obtain ⟨f, t, e1, e2, e3, e4⟩ := A_split x
  obtain ⟨g, u, d1, d2, d3, d4⟩ := A_split y
  have hx : A x = t * 2 ^ f := by rw [e1]; exact A_form f t (by omega) e3
  have hy : A y = u * 2 ^ g := by rw [d1]; exact A_form g u (by omega) d3
  have hgf : g ≤ f := by omega
  have hx2 : A x = (t * 2 ^ (f - g)) * 2 ^ g := by rw [hx, Nat.mul_assoc, ← Nat.pow_add, show f - g + g = f by omega]
  have pg := Nat.two_pow_pos g
  have k : A x - A y = (t * 2 ^ (f - g) - u) * 2 ^ g := by rw [hx2, hy, Nat.sub_mul]
  have hd : t * 2 ^ (f - g) - u ≤ u := by
    have : (t * 2 ^ (f - g) - u) * 2 ^ g ≤ u * 2 ^ g := by rw [← k, ← hy]; omega
    exact Nat.le_of_mul_le_mul_right this pg
  obtain ⟨m, hm⟩ := repr_of g (t * 2 ^ (f - g) - u) (by omega)
  refine ⟨m, by rw [hm, k], ?_⟩
  rcases Nat.lt_or_ge y m with h | h
  · exfalso
    have := A_strict h
    rw [hm, ← k] at this
    omega
  · exact h

/-- Twice an amount is an amount, or beyond all. -/
theorem twice_of (x : Nat) : ∃ m, A m = 2 * A x := by
  obtain ⟨f, t, e1, e2, e3, e4⟩ := A_split x
  have hx : A x = t * 2 ^ f := by rw [e1]; exact A_form f t (by omega) e3
  obtain ⟨m, hm⟩ := repr_of (f + 1) t (by omega)
  exact ⟨m, by rw [hm, hx, Nat.pow_succ]; ac_rfl⟩

/-- Where the nearest double of x is not less than y, twice x's amount is not less than y's. -/
theorem twice_ge (x y r : Nat) (hy : y < 2139095040) (h : RN 0 false (2 * A x) 1 r) (hr : y ≤ r) : A y ≤ 2 * A x := by
  rcases Nat.lt_or_ge (2 * A x) (A y) with hlt | hge
  · exfalso
    obtain ⟨m, hm⟩ := twice_of x
    have hmy : m < y := by
      rcases Nat.lt_or_ge m y with h | h
      · exact h
      · have := A_mono h; omega
    have := RN_exact (q := 1) (by decide) (show m < 2139095040 by omega) (by rw [hm, Nat.mul_one]; exact h)
    omega
  · exact hge
end Flt
end Go.Proofs.Ytkbniebahledmaa
