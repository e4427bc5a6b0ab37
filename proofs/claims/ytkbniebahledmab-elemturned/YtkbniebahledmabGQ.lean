import Derived.Test.YtkbniebahledmabGP

/-
  Layer 3: arguments turned about: what is rounded, as a signed amount; opposite floats; how far a rounded number is from what was rounded.
-/
namespace Go.Proofs.Ytkbniebahledmab
open Go.RowKit
set_option linter.unusedVariables false

/-- res is what the signed amount v / q is rounded to. -/
def Rd (v : Int) (q : Nat) (res : Int) : Prop := ∃ r : Nat, Flt.RN 0 false v.natAbs q r ∧ Flt.mg res = r ∧ (r ≠ 0 → Flt.sgn res = decide (v < 0))
/-- The same amount, the other sign. -/
def Opp (a b : Int) : Prop := Flt.val b = -Flt.val a

theorem RN0 {n m : Bool} {p q r : Nat} (h : Flt.RN 0 n p q r) : Flt.RN 0 m p q r := by
  obtain ⟨k, h1, h2⟩ := h
  refine ⟨k, h1, ?_⟩
  rw [h2]
  unfold Flt.pick Flt.inW Flt.outW
  simp
theorem RN_none {way : Int} {n : Bool} {q r : Nat} (hq : 0 < q) (h : Flt.RN way n 0 q r) : r = 0 := Flt.RN_one hq h (Flt.RN_zero way n q hq)
theorem Rd_signed {v : Int} {q r : Nat} {s : Bool} (h : Flt.RN 0 s v.natAbs q r) (hs : r ≠ 0 → s = decide (v < 0)) : Rd v q (Flt.signBit s + (r : Int)) := by
  have := Flt.RN_le h
  refine ⟨r, RN0 h, Flt.mg_signed _ _ (by omega), fun hr => ?_⟩
  rw [Flt.sgn_signed _ _ (by omega)]; exact hs hr
theorem Rd_sign0 {q : Nat} (hq : 0 < q) (s : Bool) : Rd 0 q (Flt.signBit s) := by
  refine ⟨0, Flt.RN_zero 0 false q hq, ?_, fun h => absurd rfl h⟩
  have := Flt.mg_signed s 0 (by omega)
  rw [show Flt.signBit s + ((0 : Nat) : Int) = Flt.signBit s by omega] at this
  exact this
def sv (n : Bool) (X : Nat) : Int := if n = true then -(X : Int) else (X : Int)
theorem val_sv (a : Int) : Flt.val a = sv (Flt.sgn a) (Flt.A (Flt.mg a)) := rfl
theorem sumQ_Rd {xn yn : Bool} {X Y q : Nat} {res : Int} (hq : 0 < q) (h : Flt.SumQ 0 xn yn X Y q res) : Rd (sv xn X + sv yn Y) q res := by
  obtain ⟨h1, h2, h3, h4, h5⟩ := h
  by_cases hs : xn = yn
  · subst hs
    rcases Nat.eq_zero_or_pos (X + Y) with hz | hz
    · rw [h1 rfl hz]
      have : sv xn X + sv xn Y = 0 := by unfold sv; split <;> omega
      rw [this]; exact Rd_sign0 hq _
    · obtain ⟨r, e, hr⟩ := h2 rfl hz
      rw [e]
      refine Rd_signed ?_ (fun _ => ?_)
      · have : (sv xn X + sv xn Y).natAbs = X + Y := by unfold sv; split <;> omega
        rw [this]; exact hr
      · unfold sv; cases xn <;> simp <;> omega
  · rcases Nat.lt_trichotomy X Y with g | g | g
    · obtain ⟨r, e, hr⟩ := h5 hs g
      rw [e]
      refine Rd_signed ?_ (fun _ => ?_)
      · have : (sv xn X + sv yn Y).natAbs = Y - X := by unfold sv; cases xn <;> cases yn <;> simp_all <;> omega
        rw [this]; exact hr
      · unfold sv; cases xn <;> cases yn <;> simp_all <;> omega
    · rw [h3 hs g]
      have : sv xn X + sv yn Y = 0 := by unfold sv; cases xn <;> cases yn <;> simp_all <;> omega
      rw [this]; exact Rd_sign0 hq _
    · obtain ⟨r, e, hr⟩ := h4 hs g
      rw [e]
      refine Rd_signed ?_ (fun _ => ?_)
      · have : (sv xn X + sv yn Y).natAbs = X - Y := by unfold sv; cases xn <;> cases yn <;> simp_all <;> omega
        rw [this]; exact hr
      · unfold sv; cases xn <;> cases yn <;> simp_all <;> omega
theorem sv_mul (a b : Int) : sv (Flt.sgn a != Flt.sgn b) (Flt.A (Flt.mg a) * Flt.A (Flt.mg b)) = Flt.val a * Flt.val b := by
  rw [val_sv, val_sv]; unfold sv
  cases Flt.sgn a <;> cases Flt.sgn b <;> simp [Int.neg_mul, Int.mul_neg]
theorem sv_scale (n : Bool) (X K : Nat) : sv n (X * K) = sv n X * (K : Int) := by
  unfold sv; cases n <;> simp [Int.neg_mul]
theorem Rd_fma {a b c : Int} (ha : R a) (hb : R b) (hc : R c) (fa : Flt.mg a < 2139095040) (fb : Flt.mg b < 2139095040) (fc : Flt.mg c < 2139095040) :
    Rd (Flt.val a * Flt.val b + Flt.val c * ((2 ^ 149 : Nat) : Int)) (2 ^ 149) (Flt.fmaC 0 a b c) := by
  have h := sumQ_Rd (Nat.two_pow_pos 149) (Flt.fmaC_fin 0 a b c ha.lo hb.lo hc.lo hc.hi fa fb fc)
  rw [sv_mul, sv_scale, ← val_sv] at h
  exact h
theorem Rd_mul {a b : Int} (ha : R a) (hb : R b) (fa : Flt.mg a < 2139095040) (fb : Flt.mg b < 2139095040) :
    Rd (Flt.val a * Flt.val b) (2 ^ 149) (Flt.mulBy 0 a b) := by
  obtain ⟨r, e, hr⟩ := Flt.mulBy_fin 0 a b ha.lo hb.lo fa fb
  rw [e, ← sv_mul]
  refine Rd_signed ?_ (fun h0 => ?_)
  · have : (sv (Flt.sgn a != Flt.sgn b) (Flt.A (Flt.mg a) * Flt.A (Flt.mg b))).natAbs = Flt.A (Flt.mg a) * Flt.A (Flt.mg b) := by unfold sv; split <;> omega
    rw [this]; exact hr
  · have hp : Flt.A (Flt.mg a) * Flt.A (Flt.mg b) ≠ 0 := fun h => by rw [h] at hr; exact h0 (RN_none (Nat.two_pow_pos 149) hr)
    unfold sv
    generalize Flt.A (Flt.mg a) * Flt.A (Flt.mg b) = P at hp
    cases (Flt.sgn a != Flt.sgn b)
    · simp
    · simp; omega
theorem val_of_mg {a : Int} {r : Nat} (h : Flt.mg a = r) : Flt.val a = if Flt.sgn a = true then -(Flt.A r : Int) else (Flt.A r : Int) := by unfold Flt.val; rw [h]
theorem A_pos' {m : Nat} (h : m ≠ 0) : 0 < Flt.A m := by have := Flt.A_strict (show 0 < m by omega); omega
/-- Opposite amounts are rounded to opposite floats. -/
theorem Rd_opp {v u : Int} {q : Nat} {a b : Int} (hq : 0 < q) (h : Rd v q a) (k : Rd u q b) (huv : u = -v) : Opp a b := by
  obtain ⟨r, h1, h2, h3⟩ := h
  obtain ⟨r', k1, k2, k3⟩ := k
  subst huv
  rw [Int.natAbs_neg] at k1
  have e := Flt.RN_one hq h1 k1
  subst e
  unfold Opp
  rw [val_of_mg h2, val_of_mg k2]
  by_cases hr : r = 0
  · subst hr; rw [Flt.A_zero]; (repeat' split) <;> omega
  · have hv : v ≠ 0 := fun hv => by rw [hv] at h1; exact hr (RN_none hq h1)
    rw [h3 hr, k3 hr]
    by_cases hn : v < 0
    · rw [show decide (v < 0) = true by simp [hn], show decide (-v < 0) = false by rw [decide_eq_false_iff_not]; omega, if_pos rfl, if_neg (by decide)]; omega
    · rw [show decide (v < 0) = false by simp [hn], show decide (-v < 0) = true by rw [decide_eq_true_iff]; omega, if_pos rfl, if_neg (by decide)]
theorem Opp.mg {a b : Int} (h : Opp a b) : Flt.mg b = Flt.mg a := by
  unfold Opp Flt.val at h
  apply Flt.A_inj
  (repeat' split at h) <;> omega
theorem Opp.sgn {a b : Int} (h : Opp a b) (h0 : Flt.mg a ≠ 0) : Flt.sgn b = !Flt.sgn a := by
  have hm := h.mg
  have hp := A_pos' h0
  unfold Opp Flt.val at h
  rw [hm] at h
  cases ha : Flt.sgn a <;> cases hb : Flt.sgn b <;> simp_all <;> omega
theorem Opp_neg {a : Int} (ha : R a) : Opp a (Flt.negF a) := by
  unfold Opp Flt.val
  rw [Flt.mg_neg, Flt.sgn_neg a ha.lo ha.hi]
  cases Flt.sgn a <;> simp
theorem opp_of {a b : Int} (hm : Flt.mg b = Flt.mg a) (hs : Flt.mg a ≠ 0 → Flt.sgn b = !Flt.sgn a) : Opp a b := by
  unfold Opp Flt.val
  rw [hm]
  by_cases hz : Flt.mg a = 0
  · rw [hz, Flt.A_zero]; (repeat' split) <;> omega
  · rw [hs hz]; cases Flt.sgn a <;> simp
theorem Opp_even {a b : Int} (ha : R a) (hb : R b) (fa : Flt.mg a < 2139095040) (h : Opp a b) : Opp (Flt.wholeC 0 a) (Flt.wholeC 0 b) := by
  have hm := h.mg
  obtain ⟨m, N, e1, e2, e3, e4⟩ := Flt.wholeC_spec 0 a ha.lo ha.hi fa
  obtain ⟨m', N', g1, g2, g3, g4⟩ := Flt.wholeC_spec 0 b hb.lo hb.hi (by rw [hm]; exact fa)
  have hg : ∀ s t : Bool, ∀ V : Nat, Flt.goes 0 s V ↔ Flt.goes 0 t V := fun s t V => by unfold Flt.goes; simp
  rw [hm, hg (Flt.sgn b) (Flt.sgn a)] at g4
  have hN : N' = N := by
    rcases e4 with ⟨x, y⟩ | ⟨x, y⟩ <;> rcases g4 with ⟨x', y'⟩ | ⟨x', y'⟩
    · omega
    · exact absurd x x'
    · exact absurd x' x
    · omega
  have hmm : m' = m := Flt.A_inj (by rw [g3, e3, hN])
  rw [e1, g1]
  refine opp_of ?_ ?_
  · rw [Flt.mg_signed _ _ (by omega), Flt.mg_signed _ _ (by omega), hmm]
  · rw [Flt.mg_signed _ _ (by omega), Flt.sgn_signed _ _ (by omega), Flt.sgn_signed _ _ (by omega)]
    intro h0
    refine h.sgn (fun hz => h0 ?_)
    have : N = 0 := by
      rw [hz, Flt.A_zero] at e4
      rcases e4 with ⟨⟨x, _⟩, _⟩ | ⟨_, y⟩
      · exact absurd (by simp) x
      · simpa using y
    rw [this, Nat.zero_mul] at e3
    exact Flt.A_inj (by rw [e3, Flt.A_zero])
theorem Opp_mul {a a' b : Int} (ha : R a) (ha' : R a') (hb : R b) (fa : Flt.mg a < 2139095040) (fb : Flt.mg b < 2139095040) (h : Opp a a') : Opp (Flt.mulBy 0 a b) (Flt.mulBy 0 a' b) :=
  Rd_opp (Nat.two_pow_pos 149) (Rd_mul ha hb fa fb) (Rd_mul ha' hb (by rw [h.mg]; exact fa) fb) (by rw [show Flt.val a' = -Flt.val a from h, Int.neg_mul])
theorem Opp_fma {a a' b c c' : Int} (ha : R a) (ha' : R a') (hb : R b) (hc : R c) (hc' : R c') (fa : Flt.mg a < 2139095040) (fb : Flt.mg b < 2139095040) (fc : Flt.mg c < 2139095040) (h : Opp a a') (k : Opp c c') : Opp (Flt.fmaC 0 a b c) (Flt.fmaC 0 a' b c') :=
  Rd_opp (Nat.two_pow_pos 149) (Rd_fma ha hb hc fa fb fc) (Rd_fma ha' hb hc' (by rw [h.mg]; exact fa) fb (by rw [k.mg]; exact fc)) (by
    rw [show Flt.val a' = -Flt.val a from h, show Flt.val c' = -Flt.val c from k, Int.neg_mul, Int.neg_mul, ← Int.neg_add])
theorem bits_eq {a b : Int} (ha : R a) (hb : R b) (hm : Flt.mg a = Flt.mg b) (hs : Flt.sgn a = Flt.sgn b) : a = b := by
  rw [Flt.signed_eq a ha.lo ha.hi, Flt.signed_eq b hb.lo hb.hi, hm, hs]
theorem square_same {a b : Int} (ha : R a) (hb : R b) (fa : Flt.mg a < 2139095040) (h : Opp a b) : Flt.mulBy 0 b b = Flt.mulBy 0 a a := by
  have fb : Flt.mg b < 2139095040 := by rw [h.mg]; exact fa
  obtain ⟨r, e, hr⟩ := Flt.mulBy_fin 0 a a ha.lo ha.lo fa fa
  obtain ⟨r', e', hr'⟩ := Flt.mulBy_fin 0 b b hb.lo hb.lo fb fb
  rw [h.mg] at hr'
  have s1 : ∀ s : Bool, (s != s) = false := fun s => by cases s <;> rfl
  rw [s1] at e e' hr hr'
  rw [e, e', Flt.RN_one (Nat.two_pow_pos 149) hr hr']
theorem toInt_opp {a b : Int} {n : Nat} (ba : Bd a n) (hn : n ≤ 60) (h : Opp a b) : Flt.toIntV b = -Flt.toIntV a := by
  have hm := h.mg
  have n1 := ba.nn (by omega)
  have n2 : Flt.isNaN b = false := by rw [Flt.isNaN_not] at *; omega
  unfold Bd at ba
  unfold Flt.toIntV
  have c : ¬ 190 ≤ Flt.mg a / 8388608 := by omega
  have f : ¬ ((false : Bool) = true) := by decide
  rw [n1, n2, hm, if_neg f, if_neg f, if_neg c, if_neg c]
  by_cases hz : Flt.mg a = 0
  · rw [hz, Flt.A_zero, Nat.zero_div]; (repeat' split) <;> rfl
  · rw [h.sgn hz]
    generalize Flt.A (Flt.mg a) / 2 ^ 149 = D
    cases Flt.sgn a
    · rfl
    · show (D : Int) = - -(D : Int)
      omega
theorem place_opp {a b : Int} (ha : R a) (hb : R b) (h : Opp a b) : Flt.place b = -Flt.place a := by
  rw [Flt.place_eq_mg a ha.lo ha.hi, Flt.place_eq_mg b hb.lo hb.hi, h.mg]
  by_cases hz : Flt.mg a = 0
  · rw [hz]; (repeat' split) <;> simp
  · rw [h.sgn hz]; cases Flt.sgn a <;> simp

/-- How far the rounded number is from what was rounded. -/
theorem RN_err {n : Bool} {p q r B : Nat} (hq : 0 < q) (hB : B ≤ 254) (h : Flt.RN 0 n p q r) (hr : r < B * 8388608) (h1 : 1 ≤ B) : 2 * (Flt.A r * q) ≤ 2 * p + 2 ^ (B - 2) * q ∧ 2 * p ≤ 2 * (Flt.A r * q) + 2 ^ (B - 2) * q := by
  obtain ⟨m, ⟨m1, m2, m3⟩, e⟩ := h
  have hm : m ≤ r ∧ m < 2139095040 ∧ (r = m ∨ r = m + 1) := by
    unfold Flt.pick Flt.inW Flt.outW at e
    simp at e
    split at e
    · omega
    · split at e
      · omega
      · split at e <;> omega
  have m4 := m3 hm.2.1
  have hs := Flt.A_succ m
  have hg : 2 ^ (m / 8388608 - 1) ≤ 2 ^ (B - 2) := pow_le2 (by omega)
  have hgq := Nat.mul_le_mul_right q hg
  have e2 : Flt.A (m + 1) * q = Flt.A m * q + 2 ^ (m / 8388608 - 1) * q := by rw [hs, Nat.add_mul]
  have e3 : (Flt.A m + Flt.A (m + 1)) * q = 2 * (Flt.A m * q) + 2 ^ (m / 8388608 - 1) * q := by rw [Nat.add_mul, e2]; omega
  unfold Flt.pick at e
  rw [if_neg (by omega)] at e
  by_cases c1 : Flt.A m * q = p ∨ Flt.inW 0 n = true
  · rw [if_pos c1] at e
    have : Flt.A m * q = p := by
      rcases c1 with h | h
      · exact h
      · unfold Flt.inW at h; simp at h
    subst e
    omega
  · rw [if_neg c1, if_neg (by unfold Flt.outW; simp)] at e
    split at e
    · rename_i h
      subst e
      rw [e2]
      rcases h with h | ⟨h, _⟩ <;> omega
    · rename_i h
      subst e
      omega
end Go.Proofs.Ytkbniebahledmab
