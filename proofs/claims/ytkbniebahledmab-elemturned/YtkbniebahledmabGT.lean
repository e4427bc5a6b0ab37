import Derived.Test.YtkbniebahledmabGS

/-
  Layer 3: the sine of what is left of an angle is not nought where that is at most 2 and not nought (P3.8).
-/
namespace Go.Proofs.Ytkbniebahledmab
open Go.RowKit
set_option linter.unusedVariables false

theorem RN_small {n : Bool} {p q r : Nat} (h : Flt.RN 0 n p q r) (hp : 2 * p < q) : r = 0 := by
  obtain ⟨m, ⟨m1, m2, m3⟩, e⟩ := h
  have hm : m = 0 := by
    rcases Nat.eq_zero_or_pos m with g | g
    · exact g
    · have := Flt.A_mono (show 1 ≤ m from g)
      have e1 : Flt.A 1 = 1 := by decide
      have := Nat.mul_le_mul_right q (show 1 ≤ Flt.A m by omega)
      omega
  subst hm
  have e1 : Flt.A (0 + 1) = 1 := by decide
  unfold Flt.pick Flt.inW Flt.outW at e
  rw [Flt.A_zero, e1, Nat.zero_mul, Nat.zero_add, Nat.one_mul] at e
  simp at e
  split at e
  · exact e
  · rw [if_neg (by omega)] at e; exact e
theorem RN_pos {n : Bool} {p q r : Nat} (h : Flt.RN 0 n p q r) (hp : q < 2 * p) : r ≠ 0 := by
  obtain ⟨m, ⟨m1, m2, m3⟩, e⟩ := h
  intro hr
  have hm : m = 0 := by
    unfold Flt.pick Flt.inW Flt.outW at e
    simp at e
    split at e
    · omega
    · split at e
      · omega
      · split at e <;> omega
  subst hm
  have e1 : Flt.A (0 + 1) = 1 := by decide
  unfold Flt.pick Flt.inW Flt.outW at e
  rw [Flt.A_zero, e1, Nat.zero_mul, Nat.zero_add, Nat.one_mul] at e
  simp at e
  rw [if_neg (by omega), if_pos (by omega)] at e
  omega
theorem w_arith {a c u w : Nat} (ha : 2 ≤ a) (hw : w ≤ 4 * a * c) (hc : 64 * c ≤ 11 * u) (hu : 0 < u) : u < 2 * (a * u - w) := by
  have h1 := Nat.mul_le_mul_left a hc
  have e1 : a * (64 * c) = 16 * (4 * a * c) := by rw [Nat.mul_left_comm, Nat.mul_assoc 4]; omega
  have e2 : a * (11 * u) = 11 * (a * u) := Nat.mul_left_comm _ _ _
  have h2 := Nat.mul_le_mul_right u ha
  rw [e1, e2] at h1
  generalize a * u = x at *
  generalize 4 * a * c = y at *
  omega
theorem Rd_pos {v : Int} {q p : Nat} {res : Int} (h : Rd v q res) (hv : v = (p : Int)) : Flt.RN 0 false p q (Flt.mg res) ∧ Flt.val res = (Flt.A (Flt.mg res) : Int) := by
  obtain ⟨r, h1, h2, h3⟩ := h
  subst hv
  rw [Int.natAbs_natCast] at h1
  refine ⟨by rw [h2]; exact h1, ?_⟩
  rw [val_of_mg h2, h2]
  by_cases hr : r = 0
  · subst hr; rw [Flt.A_zero]; split <;> rfl
  · rw [h3 hr, if_neg (by simp)]
theorem Rd_neg {v : Int} {q p : Nat} {res : Int} (hq : 0 < q) (h : Rd v q res) (hv : v = -(p : Int)) : Flt.RN 0 false p q (Flt.mg res) ∧ Flt.val res = -(Flt.A (Flt.mg res) : Int) := by
  obtain ⟨r, h1, h2, h3⟩ := h
  subst hv
  rw [Int.natAbs_neg, Int.natAbs_natCast] at h1
  refine ⟨by rw [h2]; exact h1, ?_⟩
  rw [val_of_mg h2, h2]
  by_cases hr : r = 0
  · subst hr; rw [Flt.A_zero]; split <;> rfl
  · have hp : p ≠ 0 := fun hp => by rw [hp] at h1; exact hr (RN_none hq h1)
    rw [h3 hr, if_pos (by simp; omega)]
theorem cast_sub1 {p u : Nat} (h : p ≤ u) : -(p : Int) + (u : Int) = ((u - p : Nat) : Int) := by omega
theorem cast_sub2 {p u : Nat} (h : p ≤ u) : (p : Int) + -(u : Int) = -((u - p : Nat) : Int) := by omega
theorem sv_sub (s : Bool) {p u : Nat} (h : p ≤ u) : -(sv s p) + sv s u = sv s (u - p) := by unfold sv; split <;> omega
theorem sv_abs (s : Bool) (p : Nat) : (sv s p).natAbs = p := by unfold sv; split <;> omega
theorem sv_mulNat (s : Bool) (p u : Nat) : sv s p * (u : Int) = sv s (p * u) := (sv_scale s p u).symm
theorem S_nz {r : Int} (hr : R r) (br : Bd r 1) (h0 : Flt.mg r ≠ 0) : Flt.mg (cirS r) ≠ 0 := by
  obtain ⟨rz, bz, sz⟩ := z_facts hr br (show 1 + 1 ≤ 2 by omega) (by omega)
  have bz90 : Bd (Flt.mulBy 0 r r) 90 := bz.mono (by omega)
  obtain ⟨ry1, _, ry2, _⟩ := sY_nn rz bz90
  have hz := Rd_mul hr hr (br.fin (by omega)) (br.fin (by omega))
  rw [cirS_eq]
  generalize hzz : Flt.mulBy 0 r r = z at *
  have hZ : Flt.A (Flt.mg z) ≤ 2 ^ 151 := bz.A
  have fz := bz.fin (show 2 ≤ 127 by decide)
  have fr := br.fin (show 1 ≤ 127 by decide)
  have hU := Nat.two_pow_pos 149
  -- the first step of the row
  have k1 := Rd_fma rz (⟨by omega, by omega⟩ : R 0xB9500D01) (⟨by omega, by omega⟩ : R 0x3C088889) fz (by decide) (by decide)
  have l1 : Flt.A (Flt.mg z) * (2 ^ 113 * 13634817) ≤ 2 ^ 119 * 8947849 * 2 ^ 149 := Nat.le_trans (Nat.mul_le_mul_right _ hZ) (by decide)
  rw [vC0, vC1, val_pos sz, Int.mul_neg, ← Int.natCast_mul, ← Int.natCast_mul, cast_sub1 l1] at k1
  obtain ⟨n1, v1⟩ := Rd_pos k1 rfl
  have m1 : Flt.mg (sY1 z) ≤ 0x3C088889 := RN_up (m := 0x3C088889) hU (by decide) (by
    rw [show Flt.A 0x3C088889 = 2 ^ 119 * 8947849 by decide +kernel]; exact Nat.sub_le _ _) n1
  have a1 : Flt.A (Flt.mg (sY1 z)) ≤ 2 ^ 119 * 8947849 := by
    have := Flt.A_mono m1
    rw [show Flt.A 0x3C088889 = 2 ^ 119 * 8947849 by decide +kernel] at this; exact this
  -- the second
  have f1 : Flt.mg (sY1 z) < 2139095040 := Nat.lt_of_le_of_lt m1 (by decide)
  have k2 := Rd_fma rz ry1 (⟨by omega, by omega⟩ : R 0xBE2AAAAB) fz f1 (by decide)
  have l2 : Flt.A (Flt.mg z) * Flt.A (Flt.mg (sY1 z)) ≤ 2 ^ 123 * 11184811 * 2 ^ 149 := Nat.le_trans (Nat.mul_le_mul hZ a1) (by decide)
  have v1' : Flt.val (sY1 z) = (Flt.A (Flt.mg (sY1 z)) : Int) := v1
  rw [vC2, val_pos sz, v1', Int.neg_mul, ← Int.natCast_mul, ← Int.natCast_mul, cast_sub2 l2] at k2
  obtain ⟨n2, v2⟩ := Rd_neg hU k2 rfl
  have m2 : Flt.mg (sY2 z) ≤ 0x3E2AAAAB := RN_up (m := 0x3E2AAAAB) hU (by decide) (by
    rw [show Flt.A 0x3E2AAAAB = 2 ^ 123 * 11184811 by decide +kernel]; exact Nat.sub_le _ _) n2
  have a2 : Flt.A (Flt.mg (sY2 z)) ≤ 2 ^ 123 * 11184811 := by
    have := Flt.A_mono m2
    rw [show Flt.A 0x3E2AAAAB = 2 ^ 123 * 11184811 by decide +kernel] at this; exact this
  have v2' : Flt.val (sY2 z) = -(Flt.A (Flt.mg (sY2 z)) : Int) := v2
  have f2 : Flt.mg (sY2 z) < 2139095040 := Nat.lt_of_le_of_lt m2 (by decide)
  -- r times z
  have k3 := Rd_mul hr rz fr fz
  rw [val_sv r, val_pos sz, sv_mulNat] at k3
  have rrz := R_mul hr rz
  have h3 : Flt.RN 0 false (Flt.A (Flt.mg r) * Flt.A (Flt.mg z)) (2 ^ 149) (Flt.mg (Flt.mulBy 0 r z)) ∧ Flt.val (Flt.mulBy 0 r z) = sv (Flt.sgn r) (Flt.A (Flt.mg (Flt.mulBy 0 r z))) := by
    cases hs : Flt.sgn r
    · rw [hs] at k3; exact Rd_pos k3 rfl
    · rw [hs] at k3; exact Rd_neg hU k3 rfl
  obtain ⟨n3, v3⟩ := h3
  obtain ⟨t2, ht2⟩ := Flt.twice_of (Flt.mg r)
  obtain ⟨t4, ht4⟩ := Flt.twice_of t2
  rw [ht2] at ht4
  have hAr : Flt.A (Flt.mg r) ≤ 2 ^ 150 := br.A
  have ht4b : t4 < 2139095040 := by
    rcases Nat.lt_or_ge t4 2139095040 with g | g
    · exact g
    · exfalso
      have := Flt.A_mono g
      rw [ht4, Flt.A_inf] at this
      have h8 : 2 * (2 * Flt.A (Flt.mg r)) ≤ 2 * (2 * 2 ^ 150) := Nat.mul_le_mul_left _ (Nat.mul_le_mul_left _ hAr)
      exact absurd (Nat.le_trans this h8) (by decide)
  have m3 : Flt.mg (Flt.mulBy 0 r z) ≤ t4 := RN_up hU ht4b (by
    rw [ht4]
    refine Nat.le_trans (Nat.mul_le_mul_left _ hZ) (Nat.le_of_eq ?_)
    rw [show (2 : Nat) ^ 151 = 2 * (2 * 2 ^ 149) by decide]
    generalize (2 : Nat) ^ 149 = u
    generalize Flt.A (Flt.mg r) = a
    rw [Nat.mul_left_comm a, Nat.mul_left_comm a, Nat.mul_assoc, Nat.mul_assoc]) n3
  have a3 : Flt.A (Flt.mg (Flt.mulBy 0 r z)) ≤ 4 * Flt.A (Flt.mg r) := by
    have := Flt.A_mono m3
    rw [ht4] at this; omega
  have f3 : Flt.mg (Flt.mulBy 0 r z) < 2139095040 := Nat.lt_of_le_of_lt m3 ht4b
  -- the last one
  have k4 := Rd_fma rrz ry2 hr f3 f2 fr
  have hw : Flt.A (Flt.mg (Flt.mulBy 0 r z)) * Flt.A (Flt.mg (sY2 z)) ≤ 4 * Flt.A (Flt.mg r) * (2 ^ 123 * 11184811) := Nat.mul_le_mul a3 a2
  have hc : 64 * (2 ^ 123 * 11184811) ≤ 11 * 2 ^ 149 := by decide
  have hle : Flt.A (Flt.mg (Flt.mulBy 0 r z)) * Flt.A (Flt.mg (sY2 z)) ≤ Flt.A (Flt.mg r) * 2 ^ 149 := by
    refine Nat.le_trans hw ?_
    rw [Nat.mul_comm 4, Nat.mul_assoc]
    exact Nat.mul_le_mul_left _ (by decide)
  rw [v3, v2', val_sv r, Int.mul_neg, sv_mulNat, sv_mulNat, sv_sub _ hle] at k4
  obtain ⟨q, q1, q2, _⟩ := k4
  rw [sv_abs] at q1
  rw [q2]
  refine RN_pos q1 ?_
  rcases Nat.lt_or_ge (Flt.A (Flt.mg r)) 2 with g | g
  · -- the least float: its square is nought
    have hp := A_pos' h0
    have hA1 : Flt.A (Flt.mg r) = 1 := by omega
    have hz0 : Flt.mg z = 0 := by
      rw [val_sv r, hA1] at hz
      obtain ⟨y, y1, y2, _⟩ := hz
      have : (sv (Flt.sgn r) 1 * sv (Flt.sgn r) 1).natAbs = 1 := by unfold sv; split <;> decide
      rw [this] at y1
      rw [y2]; exact RN_small y1 (by decide)
    have hz3 : Flt.A (Flt.mg (Flt.mulBy 0 r z)) = 0 := by
      rw [hz0, Flt.A_zero, Nat.mul_zero] at n3
      rw [RN_none hU n3, Flt.A_zero]
    rw [hz3, hA1, Nat.zero_mul, Nat.one_mul]
    decide
  · exact w_arith g hw hc hU
/-- The cosine does not see its argument's sign. -/
theorem turned_cos_all {x : Int} (hx : R x) (bx : Bd x 40) : cirV x 1 = cirV (Flt.negF x) 1 := by
  obtain ⟨_, _, _, _, _, _, rr, br⟩ := cir_bd hx bx
  refine turned_cos hx bx fun hodd => ?_
  obtain ⟨b1, h0⟩ := odd_left hx bx hodd
  exact S_nz rr b1 h0
theorem isNaN_neg (x : Int) : Flt.isNaN (Flt.negF x) = Flt.isNaN x := by
  rw [Bool.eq_iff_iff, Flt.isNaN_iff, Flt.isNaN_iff, Flt.mg_neg]
theorem abs_neg (x : Int) : Flt.absF (Flt.negF x) = Flt.absF x := by unfold Flt.absF Flt.negF; omega
theorem with_neg {x y : Int} (hx : R x) (hy : R y) : withV (Flt.negF x) y = Flt.negF (withV x y) := by
  unfold withV
  rw [Flt.sgn_neg x hx.lo hx.hi]
  cases Flt.sgn x
  · rfl
  · rw [if_neg (by decide), if_pos rfl, neg_neg hy]
theorem turned_tanh {x : Int} (hx : R x) (hn : Flt.isNaN x = false) : tanhV (Flt.negF x) = Flt.negF (tanhV x) := by
  unfold tanhV
  have f : ¬ ((false : Bool) = true) := by decide
  rw [isNaN_neg, abs_neg, hn, if_neg f, if_neg f]
  split
  · rfl
  · exact with_neg hx (R_held ⟨by omega, by omega⟩ ⟨by omega, by omega⟩ (tanhT_nn (R_abs x) (nn_abs hn)).1)
theorem turned_erf {x : Int} (hx : R x) (hn : Flt.isNaN x = false) : erfV (Flt.negF x) = Flt.negF (erfV x) := by
  unfold erfV
  have f : ¬ ((false : Bool) = true) := by decide
  rw [isNaN_neg, abs_neg, hn, if_neg f, if_neg f]
  split
  · rfl
  · split
    · exact with_neg hx ⟨by omega, by omega⟩
    · rename_i hl
      exact with_neg hx (R_held ⟨by omega, by omega⟩ ⟨by omega, by omega⟩ (erfR_nn (R_abs x) (abs_facts x).1 (erf_in hn (by simpa using hl))).1)
end Go.Proofs.Ytkbniebahledmab
