import Derived.Test.YtkbniebahledmabGQ

/-
  Layer 3: the circle's functions of an argument turned about (P3.8): what is left of an angle, its sine and its cosine.
-/
namespace Go.Proofs.Ytkbniebahledmab
open Go.RowKit
set_option linter.unusedVariables false

def cirT1 (x : Int) : Int := Flt.fmaC 0 (cirK x) 0xBFC90000 x
def cirT2 (x : Int) : Int := Flt.fmaC 0 (cirK x) 0xB9FDA000 (cirT1 x)
theorem cirR_eq (x : Int) : cirR x = Flt.fmaC 0 (cirK x) 0xB3A22169 (cirT2 x) := rfl
theorem cir_bd {x : Int} (hx : R x) (bx : Bd x 40) :
    R (cirK x) ∧ Bd (cirK x) 41 ∧ R (cirT1 x) ∧ Bd (cirT1 x) 43 ∧ R (cirT2 x) ∧ Bd (cirT2 x) 44 ∧ R (cirR x) ∧ Bd (cirR x) 45 := by
  have rc : R 0x3F22F983 := ⟨by omega, by omega⟩
  have ra := R_mul hx rc
  have ba : Bd (Flt.mulBy 0 x 0x3F22F983) 40 := Bd_mul hx rc bx (show Bd 0x3F22F983 0 by unfold Bd; decide) (by omega) (by omega)
  have rk : R (cirK x) := R_good (even_good ra)
  have bk : Bd (cirK x) 41 := Bd_even ra ba (by omega)
  have r1 : R (cirT1 x) := R_fma rk ⟨by omega, by omega⟩ hx
  have b1 : Bd (cirT1 x) 43 := Bd_fma rk ⟨by omega, by omega⟩ hx bk (show Bd 0xBFC90000 1 by unfold Bd; decide) bx (by omega) (by omega) (by omega)
  have r2 : R (cirT2 x) := R_fma rk ⟨by omega, by omega⟩ r1
  have b2 : Bd (cirT2 x) 44 := Bd_fma rk ⟨by omega, by omega⟩ r1 bk (show Bd 0xB9FDA000 0 by unfold Bd; decide) b1 (by omega) (by omega) (by omega)
  have r3 : R (cirR x) := R_fma rk ⟨by omega, by omega⟩ r2
  have b3 : Bd (cirR x) 45 := Bd_fma rk ⟨by omega, by omega⟩ r2 bk (show Bd 0xB3A22169 0 by unfold Bd; decide) b2 (by omega) (by omega) (by omega)
  exact ⟨rk, bk, r1, b1, r2, b2, r3, b3⟩
theorem Bd_of_opp {a b : Int} {n : Nat} (h : Opp a b) (k : Bd a n) : Bd b n := by unfold Bd at *; rw [h.mg]; exact k
theorem cir_opp {x : Int} (hx : R x) (bx : Bd x 40) : Opp (cirK x) (cirK (Flt.negF x)) ∧ Opp (cirR x) (cirR (Flt.negF x)) := by
  obtain ⟨rk, bk, r1, b1, r2, b2, r3, b3⟩ := cir_bd hx bx
  have hn := R_neg x
  have on := Opp_neg hx
  obtain ⟨rk', bk', r1', b1', r2', b2', r3', b3'⟩ := cir_bd hn (Bd_neg bx)
  have rc : R 0x3F22F983 := ⟨by omega, by omega⟩
  have oa := Opp_mul hx hn rc (bx.fin (by omega)) (by decide) on
  have ok : Opp (cirK x) (cirK (Flt.negF x)) := Opp_even (R_mul hx rc) (R_mul hn rc) ((Bd_mul (n := 40) hx rc bx (show Bd 0x3F22F983 0 by unfold Bd; decide) (by omega) (by omega)).fin (by omega)) oa
  have o1 : Opp (cirT1 x) (cirT1 (Flt.negF x)) := Opp_fma rk rk' ⟨by omega, by omega⟩ hx hn (bk.fin (by omega)) (by decide) (bx.fin (by omega)) ok on
  have o2 : Opp (cirT2 x) (cirT2 (Flt.negF x)) := Opp_fma rk rk' ⟨by omega, by omega⟩ r1 r1' (bk.fin (by omega)) (by decide) (b1.fin (by omega)) ok o1
  exact ⟨ok, Opp_fma rk rk' ⟨by omega, by omega⟩ r2 r2' (bk.fin (by omega)) (by decide) (b2.fin (by omega)) ok o2⟩

/-! The sine and the cosine of what is left. -/
theorem fma_nn2 {a b c : Int} (ha : R a) (hb : R b) (hc : R c) (hm : Flt.isNaN (Flt.mulBy 0 a b) = false) (fc : Flt.mg c < 2139095040) : Flt.isNaN (Flt.fmaC 0 a b c) = false := by
  obtain ⟨n1, n2⟩ := (Flt.fin_iff c).2 fc
  have hna : Flt.isNaN a = false ∧ Flt.isNaN b = false := by
    constructor
    · cases h : Flt.isNaN a
      · rfl
      · have : Flt.mulBy 0 a b = 2143289344 := by unfold Flt.mulBy; rw [if_pos (.inl h)]
        rw [this] at hm; exact absurd hm (by decide)
    · cases h : Flt.isNaN b
      · rfl
      · have : Flt.mulBy 0 a b = 2143289344 := by unfold Flt.mulBy; rw [if_pos (.inr h)]
        rw [this] at hm; exact absurd hm (by decide)
  by_cases hi : Flt.isInf a = true ∨ Flt.isInf b = true
  · have : Flt.fmaC 0 a b c = Flt.mulBy 0 a b := by
      unfold Flt.fmaC
      rw [hm, n1, n2, if_neg (by decide)]
      have : (Flt.isInf a || Flt.isInf b) = true := by simpa using hi
      rw [this, if_neg (by simp), if_pos rfl]
    rw [this]; exact hm
  · have fa := (Flt.fin_iff a).1 ⟨hna.1, by cases h : Flt.isInf a; rfl; exact absurd (.inl h) hi⟩
    have fb := (Flt.fin_iff b).1 ⟨hna.2, by cases h : Flt.isInf b; rfl; exact absurd (.inr h) hi⟩
    exact fma_nn ha hb hc fa fb fc
theorem fma_inf {a b c : Int} (hm : Flt.isNaN (Flt.mulBy 0 a b) = false) (fc : Flt.mg c < 2139095040) (hi : Flt.isInf a = true ∨ Flt.isInf b = true) :
    Flt.fmaC 0 a b c = Flt.signBit (Flt.sgn a != Flt.sgn b) + 2139095040 ∧ Flt.mg a ≠ 0 := by
  obtain ⟨n1, n2⟩ := (Flt.fin_iff c).2 fc
  have e1 : Flt.fmaC 0 a b c = Flt.mulBy 0 a b := by
    unfold Flt.fmaC
    rw [hm, n1, n2, if_neg (by decide)]
    have : (Flt.isInf a || Flt.isInf b) = true := by simpa using hi
    rw [this, if_neg (by simp), if_pos rfl]
  rw [e1]
  unfold Flt.mulBy at hm ⊢
  by_cases c1 : Flt.isNaN a = true ∨ Flt.isNaN b = true
  · rw [if_pos c1] at hm; exact absurd hm (by decide)
  · rw [if_neg c1] at hm ⊢
    by_cases c2 : (Flt.isInf a = true ∧ b % 2147483648 = 0) ∨ (a % 2147483648 = 0 ∧ Flt.isInf b = true)
    · rw [if_pos c2] at hm; exact absurd hm (by decide)
    · rw [if_neg c2, if_pos hi]
      refine ⟨rfl, fun hz => c2 ?_⟩
      rcases hi with h | h
      · exfalso; have := (Flt.isInf_iff a).1 h; omega
      · exact .inr ⟨by unfold Flt.mg at hz; omega, h⟩
def sY1 (z : Int) : Int := Flt.fmaC 0 z 0xB9500D01 0x3C088889
def sY2 (z : Int) : Int := Flt.fmaC 0 z (sY1 z) 0xBE2AAAAB
theorem cirS_eq (r : Int) : cirS r = Flt.fmaC 0 (Flt.mulBy 0 r (Flt.mulBy 0 r r)) (sY2 (Flt.mulBy 0 r r)) r := by
  unfold cirS rowV sY2 sY1
  simp only [List.foldl]
theorem far_le {p u v q : Nat} (h1 : v ≤ p) (h2 : u + q ≤ v) : q ≤ p - u := by omega
theorem far_cast {p u v q : Nat} (h1 : v ≤ p) (h2 : u + q ≤ v) : -(p : Int) + (u : Int) = -((p - u : Nat) : Int) := by omega
theorem far_neg {p u v q : Nat} (h1 : v ≤ p) (h2 : u + q ≤ v) (hq : 0 < q) : -((p - u : Nat) : Int) < 0 := by omega
theorem abs_sum (p u : Nat) : (-(p : Int) + -(u : Int)).natAbs = p + u := by omega
theorem cirY0 (s c : Int) : cirY s c 0 = s := by unfold cirY; rw [if_neg (by decide), if_neg (by decide), if_neg (by decide)]
theorem cirY1 (s c : Int) : cirY s c 1 = c := by unfold cirY; rw [if_pos rfl]
theorem cirY2 (s c : Int) : cirY s c 2 = Flt.negF s := by unfold cirY; rw [if_neg (by decide), if_pos rfl]
theorem cirY3 (s c : Int) : cirY s c 3 = Flt.negF c := by unfold cirY; rw [if_neg (by decide), if_neg (by decide), if_pos rfl]
theorem z_facts {r : Int} {n m : Nat} (hr : R r) (br : Bd r n) (hm : n + n ≤ m) (hm2 : m ≤ 127) : R (Flt.mulBy 0 r r) ∧ Bd (Flt.mulBy 0 r r) m ∧ Flt.sgn (Flt.mulBy 0 r r) = false := by
  refine ⟨R_mul hr hr, Bd_mul hr hr br br hm hm2, ?_⟩
  rw [mul_sgn hr hr (br.fin (by omega)) (br.fin (by omega))]; cases Flt.sgn r <;> rfl
theorem val_pos {a : Int} (h : Flt.sgn a = false) : Flt.val a = (Flt.A (Flt.mg a) : Int) := by unfold Flt.val; rw [h, if_neg (by decide)]
theorem val_neg' {a : Int} (h : Flt.sgn a = true) : Flt.val a = -(Flt.A (Flt.mg a) : Int) := by unfold Flt.val; rw [h, if_pos rfl]
theorem vC0 : Flt.val 0xB9500D01 = -((2 ^ 113 * 13634817 : Nat) : Int) := by decide +kernel
theorem vC1 : Flt.val 0x3C088889 = ((2 ^ 119 * 8947849 : Nat) : Int) := by decide +kernel
theorem vC2 : Flt.val 0xBE2AAAAB = -((2 ^ 123 * 11184811 : Nat) : Int) := by decide +kernel
theorem sY_nn {z : Int} (hz : R z) (bz : Bd z 90) : R (sY1 z) ∧ Bd (sY1 z) 91 ∧ R (sY2 z) ∧ Flt.isNaN (sY2 z) = false := by
  have r1 : R (sY1 z) := R_fma hz ⟨by omega, by omega⟩ ⟨by omega, by omega⟩
  have b1 : Bd (sY1 z) 91 := Bd_fma hz ⟨by omega, by omega⟩ ⟨by omega, by omega⟩ bz (show Bd 0xB9500D01 0 by unfold Bd; decide) (show Bd 0x3C088889 0 by unfold Bd; decide) (by omega) (by omega) (by omega)
  exact ⟨r1, b1, R_fma hz r1 ⟨by omega, by omega⟩, fma_nn hz r1 ⟨by omega, by omega⟩ (bz.fin (by omega)) (b1.fin (by omega)) (by decide)⟩
/-- Where z is great, the polynomial is below 0. -/
theorem sY2_far {z : Int} (hz : R z) (sz : Flt.sgn z = false) (bz : Bd z 90) (g : ¬ Bd z 60) : Flt.mg (sY2 z) ≠ 0 := by
  have gz : 2 ^ 209 ≤ Flt.A (Flt.mg z) := by
    have := Flt.A_mono (show (60 + 127) * 8388608 ≤ Flt.mg z by unfold Bd at g; omega)
    rw [A_bits] at this; exact this
  obtain ⟨r1, b1, r2, _⟩ := sY_nn hz bz
  have h1 := Rd_fma hz (⟨by omega, by omega⟩ : R 0xB9500D01) (⟨by omega, by omega⟩ : R 0x3C088889) (bz.fin (by omega)) (by decide) (by decide)
  rw [vC0, vC1, val_pos sz] at h1
  obtain ⟨r, h1, h2, h3⟩ := h1
  have hz1 : (2 ^ 209 : Nat) * (2 ^ 113 * 13634817) ≤ Flt.A (Flt.mg z) * (2 ^ 113 * 13634817) := Nat.mul_le_mul_right _ gz
  have hk1 : 2 ^ 119 * 8947849 * 2 ^ 149 + Flt.A 1065353216 * 2 ^ 149 ≤ (2 ^ 209 : Nat) * (2 ^ 113 * 13634817) := by rw [A_one2]; decide
  rw [Int.mul_neg, ← Int.natCast_mul, ← Int.natCast_mul, far_cast hz1 hk1] at h1 h3
  rw [Int.natAbs_neg, Int.natAbs_natCast] at h1
  have hge : 1065353216 ≤ r := RN_ge (Nat.two_pow_pos 149) (by decide) (far_le hz1 hk1) h1
  have hq : 0 < Flt.A 1065353216 * 2 ^ 149 := by rw [A_one2]; exact Nat.mul_pos (Nat.two_pow_pos _) (Nat.two_pow_pos _)
  have hr0 : r ≠ 0 := fun h => by rw [h] at hge; exact absurd hge (by decide)
  have sneg : Flt.sgn (sY1 z) = true := by
    have := h3 hr0
    unfold sY1
    rw [this, decide_eq_true_iff]
    exact far_neg hz1 hk1 hq
  have fz := bz.fin (show 90 ≤ 127 by decide)
  have f1 := b1.fin (show 91 ≤ 127 by decide)
  clear hz1 hk1 h1 h2 h3 hge hq gz
  have k1 := Rd_fma hz r1 (⟨by decide, by decide⟩ : R 0xBE2AAAAB) fz f1 (by decide)
  obtain ⟨r', k1, k2, _⟩ := k1
  rw [vC2, val_pos sz, val_neg' sneg, Int.mul_neg, Int.neg_mul, ← Int.natCast_mul, ← Int.natCast_mul, abs_sum] at k1
  have hge2 : 1 ≤ r' := RN_ge (m := 1) (Nat.two_pow_pos 149) (by decide) (Nat.le_trans (by decide) (Nat.le_add_left _ _)) k1
  unfold sY2
  rw [k2]
  exact fun h => by rw [h] at hge2; exact absurd hge2 (by decide)
theorem S_mul_nn {r : Int} (hr : R r) (br : Bd r 45) : Flt.isNaN (Flt.mulBy 0 (Flt.mulBy 0 r (Flt.mulBy 0 r r)) (sY2 (Flt.mulBy 0 r r))) = false := by
  obtain ⟨rz, bz, sz⟩ := z_facts hr br (show 45 + 45 ≤ 90 by omega) (by omega)
  obtain ⟨r1, b1, r2, n2⟩ := sY_nn rz bz
  generalize hzz : Flt.mulBy 0 r r = z at *
  have rrz := R_mul hr rz
  have nrz : Flt.isNaN (Flt.mulBy 0 r z) = false := Flt.mulBy_fin_nan 0 r z hr.lo rz.lo (br.fin (by omega)) (bz.fin (by omega))
  by_cases g : Bd z 60
  · have b1' : Bd (sY1 z) 61 := Bd_fma rz ⟨by omega, by omega⟩ ⟨by omega, by omega⟩ g (show Bd 0xB9500D01 0 by unfold Bd; decide) (show Bd 0x3C088889 0 by unfold Bd; decide) (by omega) (by omega) (by omega)
    have b2' : Bd (sY2 z) 122 := Bd_fma rz r1 ⟨by omega, by omega⟩ g b1' (show Bd 0xBE2AAAAB 0 by unfold Bd; decide) (by omega) (by omega) (by omega)
    have brz : Bd (Flt.mulBy 0 r z) 105 := Bd_mul hr rz br g (by omega) (by omega)
    exact Flt.mulBy_fin_nan 0 _ _ rrz.lo r2.lo (brz.fin (by omega)) (b2'.fin (by omega))
  · have hy := sY2_far rz sz bz g
    have hzr : Flt.mg (Flt.mulBy 0 r z) ≠ 0 := by
      obtain ⟨q, e, hq⟩ := Flt.mulBy_fin 0 r z hr.lo rz.lo (br.fin (by omega)) (bz.fin (by omega))
      have hle := Flt.RN_le hq
      rw [e, Flt.mg_signed _ _ (by omega)]
      have gz : 2 ^ 209 ≤ Flt.A (Flt.mg z) := by
        have := Flt.A_mono (show (60 + 127) * 8388608 ≤ Flt.mg z by unfold Bd at g; omega)
        rw [A_bits] at this; exact this
      have hr0 : Flt.mg r ≠ 0 := by
        intro h0
        have : Flt.mg z = 0 := by
          obtain ⟨q', e', hq'⟩ := Flt.mulBy_fin 0 r r hr.lo hr.lo (br.fin (by omega)) (br.fin (by omega))
          rw [hzz] at e'
          rw [h0, Flt.A_zero, Nat.zero_mul] at hq'
          have := RN_none (Nat.two_pow_pos 149) hq'
          rw [e', Flt.mg_signed _ _ (by omega)]; exact this
        apply g; unfold Bd; omega
      have hp := A_pos' hr0
      have : 1 ≤ q := RN_ge (m := 1) (Nat.two_pow_pos 149) (by omega) (by
        have := Nat.mul_le_mul (show 1 ≤ Flt.A (Flt.mg r) by omega) gz
        exact Nat.le_trans (by decide) this) hq
      omega
    cases hi : Flt.isInf (Flt.mulBy 0 r z)
    · exact nn_mul rrz r2 ((Flt.fin_iff _).1 ⟨nrz, hi⟩) hzr n2
    · have hm := (Flt.isInf_iff _).1 hi
      unfold Flt.mulBy
      rw [if_neg (by rintro (h | h); (unfold Flt.mulBy at nrz; rw [nrz] at h; cases h); rw [n2] at h; cases h)]
      rw [if_neg (by
        rintro (⟨_, h⟩ | ⟨h, _⟩)
        · apply hy; unfold Flt.mg; omega
        · apply hzr; unfold Flt.mg Flt.mulBy; omega), if_pos (.inl (by unfold Flt.mulBy at hi; exact hi))]
      exact sig_nn2 _
theorem S_nn {r : Int} (hr : R r) (br : Bd r 45) : R (cirS r) ∧ Flt.isNaN (cirS r) = false := by
  obtain ⟨rz, bz, sz⟩ := z_facts hr br (show 45 + 45 ≤ 90 by omega) (by omega)
  obtain ⟨r1, b1, r2, n2⟩ := sY_nn rz bz
  rw [cirS_eq]
  exact ⟨R_fma (R_mul hr rz) r2 hr, fma_nn2 (R_mul hr rz) r2 hr (S_mul_nn hr br) (br.fin (by omega))⟩
theorem S_opp {r s : Int} (hr : R r) (hs : R s) (br : Bd r 45) (h : Opp r s) : Opp (cirS r) (cirS s) := by
  have bs := Bd_of_opp h br
  obtain ⟨rz, bz, sz⟩ := z_facts hr br (show 45 + 45 ≤ 90 by omega) (by omega)
  obtain ⟨r1, b1, r2, n2⟩ := sY_nn rz bz
  have m1 := S_mul_nn hr br
  have m2 := S_mul_nn hs bs
  rw [cirS_eq, cirS_eq]
  rw [square_same hr hs (br.fin (by omega)) h] at m2 ⊢
  generalize Flt.mulBy 0 r r = z at *
  have o := Opp_mul hr hs rz (br.fin (by omega)) (bz.fin (by omega)) h
  have ra := R_mul hr rz
  have rb := R_mul hs rz
  generalize sY2 z = y at *
  generalize Flt.mulBy 0 r z = a at *
  generalize Flt.mulBy 0 s z = b at *
  have hm := o.mg
  have hib : Flt.isInf b = Flt.isInf a := by rw [Bool.eq_iff_iff, Flt.isInf_iff, Flt.isInf_iff, hm]
  by_cases hi : Flt.isInf a = true ∨ Flt.isInf y = true
  · obtain ⟨e1, g1⟩ := fma_inf m1 (br.fin (by omega)) hi
    obtain ⟨e2, g2⟩ := fma_inf m2 (bs.fin (by omega)) (by rw [hib]; exact hi)
    rw [e1, e2]
    refine opp_of ?_ (fun _ => ?_)
    · have t1 := Flt.mg_signed (Flt.sgn b != Flt.sgn y) 2139095040 (by omega)
      have t2 := Flt.mg_signed (Flt.sgn a != Flt.sgn y) 2139095040 (by omega)
      rw [show ((2139095040 : Nat) : Int) = 2139095040 from rfl] at t1 t2
      rw [t1, t2]
    · have t1 := Flt.sgn_signed (Flt.sgn b != Flt.sgn y) 2139095040 (by omega)
      have t2 := Flt.sgn_signed (Flt.sgn a != Flt.sgn y) 2139095040 (by omega)
      rw [show ((2139095040 : Nat) : Int) = 2139095040 from rfl] at t1 t2
      rw [t1, t2, o.sgn g1]
      cases Flt.sgn a <;> cases Flt.sgn y <;> rfl
  · have na : Flt.isNaN a = false := by
      cases hn : Flt.isNaN a
      · rfl
      · have : Flt.mulBy 0 a y = 2143289344 := by unfold Flt.mulBy; rw [if_pos (.inl hn)]
        rw [this] at m1; exact absurd m1 (by decide)
    have fa := (Flt.fin_iff a).1 ⟨na, by cases h : Flt.isInf a; rfl; exact absurd (.inl h) hi⟩
    have fy := (Flt.fin_iff y).1 ⟨n2, by cases h : Flt.isInf y; rfl; exact absurd (.inr h) hi⟩
    exact Opp_fma ra rb r2 hr hs fa fy (br.fin (by omega)) o h
theorem C_same {r s : Int} (hr : R r) (hs : R s) (br : Bd r 45) (h : Opp r s) : cirC s = cirC r := by
  unfold cirC; rw [square_same hr hs (br.fin (by omega)) h]
theorem C_nn {r : Int} (hr : R r) (br : Bd r 45) : R (cirC r) ∧ Flt.isNaN (cirC r) = false := by
  obtain ⟨rz, bz, sz⟩ := z_facts hr br (show 45 + 45 ≤ 90 by omega) (by omega)
  unfold cirC rowV
  simp only [List.foldl]
  generalize Flt.mulBy 0 r r = z at *
  have r1 := R_fma rz (⟨by omega, by omega⟩ : R 0xBAB60B61) (⟨by omega, by omega⟩ : R 0x3D2AAAAB)
  have b1 : Bd (Flt.fmaC 0 z 0xBAB60B61 0x3D2AAAAB) 91 := Bd_fma rz ⟨by omega, by omega⟩ ⟨by omega, by omega⟩ bz (show Bd 0xBAB60B61 0 by unfold Bd; decide) (show Bd 0x3D2AAAAB 0 by unfold Bd; decide) (by omega) (by omega) (by omega)
  have r2 := R_fma rz r1 (⟨by omega, by omega⟩ : R 0xBF000000)
  have n2 := fma_nn rz r1 (⟨by omega, by omega⟩ : R 0xBF000000) (bz.fin (by omega)) (b1.fin (by omega)) (by decide)
  refine ⟨R_fma rz r2 ⟨by omega, by omega⟩, ?_⟩
  by_cases h0 : Flt.mg z = 0
  · have bz0 : Bd z 0 := by unfold Bd; omega
    have c1 : Bd (Flt.fmaC 0 z 0xBAB60B61 0x3D2AAAAB) 1 := Bd_fma rz ⟨by omega, by omega⟩ ⟨by omega, by omega⟩ bz0 (show Bd 0xBAB60B61 0 by unfold Bd; decide) (show Bd 0x3D2AAAAB 0 by unfold Bd; decide) (by omega) (by omega) (by omega)
    have c2 : Bd (Flt.fmaC 0 z (Flt.fmaC 0 z 0xBAB60B61 0x3D2AAAAB) 0xBF000000) 2 := Bd_fma rz r1 ⟨by omega, by omega⟩ bz0 c1 (show Bd 0xBF000000 0 by unfold Bd; decide) (by omega) (by omega) (by omega)
    exact fma_nn rz r2 ⟨by omega, by omega⟩ (bz.fin (by omega)) (c2.fin (by omega)) (by decide)
  · exact fma_nn2 rz r2 ⟨by omega, by omega⟩ (nn_mul rz r2 (bz.fin (by omega)) h0 n2) (by decide)

/-! Held between -1 and 1. -/
theorem held_place {lo hi y : Int} (nl : Flt.isNaN lo = false) (nh : Flt.isNaN hi = false) (ny : Flt.isNaN y = false) : Flt.place (heldV lo hi y) = max (Flt.place lo) (min (Flt.place hi) (Flt.place y)) := by
  obtain ⟨a1, a2, a3, a4⟩ := min_place nh ny
  obtain ⟨b1, b2, b3, b4⟩ := max_place nl a1
  unfold heldV
  omega
theorem place_bits {a b : Int} (ha : R a) (hb : R b) (h : Flt.place a = Flt.place b) (h0 : Flt.place a ≠ 0) : a = b := by
  rw [Flt.place_eq_mg a ha.lo ha.hi] at h h0
  rw [Flt.place_eq_mg b hb.lo hb.hi] at h
  apply bits_eq ha hb
  · (repeat' split at h) <;> omega
  · cases h1 : Flt.sgn a <;> cases h2 : Flt.sgn b <;> simp_all <;> omega
theorem sin_of {y y' : Int} (ry : R y) (ry' : R y') (ny : Flt.isNaN y = false) (ny' : Flt.isNaN y' = false) (h : Flt.place y' = -Flt.place y) :
    heldV 0xBF800000 0x3F800000 y' = Flt.negF (heldV 0xBF800000 0x3F800000 y) ∨ (Flt.absF (heldV 0xBF800000 0x3F800000 y) = 0 ∧ Flt.absF (heldV 0xBF800000 0x3F800000 y') = 0) := by
  have p := held_place (lo := 0xBF800000) (hi := 0x3F800000) (by decide) (by decide) ny
  have p' := held_place (lo := 0xBF800000) (hi := 0x3F800000) (by decide) (by decide) ny'
  have rs := R_held (lo := 0xBF800000) (hi := 0x3F800000) ⟨by omega, by omega⟩ ⟨by omega, by omega⟩ ry
  have rt := R_held (lo := 0xBF800000) (hi := 0x3F800000) ⟨by omega, by omega⟩ ⟨by omega, by omega⟩ ry'
  rw [show Flt.place 0xBF800000 = -1065353216 by decide, show Flt.place 0x3F800000 = 1065353216 by decide] at p p'
  rw [h] at p'
  generalize heldV 0xBF800000 0x3F800000 y = s at *
  generalize heldV 0xBF800000 0x3F800000 y' = t at *
  have hst : Flt.place t = -Flt.place s := by omega
  by_cases h0 : Flt.place t = 0
  · right
    have q1 := Flt.place_eq_mg s rs.lo rs.hi
    have q2 := Flt.place_eq_mg t rt.lo rt.hi
    have e1 : Flt.mg s = 0 := by split at q1 <;> omega
    have e2 : Flt.mg t = 0 := by split at q2 <;> omega
    unfold Flt.mg at e1 e2; unfold Flt.absF
    omega
  · left
    exact place_bits rt (R_neg s) (by rw [place_neg rs]; exact hst) h0
theorem neg_neg {a : Int} (ha : R a) : Flt.negF (Flt.negF a) = a := by
  have := ha.lo; have := ha.hi
  unfold Flt.negF; omega
/-- The sine of an argument turned about. -/
theorem turned_sin {x : Int} (hx : R x) (bx : Bd x 40) : cirV (Flt.negF x) 0 = Flt.negF (cirV x 0) ∨ (Flt.absF (cirV x 0) = 0 ∧ Flt.absF (cirV (Flt.negF x) 0) = 0) := by
  obtain ⟨rk, bk, _, _, _, _, rr, br⟩ := cir_bd hx bx
  obtain ⟨_, _, _, _, _, _, rr', br'⟩ := cir_bd (R_neg x) (Bd_neg bx)
  obtain ⟨ok, or⟩ := cir_opp hx bx
  obtain ⟨n1, n2⟩ := (Flt.fin_iff x).2 (bx.fin (by omega))
  obtain ⟨n3, n4⟩ := (Flt.fin_iff (Flt.negF x)).2 ((Bd_neg bx).fin (by omega))
  obtain ⟨rS, nS⟩ := S_nn rr br
  obtain ⟨rS', nS'⟩ := S_nn rr' br'
  obtain ⟨rC, nC⟩ := C_nn rr br
  have hC := C_same rr rr' br or
  have oS := S_opp rr rr' br or
  have pS := place_opp rS rS' oS
  have hn := toInt_opp bk (by omega) ok
  unfold cirV
  rw [n1, n2, n3, n4, if_neg (by decide), if_neg (by decide), hC, hn]
  generalize Flt.toIntV (cirK x) = n
  generalize cirS (cirR x) = S at *
  generalize cirS (cirR (Flt.negF x)) = S' at *
  generalize cirC (cirR x) = C at *
  rw [Int.add_zero, Int.add_zero, Int.emod_emod_of_dvd n (Int.dvd_refl 4), Int.emod_emod_of_dvd (-n) (Int.dvd_refl 4)]
  rcases (show n % 4 = 0 ∨ n % 4 = 1 ∨ n % 4 = 2 ∨ n % 4 = 3 by omega) with h | h | h | h
  · rw [h, show (-n) % 4 = 0 by omega, cirY0, cirY0]
    exact sin_of rS rS' nS nS' pS
  · rw [h, show (-n) % 4 = 3 by omega, cirY1, cirY3]
    exact sin_of rC (R_neg C) nC (nn_neg nC) (place_neg rC)
  · rw [h, show (-n) % 4 = 2 by omega, cirY2, cirY2]
    exact sin_of (R_neg S) (R_neg S') (nn_neg nS) (nn_neg nS') (by rw [place_neg rS', place_neg rS, pS])
  · rw [h, show (-n) % 4 = 1 by omega, cirY3, cirY1]
    exact sin_of (R_neg C) rC (nn_neg nC) nC (by rw [place_neg rC]; omega)
/-- The cosine of an argument turned about, where the sine of what is left is not nought for odd quarters. -/
theorem turned_cos {x : Int} (hx : R x) (bx : Bd x 40) (hodd : Flt.toIntV (cirK x) % 2 = 1 → Flt.mg (cirS (cirR x)) ≠ 0) : cirV x 1 = cirV (Flt.negF x) 1 := by
  obtain ⟨rk, bk, _, _, _, _, rr, br⟩ := cir_bd hx bx
  obtain ⟨_, _, _, _, _, _, rr', br'⟩ := cir_bd (R_neg x) (Bd_neg bx)
  obtain ⟨ok, or⟩ := cir_opp hx bx
  obtain ⟨n1, n2⟩ := (Flt.fin_iff x).2 (bx.fin (by omega))
  obtain ⟨n3, n4⟩ := (Flt.fin_iff (Flt.negF x)).2 ((Bd_neg bx).fin (by omega))
  obtain ⟨rS, nS⟩ := S_nn rr br
  obtain ⟨rS', nS'⟩ := S_nn rr' br'
  have hC := C_same rr rr' br or
  have oS := S_opp rr rr' br or
  have hn := toInt_opp bk (by omega) ok
  have hS : Flt.mg (cirS (cirR x)) ≠ 0 → cirS (cirR (Flt.negF x)) = Flt.negF (cirS (cirR x)) := fun h0 => by
    apply bits_eq rS' (R_neg _)
    · rw [Flt.mg_neg]; exact oS.mg
    · rw [Flt.sgn_neg _ rS.lo rS.hi]; exact oS.sgn h0
  unfold cirV
  rw [n1, n2, n3, n4, if_neg (by decide), if_neg (by decide), hC, hn]
  generalize Flt.toIntV (cirK x) = n at *
  generalize cirS (cirR x) = S at *
  generalize cirS (cirR (Flt.negF x)) = S' at *
  generalize cirC (cirR x) = C at *
  have q0 : ((0 : Int) + 1) % 4 = 1 := by decide
  have q1 : ((1 : Int) + 1) % 4 = 2 := by decide
  have q2 : ((2 : Int) + 1) % 4 = 3 := by decide
  have q3 : ((3 : Int) + 1) % 4 = 0 := by decide
  rcases (show n % 4 = 0 ∨ n % 4 = 1 ∨ n % 4 = 2 ∨ n % 4 = 3 by omega) with h | h | h | h
  · rw [h, show (-n) % 4 = 0 by omega, q0, cirY1, cirY1]
  · have e := hS (hodd (by omega))
    rw [h, show (-n) % 4 = 3 by omega, q1, q3, cirY2, cirY0, e]
  · rw [h, show (-n) % 4 = 2 by omega, q2, cirY3, cirY3]
  · have e := hS (hodd (by omega))
    rw [h, show (-n) % 4 = 1 by omega, q3, q1, cirY0, cirY2, e, neg_neg rS]
end Go.Proofs.Ytkbniebahledmab
