/-
  What follows of fused products and sums, and of roots: against sums and products; each is its own canonical form. No program is named here.
-/
import Derived.Test.YtkbniebahledmaaFltP
namespace Go.Proofs.Ytkbniebahledmaa
namespace Flt

theorem A_one : A 1065353216 = 2 ^ 149 := by
  have := A_form 126 8388608 (by omega) (by omega)
  rw [show (126 : Nat) * 8388608 + 8388608 = 1065353216 by decide] at this
  rw [this, show (8388608 : Nat) = 2 ^ 23 by decide, ← Nat.pow_add]

theorem fma_good (way a b c : Int) (h0 : 0 ≤ a) (g0 : 0 ≤ b) (k0 : 0 ≤ c) (k1 : c < 4294967296) : Good (fmaC way a b c) := by
  by_cases hx : (isNaN a || isNaN b || isNaN c || isNaN (mulBy 0 a b) || isInf a || isInf b || isInf c) = true
  · rw [fmaC_x way a b c h0 g0 k0 k1 hx]
    unfold fmaX
    split
    · exact good_nan
    · rename_i hn
      split
      · split
        · exact good_nan
        · exact mulBy_good 0 a b h0 g0
      · refine ⟨k0, k1, fun h => ?_⟩
        exfalso
        apply hn
        rw [h]; simp
  · rw [Bool.not_eq_true] at hx
    simp only [Bool.or_eq_false_iff] at hx
    obtain ⟨⟨⟨⟨⟨⟨na, nb⟩, nc⟩, _⟩, ia⟩, ib⟩, ic⟩ := hx
    exact good_sumQ (fmaC_fin way a b c h0 g0 k0 k1 ((fin_iff a).1 ⟨na, ia⟩) ((fin_iff b).1 ⟨nb, ib⟩) ((fin_iff c).1 ⟨nc, ic⟩))

theorem fma_one (way a c : Int) (h0 : 0 ≤ a) (h1 : a < 4294967296) (k0 : 0 ≤ c) (k1 : c < 4294967296) : fmaC way a 1065353216 c = addBy way a c := by
  have nb : isNaN 1065353216 = false := by decide
  have ib : isInf 1065353216 = false := by decide
  have sb : sgn 1065353216 = false := by decide
  have zb : ¬ (1065353216 : Int) % 2147483648 = 0 := by decide
  have sx : (sgn a != false) = sgn a := by cases sgn a <;> rfl
  by_cases hx : (isNaN a || isNaN c || isInf a || isInf c) = true
  · have hx2 : (isNaN a || isNaN 1065353216 || isNaN c || isNaN (mulBy 0 a 1065353216) || isInf a || isInf 1065353216 || isInf c) = true := by
      cases na : isNaN a <;> cases nc : isNaN c <;> cases ia : isInf a <;> cases ic : isInf c <;> simp_all
    rw [fmaC_x way a _ c h0 (by omega) k0 k1 hx2]
    unfold fmaX addBy
    cases na : isNaN a
    · cases ia : isInf a
      · have hfin := (fin_iff a).1 ⟨na, ia⟩
        have hm := mulBy_fin_nan 0 a 1065353216 h0 (by omega) hfin ((fin_iff _).1 ⟨nb, ib⟩)
        cases nc : isNaN c
        · have ic : isInf c = true := by rw [na, nc, ia] at hx; simpa using hx
          simp [nb, ib, hm, ic]
        · simp
      · have hp : mulBy 0 a 1065353216 = signBit (sgn a) + 2139095040 := by
          unfold mulBy
          rw [na, nb, ia, ib, sb, sx]
          simp
        have hpa : signBit (sgn a) + 2139095040 = a := (inf_eq a h0 h1 ia).symm
        rw [hp, hpa, na, nb, ib, sb, sx]
        cases nc : isNaN c
        · cases ic : isInf c
          · simp
          · have ec := inf_eq c k0 k1 ic
            by_cases hs : sgn c = sgn a
            · have : c = a := by rw [ec, hs, hpa]
              simp [this]
            · have : ¬ a = c := fun h => hs (by rw [h])
              have hs2 : (sgn c != sgn a) = true := by simp [hs]
              simp [hs2, this]
        · simp
    · simp
  · rw [Bool.not_eq_true] at hx
    simp only [Bool.or_eq_false_iff] at hx
    obtain ⟨⟨⟨na, nc⟩, ia⟩, ic⟩ := hx
    have ha := (fin_iff a).1 ⟨na, ia⟩
    have hc := (fin_iff c).1 ⟨nc, ic⟩
    have h1 := fmaC_fin way a 1065353216 c h0 (by omega) k0 k1 ha ((fin_iff _).1 ⟨nb, ib⟩) hc
    rw [sb, sx, show mg 1065353216 = 1065353216 by decide, A_one] at h1
    have h2 : SumQ way (sgn a) (sgn c) (A (mg a)) (A (mg c)) 1 (addBy way a c) := addBy_fin way a c h0 k0 ha hc
    have h3 := (SumQ_scale (c := 2 ^ 149) (Nat.two_pow_pos _)).2 h2
    rw [Nat.one_mul] at h3
    exact SumQ_one (Nat.two_pow_pos _) h1 h3

theorem fma_nought (way a b : Int) (h0 : 0 ≤ a) (g0 : 0 ≤ b) : fmaC way a b (signBit (sgn a != sgn b)) = mulBy way a b := by
  have s0 : signBit (sgn a != sgn b) = signBit (sgn a != sgn b) + ((0 : Nat) : Int) := by omega
  have hr := signed_range (sgn a != sgn b) 0 (by omega)
  rw [← s0] at hr
  have hsg : sgn (signBit (sgn a != sgn b)) = (sgn a != sgn b) := by rw [s0]; exact sgn_signed _ 0 (by omega)
  have hmg : mg (signBit (sgn a != sgn b)) = 0 := by rw [s0]; exact mg_signed _ 0 (by omega)
  have nc : isNaN (signBit (sgn a != sgn b)) = false := by rw [isNaN_not, hmg]; omega
  have ic : isInf (signBit (sgn a != sgn b)) = false := by rw [isInf_not, hmg]; omega
  by_cases hx : (isNaN a || isNaN b || isInf a || isInf b) = true
  · unfold fmaC
    rw [nc, ic]
    cases hn : isNaN (mulBy way a b)
    · cases hi : (isInf a || isInf b)
      · exfalso
        have ha : isInf a = false := by cases h : isInf a <;> simp_all
        have hb : isInf b = false := by cases h : isInf b <;> simp_all
        rw [ha, hb] at hx
        have hnn : isNaN a = true ∨ isNaN b = true := by simpa using hx
        have : mulBy way a b = 2143289344 := by unfold mulBy; rw [if_pos hnn]
        rw [this] at hn
        revert hn; decide
      · simp
    · have := (mulBy_good way a b h0 g0).2.2 hn
      simp [this]
  · rw [Bool.not_eq_true] at hx
    simp only [Bool.or_eq_false_iff] at hx
    obtain ⟨⟨⟨na, nb⟩, ia⟩, ib⟩ := hx
    have ha := (fin_iff a).1 ⟨na, ia⟩
    have hb := (fin_iff b).1 ⟨nb, ib⟩
    have h1 := fmaC_fin way a b _ h0 g0 hr.1 hr.2 ha hb (by rw [hmg]; omega)
    rw [hsg, hmg, A_zero, Nat.zero_mul] at h1
    obtain ⟨r, r1, r2⟩ := mulBy_fin way a b h0 g0 ha hb
    obtain ⟨q1, q2, _⟩ := h1
    rcases Nat.eq_zero_or_pos (A (mg a) * A (mg b)) with hz | hz
    · rw [q1 rfl (by omega), r1]
      rw [hz] at r2
      have := RN_one (Nat.two_pow_pos 149) r2 (RN_zero way _ (2 ^ 149) (Nat.two_pow_pos _))
      rw [this]; omega
    · obtain ⟨v, v1, v2⟩ := q2 rfl (by omega)
      rw [v1, r1, RN_one (Nat.two_pow_pos 149) v2 r2]

theorem RT_le {way : Int} {n r : Nat} (h : RT way n r) : r ≤ 2139095040 := by
  obtain ⟨m, ⟨m1, _, _⟩, rfl⟩ := h
  unfold pickRt
  (repeat' split) <;> omega
end Flt
end Go.Proofs.Ytkbniebahledmaa
