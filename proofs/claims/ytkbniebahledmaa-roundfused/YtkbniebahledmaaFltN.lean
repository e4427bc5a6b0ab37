/-
  The fused product and sum of package round is the document's. No program is named here.
-/
import Derived.Test.YtkbniebahledmaaFltM
namespace Go.Proofs.Ytkbniebahledmaa
namespace Flt

theorem RN_self (way : Int) (neg : Bool) (q m : Nat) (hq : 0 < q) (hm : m < 2139095040) : RN way neg (A m * q) q m := by
  refine ⟨m, ⟨by omega, Nat.le_refl _, fun _ => Nat.mul_lt_mul_of_pos_right (A_lt_succ m) hq⟩, ?_⟩
  unfold pick
  rw [if_neg (by omega), if_pos (.inl rfl)]

theorem top_range (s : Nat) (h0 : 1 ≤ s) (h1 : s < 2 ^ 63) : 2 ^ 62 ≤ topS s ∧ topS s < 2 ^ 63 ∧ 1 ≤ bitLen s ∧ bitLen s ≤ 63 := by
  obtain ⟨s1, s2⟩ := bitLen_spec s
  have s3 := s2 (by omega)
  unfold topS
  generalize bitLen s = B at *
  have hB : 1 ≤ B := by
    rcases Nat.eq_zero_or_pos B with h | h
    · rw [h] at s1; simp at s1; omega
    · exact h
  have hB2 : B ≤ 63 := by
    rcases Nat.lt_or_ge 63 B with h | h
    · exfalso
      have : 2 ^ 63 ≤ 2 ^ (B - 1) := Nat.pow_le_pow_right (by decide) (by omega)
      omega
    · exact h
  have p1 : (2 : Nat) ^ (B - 1) * 2 ^ (63 - B) = 2 ^ 62 := by rw [← Nat.pow_add, show B - 1 + (63 - B) = 62 by omega]
  have p2 : (2 : Nat) ^ B * 2 ^ (63 - B) = 2 ^ 63 := by rw [← Nat.pow_add, show B + (63 - B) = 63 by omega]
  have q1 : 2 ^ (B - 1) * 2 ^ (63 - B) ≤ s * 2 ^ (63 - B) := Nat.mul_le_mul_right _ s3
  have q2 : s * 2 ^ (63 - B) < 2 ^ B * 2 ^ (63 - B) := Nat.mul_lt_mul_of_pos_right s1 (Nat.two_pow_pos _)
  rw [p1] at q1
  rw [p2] at q2
  exact ⟨q1, q2, hB, hB2⟩

theorem sumV_spec (way : Int) (xn yn : Bool) (ex xs ey ys K : Nat) (x0 : 2 ^ 62 ≤ xs) (x1 : xs < 2 ^ 63) (y0 : 2 ^ 62 ≤ ys) (y1 : ys < 2 ^ 63)
    (he : 64 ≤ ex) (he1 : ex ≤ 1000) (hf : 64 ≤ ey) (hf1 : ey ≤ 1000) (hK : 149 ≤ K) (hK1 : K ≤ 900) :
    SumQ way xn yn (xs * 2 ^ ex) (ys * 2 ^ ey) (2 ^ (K - 149)) (sumV way xn ((ex : Int) - K) xs yn ((ey : Int) - K) ys) := by
  unfold sumV
  by_cases h : (ex : Int) - K < (ey : Int) - K ∨ ((ex : Int) - K = (ey : Int) - K ∧ xs < ys)
  · rw [if_pos h]
    exact (sumW_spec way yn xn ey ys ex xs K y0 y1 x0 x1 (by omega) (by omega) hf hf1 hK hK1).swap
  · rw [if_neg h]
    exact sumW_spec way xn yn ex xs ey ys K x0 x1 y0 y1 (by omega) (by omega) he he1 hK hK1

theorem top_amount (s e d B c : Nat) (hB : B ≤ 63) (hd : d + 63 = e + c + B) : s * 2 ^ (63 - B) * 2 ^ d = s * 2 ^ e * 2 ^ c := by
  rw [Nat.mul_assoc, Nat.mul_assoc, ← Nat.pow_add, ← Nat.pow_add]; congr 2; omega

theorem mulBy_fin_nan (way a b : Int) (h0 : 0 ≤ a) (g0 : 0 ≤ b) (ha : mg a < 2139095040) (hb : mg b < 2139095040) : isNaN (mulBy way a b) = false := by
  obtain ⟨r, e1, e2⟩ := mulBy_fin way a b h0 g0 ha hb
  have := RN_le e2
  rw [e1, isNaN_not, mg_signed _ _ (by omega)]
  exact this

theorem fmaC_fin (way a b c : Int) (h0 : 0 ≤ a) (g0 : 0 ≤ b) (k0 : 0 ≤ c) (k1 : c < 4294967296) (ha : mg a < 2139095040) (hb : mg b < 2139095040) (hc : mg c < 2139095040) :
    SumQ way (sgn a != sgn b) (sgn c) (A (mg a) * A (mg b)) (A (mg c) * 2 ^ 149) (2 ^ 149) (fmaC way a b c) := by
  obtain ⟨n1, n2⟩ := (fin_iff a).2 ha
  obtain ⟨n3, n4⟩ := (fin_iff b).2 hb
  obtain ⟨n5, n6⟩ := (fin_iff c).2 hc
  have n7 := mulBy_fin_nan way a b h0 g0 ha hb
  obtain ⟨rm, em, hm⟩ := mulBy_fin way a b h0 g0 ha hb
  obtain ⟨ea, sa, a1, a2, a3, a4, a5, a6, a7⟩ := amt a h0 ha
  obtain ⟨eb, sb, b1, b2, b3, b4, b5, b6, b7⟩ := amt b g0 hb
  obtain ⟨ec, sc, c1, c2, c3, c4, c5, c6, c7⟩ := amt c k0 hc
  have esc := signed_eq c k0 k1
  have q149 : 0 < 2 ^ 149 := Nat.two_pow_pos 149
  have hP : sig a * sig b = ((sa * sb : Nat) : Int) := by rw [a2, b2, Int.natCast_mul]
  have hX : A (mg a) * A (mg b) = sa * sb * 2 ^ (ea + eb) := by rw [a6, b6, Nat.pow_add]; ac_rfl
  unfold fmaC
  simp only [n2, n4, n5, n6, n7, Bool.or_false, Bool.and_false, Bool.false_and, Bool.false_eq_true, if_false, hP, c2]
  by_cases hz : sa * sb = 0
  · have hX0 : A (mg a) * A (mg b) = 0 := by rw [hX, hz, Nat.zero_mul]
    rw [hX0]
    by_cases hc0 : sc = 0
    · have hm0 : mg c = 0 := c7.1 hc0
      rw [hm0, A_zero, Nat.zero_mul, hz, hc0]
      by_cases hs : (sgn a != sgn b) = sgn c
      · rw [if_neg (by simp [hs]), if_pos Int.ofNat_zero]
        rw [hm0] at esc
        refine ⟨fun e _ => ?_, fun _ h => by omega, fun e _ => absurd hs e, fun _ h => by omega, fun _ h => by omega⟩
        rw [hs]; omega
      · rw [if_pos ⟨Int.ofNat_zero, Int.ofNat_zero, hs⟩]
        exact ⟨fun e _ => absurd e hs, fun _ h => by omega, fun _ _ => rfl, fun _ h => by omega, fun _ h => by omega⟩
    · have hci : ¬ ((sc : Nat) : Int) = 0 := by omega
      rw [if_neg (fun h => hci h.2.1), hz, if_pos Int.ofNat_zero]
      have hY : 0 < A (mg c) * 2 ^ 149 := Nat.mul_pos (by rw [c6]; exact Nat.mul_pos (by omega) (Nat.two_pow_pos _)) q149
      have hr := RN_self way (sgn c) (2 ^ 149) (mg c) q149 hc
      refine ⟨fun _ h => by omega, fun e _ => ⟨mg c, ?_, ?_⟩, fun _ h => by omega, fun _ h => by omega, fun _ _ => ⟨mg c, esc, ?_⟩⟩
      · rw [e]; exact esc
      · rw [e, Nat.zero_add]; exact hr
      · rw [Nat.sub_zero]; exact hr
  · have hzi : ¬ ((sa * sb : Nat) : Int) = 0 := by omega
    have hX0 : 0 < A (mg a) * A (mg b) := by rw [hX]; exact Nat.mul_pos (by omega) (Nat.two_pow_pos _)
    rw [if_neg (fun h => hzi h.1), if_neg hzi]
    by_cases hc0 : sc = 0
    · have hm0 : mg c = 0 := c7.1 hc0
      rw [hc0, if_pos Int.ofNat_zero, hm0, A_zero, Nat.zero_mul]
      exact ⟨fun _ h => by omega, fun _ _ => ⟨rm, em, hm⟩, fun _ h => by omega, fun _ _ => ⟨rm, em, hm⟩, fun _ h => by omega⟩
    · have hci : ¬ ((sc : Nat) : Int) = 0 := by omega
      rw [if_neg hci, Int.toNat_natCast, Int.toNat_natCast, a1, b1, c1]
      have n63 : (2 : Nat) ^ 63 = 9223372036854775808 := by decide
      have hPl : sa * sb < 16777216 * 16777216 := Nat.mul_lt_mul'' a3 b3
      obtain ⟨p0, p1, p2, p3⟩ := top_range (sa * sb) (by omega) (by omega)
      obtain ⟨r0, r1, r2, r3⟩ := top_range sc (by omega) (by omega)
      rw [← SumQ_scale (c := 2 ^ 202) (Nat.two_pow_pos _)]
      obtain ⟨K, hK⟩ : ∃ K : Nat, K = 500 := ⟨_, rfl⟩
      have e1 : topE ((ea : Int) - 149 + ((eb : Int) - 149)) (sa * sb) = ((ea + eb + 139 + bitLen (sa * sb) : Nat) : Int) - (K : Int) := by unfold topE; omega
      have e2 : topE ((ec : Int) - 149) sc = ((ec + 288 + bitLen sc : Nat) : Int) - (K : Int) := by unfold topE; omega
      have e3 : A (mg a) * A (mg b) * 2 ^ 202 = topS (sa * sb) * 2 ^ (ea + eb + 139 + bitLen (sa * sb)) := by
        rw [hX]; unfold topS; rw [top_amount (sa * sb) (ea + eb) _ (bitLen (sa * sb)) 202 p3 (by omega)]
      have e4 : A (mg c) * 2 ^ 149 * 2 ^ 202 = topS sc * 2 ^ (ec + 288 + bitLen sc) := by
        rw [c6]; unfold topS; rw [top_amount sc (ec + 149) _ (bitLen sc) 202 r3 (by omega), Nat.pow_add 2 ec 149, ← Nat.mul_assoc]
      have e5 : (2 : Nat) ^ 149 * 2 ^ 202 = 2 ^ (K - 149) := by rw [← Nat.pow_add, show 149 + 202 = K - 149 by omega]
      rw [e1, e2, e3, e4, e5]
      exact sumV_spec way _ _ _ _ _ _ K p0 p1 r0 r1 (by omega) (by omega) (by omega) (by omega) (by omega) (by omega)

theorem inf_eq (c : Int) (k0 : 0 ≤ c) (k1 : c < 4294967296) (h : isInf c = true) : c = signBit (sgn c) + 2139095040 := by
  have := signed_eq c k0 k1
  rw [(isInf_iff c).1 h] at this
  exact this

theorem fmaC_x (way a b c : Int) (h0 : 0 ≤ a) (g0 : 0 ≤ b) (k0 : 0 ≤ c) (k1 : c < 4294967296)
    (hx : (isNaN a || isNaN b || isNaN c || isNaN (mulBy 0 a b) || isInf a || isInf b || isInf c) = true) : fmaC way a b c = fmaX a b c := by
  have hnn : isNaN 2143289344 = true := by decide
  by_cases hn : isNaN a = true ∨ isNaN b = true
  · have e : ∀ v, mulBy v a b = 2143289344 := fun v => by unfold mulBy; rw [if_pos hn]
    unfold fmaC fmaX
    rw [e, e, hnn]
    simp
  · have na : isNaN a = false := by cases h : isNaN a <;> simp_all
    have nb : isNaN b = false := by cases h : isNaN b <;> simp_all
    by_cases hz : (isInf a = true ∧ b % 2147483648 = 0) ∨ (a % 2147483648 = 0 ∧ isInf b = true)
    · have e : ∀ v, mulBy v a b = 2143289344 := fun v => by unfold mulBy; rw [if_neg hn, if_pos hz]
      unfold fmaC fmaX
      rw [e, e, hnn]
      simp
    · by_cases hi : isInf a = true ∨ isInf b = true
      · have e : ∀ v, mulBy v a b = signBit (sgn a != sgn b) + 2139095040 := fun v => by unfold mulBy; rw [if_neg hn, if_neg hz, if_pos hi]
        have hp : isNaN (signBit (sgn a != sgn b) + 2139095040) = false := by cases (sgn a != sgn b) <;> decide
        have hi2 : (isInf a || isInf b) = true := by simp [hi]
        have hcx : (isInf c && (c != signBit (sgn a != sgn b) + 2139095040)) = (isInf c && (sgn c != (sgn a != sgn b))) := by
          cases hc : isInf c
          · rfl
          · have ec := inf_eq c k0 k1 hc
            simp only [Bool.true_and]
            generalize (sgn a != sgn b) = n at *
            generalize hsc : sgn c = m at *
            subst ec
            cases m <;> cases n <;> simp [signBit]
        unfold fmaC fmaX
        rw [e, e, hp, na, nb, hi2, Bool.true_and, hcx]
        simp
      · have ia : isInf a = false := by cases h : isInf a <;> simp_all
        have ib : isInf b = false := by cases h : isInf b <;> simp_all
        have e1 := mulBy_fin_nan way a b h0 g0 ((fin_iff a).1 ⟨na, ia⟩) ((fin_iff b).1 ⟨nb, ib⟩)
        have e2 := mulBy_fin_nan 0 a b h0 g0 ((fin_iff a).1 ⟨na, ia⟩) ((fin_iff b).1 ⟨nb, ib⟩)
        rw [e2, na, nb, ia, ib] at hx
        unfold fmaC fmaX
        rw [e1, e2, na, nb, ia, ib]
        cases hc : isNaN c
        · rw [hc] at hx
          have hc2 : isInf c = true := by simpa using hx
          simp [hc2]
        · simp
end Flt
end Go.Proofs.Ytkbniebahledmaa
