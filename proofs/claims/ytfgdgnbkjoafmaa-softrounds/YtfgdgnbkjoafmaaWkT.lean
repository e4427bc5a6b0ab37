/-
  Walks of the document's answers to sums, products and quotients.
-/
import Derived.Test.YtfgdgnbkjoafmaaWkS
namespace Go.Proofs.Ytfgdgnbkjoafmaa
open Go.RowKit
set_option linter.unusedVariables false

theorem Num.len_zero {w : World} {v : Value} {N K : Nat} (h : Num w v N K) : ∃ b o n cap, v = .slice (some ⟨b, o, none⟩) n cap ∧ n ≤ K ∧ (n = 0 ↔ N = 0) := by
  obtain ⟨b, o, ds, cap, rfl, h2, h3, h4, h5, h6, h7⟩ := h
  refine ⟨b, o, ds.length, cap, rfl, h3, ?_, ?_⟩
  · intro h
    have e : ds = [] := List.length_eq_zero_iff.1 h
    rw [← h5, e]; rfl
  · intro h
    rcases Nat.eq_zero_or_pos ds.length with h0 | h0
    · exact h0
    · have := Dg.norm_ge ds h6 h0
      have p : 0 < 4294967296 ^ (ds.length - 1) := Nat.pow_pos (by decide)
      omega

theorem mg_cast (a : Int) (h0 : 0 ≤ a) : Flt.absF a = ((Flt.mg a : Nat) : Int) := by unfold Flt.absF Flt.mg; omega

theorem rsigned_any (n : Bool) (m : Int) (h0 : 0 ≤ m) (h1 : m < 2147483648) (w : World) :
    Calls Try.prog 58 #[.bool n, .int .u32 m] w fun e w' => e = .returned (.int .u32 (Flt.signBit n + m)) ∧ w' = w := by
  cases n
  all_goals
    go_enter Try.func58, Try.ntmps58
    go_wp2
    go_ret
    exact ⟨ret_int (by simp [Flt.signBit]; try omega), rfl⟩

set_option maxRecDepth 100000 in
set_option maxHeartbeats 2000000 in
/-- The document's sum, of finite floats. -/
theorem raddBy_fin (way a b : Int) (h0 : 0 ≤ a) (h1 : a < 4294967296) (g0 : 0 ≤ b) (g1 : b < 4294967296) (ha : Flt.mg a < 2139095040) (hb : Flt.mg b < 2139095040) (w : World) :
    Calls Try.prog 13 #[.int .i64 way, .int .u32 a, .int .u32 b] w fun e w' => (∃ r : Int, e = .returned (.int .u32 r) ∧ Flt.SumSpec way (Flt.sgn a) (Flt.sgn b) (Flt.A (Flt.mg a)) (Flt.A (Flt.mg b)) r) ∧ Below w.heap.size w w' := by
  obtain ⟨n1, n2⟩ := (Flt.fin_iff a).2 ha
  obtain ⟨n3, n4⟩ := (Flt.fin_iff b).2 hb
  have ea := mg_cast a h0
  have eb := mg_cast b g0
  obtain ⟨ma, hma⟩ : ∃ ma, Flt.mg a = ma := ⟨_, rfl⟩
  obtain ⟨mb, hmb⟩ : ∃ mb, Flt.mg b = mb := ⟨_, rfl⟩
  rw [hma] at ea ha ⊢
  rw [hmb] at eb hb ⊢
  have i1 : ((ma : Int) == 2139095040) = false := by simp; omega
  have i2 : ((mb : Int) == 2139095040) = false := by simp; omega
  have HMA := hide hma
  have HMB := hide hmb
  clear hma hmb
  by_cases hs : Flt.sgn a = Flt.sgn b
  · have hsb : (Flt.sgn a == Flt.sgn b) = true := by simp [hs]
    have HS := hide hs
    clear hs
    go_enter Try.func13, Try.ntmps13
    go_wp2_with (first | (go_at_call 29; refine (risNone_any _ (by assumption) (by assumption) _).mono ?_; rintro e w' ⟨rfl, rfl⟩) | (go_at_call 31; refine (rabs_any _ (by assumption) (by assumption) _).mono ?_; rintro e w' ⟨rfl, rfl⟩) | (go_at_call 53; refine (rbelow_any _ (by assumption) (by assumption) _).mono ?_; rintro e w' ⟨rfl, rfl⟩))
    refine (amount_any ma (by omega) _).mono ?_
    rintro e x1 ⟨⟨v1, rfl, hv1⟩, hb1⟩
    go_wp2_with (first | (go_at_call 29; refine (risNone_any _ (by assumption) (by assumption) _).mono ?_; rintro e w' ⟨rfl, rfl⟩) | (go_at_call 31; refine (rabs_any _ (by assumption) (by assumption) _).mono ?_; rintro e w' ⟨rfl, rfl⟩) | (go_at_call 53; refine (rbelow_any _ (by assumption) (by assumption) _).mono ?_; rintro e w' ⟨rfl, rfl⟩))
    refine (amount_any mb (by omega) _).mono ?_
    rintro e x2 ⟨⟨v2, rfl, hv2⟩, hb2⟩
    have hv1' := hv1.below hb2
    have hbel2 := bl_tr hb1 hb2
    clear hv1 hb1 hb2
    obtain ⟨k1, o1, n1', c1, rfl, l1, z1⟩ := hv1'.len_zero
    obtain ⟨k2, o2, n2', c2, rfl, l2, z2⟩ := hv2.len_zero
    have Z1 := hide z1
    have Z2 := hide z2
    clear z1 z2
    have HV1 := hide hv1'
    have HV2 := hide hv2
    clear hv1' hv2
    by_cases hz : n1' = 0 ∧ n2' = 0
    · obtain ⟨rfl, rfl⟩ := hz
      go_wp2_with (first | (go_at_call 29; refine (risNone_any _ (by assumption) (by assumption) _).mono ?_; rintro e w' ⟨rfl, rfl⟩) | (go_at_call 31; refine (rabs_any _ (by assumption) (by assumption) _).mono ?_; rintro e w' ⟨rfl, rfl⟩) | (go_at_call 53; refine (rbelow_any _ (by assumption) (by assumption) _).mono ?_; rintro e w' ⟨rfl, rfl⟩))
      go_ret
      refine ⟨⟨a, rfl, ?_⟩, hbel2⟩
      have a0 := (unhide Z1).1 (by simp)
      have b0 := (unhide Z2).1 (by simp)
      refine ⟨fun _ _ => ?_, fun _ h => by omega, fun h => absurd (unhide HS) h, fun h => absurd (unhide HS) h, fun h => absurd (unhide HS) h⟩
      have e0 : ma = 0 := Flt.A_inj (a0.trans Flt.A_zero.symm)
      have := Flt.signed_eq a h0 h1
      rw [unhide HMA, e0] at this
      simpa using this
    · have hpos : 0 < Flt.A ma + Flt.A mb := by
        rcases Nat.eq_zero_or_pos (Flt.A ma + Flt.A mb) with h | h
        · exact absurd ⟨(unhide Z1).2 (by omega), (unhide Z2).2 (by omega)⟩ hz
        · exact h
      have HPOS := hide hpos
      clear hpos
      have hz2 : n1' = 0 → ¬ n2' = 0 := fun h h' => hz ⟨h, h'⟩
      by_cases hz1 : n1' = 0
      · have hzb : ¬ n2' = 0 := hz2 hz1
        have hzi1 : ((n1' : Int) == 0) = true := by simp; omega
        have hzi2 : ((n2' : Int) == 0) = false := by simp; omega
        clear hz hz1 hz2 hzb
        go_wp2_with (first | (go_at_call 29; refine (risNone_any _ (by assumption) (by assumption) _).mono ?_; rintro e w' ⟨rfl, rfl⟩) | (go_at_call 31; refine (rabs_any _ (by assumption) (by assumption) _).mono ?_; rintro e w' ⟨rfl, rfl⟩) | (go_at_call 53; refine (rbelow_any _ (by assumption) (by assumption) _).mono ?_; rintro e w' ⟨rfl, rfl⟩))
        refine (plus_any _ _ _ _ 12 (by omega) _ (unhide HV1) (unhide HV2) (unhide HPOS)).mono ?_
        rintro e x3 ⟨⟨v3, rfl, hv3⟩, hb3⟩
        have hbel3 := bl_tr hbel2 hb3
        go_wp2_with fail
        refine (of_any 1 (by omega) (by omega) _).mono ?_
        rintro e x4 ⟨⟨v4, rfl, hv4⟩, hb4⟩
        have hbel4 := bl_tr hbel3 hb4
        go_wp2_with fail
        refine (rounded_any way (Flt.sgn a) v3 v4 _ 1 13 (by omega) (by decide) _ (hv3.below hb4) (hv4.le (by omega))).mono ?_
        rintro e x5 ⟨⟨r, rfl, hr⟩, hb5⟩
        go_wp2_with fail
        go_ret
        refine ⟨⟨_, rfl, ?_⟩, bl_tr hbel4 hb5⟩
        refine ⟨fun _ h => ?_, fun _ _ => ⟨r, rfl, hr⟩, fun h => absurd (unhide HS) h, fun h => absurd (unhide HS) h, fun h => absurd (unhide HS) h⟩
        have := unhide HPOS; omega
      · have hzi1 : ((n1' : Int) == 0) = false := by simp; omega
        clear hz hz1 hz2
        go_wp2_with (first | (go_at_call 29; refine (risNone_any _ (by assumption) (by assumption) _).mono ?_; rintro e w' ⟨rfl, rfl⟩) | (go_at_call 31; refine (rabs_any _ (by assumption) (by assumption) _).mono ?_; rintro e w' ⟨rfl, rfl⟩) | (go_at_call 53; refine (rbelow_any _ (by assumption) (by assumption) _).mono ?_; rintro e w' ⟨rfl, rfl⟩))
        refine (plus_any _ _ _ _ 12 (by omega) _ (unhide HV1) (unhide HV2) (unhide HPOS)).mono ?_
        rintro e x3 ⟨⟨v3, rfl, hv3⟩, hb3⟩
        have hbel3 := bl_tr hbel2 hb3
        go_wp2_with fail
        refine (of_any 1 (by omega) (by omega) _).mono ?_
        rintro e x4 ⟨⟨v4, rfl, hv4⟩, hb4⟩
        have hbel4 := bl_tr hbel3 hb4
        go_wp2_with fail
        refine (rounded_any way (Flt.sgn a) v3 v4 _ 1 13 (by omega) (by decide) _ (hv3.below hb4) (hv4.le (by omega))).mono ?_
        rintro e x5 ⟨⟨r, rfl, hr⟩, hb5⟩
        go_wp2_with fail
        go_ret
        refine ⟨⟨_, rfl, ?_⟩, bl_tr hbel4 hb5⟩
        refine ⟨fun _ h => ?_, fun _ _ => ⟨r, rfl, hr⟩, fun h => absurd (unhide HS) h, fun h => absurd (unhide HS) h, fun h => absurd (unhide HS) h⟩
        have := unhide HPOS; omega
  · have hsb : (Flt.sgn a == Flt.sgn b) = false := by simp [hs]
    have HS := hide hs
    clear hs
    go_enter Try.func13, Try.ntmps13
    go_wp2_with (first | (go_at_call 29; refine (risNone_any _ (by assumption) (by assumption) _).mono ?_; rintro e w' ⟨rfl, rfl⟩) | (go_at_call 31; refine (rabs_any _ (by assumption) (by assumption) _).mono ?_; rintro e w' ⟨rfl, rfl⟩) | (go_at_call 53; refine (rbelow_any _ (by assumption) (by assumption) _).mono ?_; rintro e w' ⟨rfl, rfl⟩))
    refine (amount_any ma (by omega) _).mono ?_
    rintro e x1 ⟨⟨v1, rfl, hv1⟩, hb1⟩
    go_wp2_with (first | (go_at_call 29; refine (risNone_any _ (by assumption) (by assumption) _).mono ?_; rintro e w' ⟨rfl, rfl⟩) | (go_at_call 31; refine (rabs_any _ (by assumption) (by assumption) _).mono ?_; rintro e w' ⟨rfl, rfl⟩) | (go_at_call 53; refine (rbelow_any _ (by assumption) (by assumption) _).mono ?_; rintro e w' ⟨rfl, rfl⟩))
    refine (amount_any mb (by omega) _).mono ?_
    rintro e x2 ⟨⟨v2, rfl, hv2⟩, hb2⟩
    have hv1' := hv1.below hb2
    have hbel2 := bl_tr hb1 hb2
    clear hv1 hb1 hb2
    have HV1 := hide hv1'
    have HV2 := hide hv2
    clear hv1' hv2
    go_wp2_with (first | (go_at_call 29; refine (risNone_any _ (by assumption) (by assumption) _).mono ?_; rintro e w' ⟨rfl, rfl⟩) | (go_at_call 31; refine (rabs_any _ (by assumption) (by assumption) _).mono ?_; rintro e w' ⟨rfl, rfl⟩) | (go_at_call 53; refine (rbelow_any _ (by assumption) (by assumption) _).mono ?_; rintro e w' ⟨rfl, rfl⟩))
    refine (compare_any _ _ _ _ 12 (by omega) _ (unhide HV1) (unhide HV2)).mono ?_
    rintro e x3 ⟨rfl, hb3⟩
    have hbel3 := bl_tr hbel2 hb3
    rcases Nat.lt_trichotomy (Flt.A ma) (Flt.A mb) with hc | hc | hc
    · have e : cmpN (Flt.A ma) (Flt.A mb) = -1 := by unfold cmpN; rw [if_pos hc]
      rw [e]
      have HC := hide hc
      clear hc e
      go_wp2_with (first | (go_at_call 29; refine (risNone_any _ (by assumption) (by assumption) _).mono ?_; rintro e w' ⟨rfl, rfl⟩) | (go_at_call 31; refine (rabs_any _ (by assumption) (by assumption) _).mono ?_; rintro e w' ⟨rfl, rfl⟩) | (go_at_call 53; refine (rbelow_any _ (by assumption) (by assumption) _).mono ?_; rintro e w' ⟨rfl, rfl⟩))
      refine (minus_any _ _ _ _ 12 (by omega) _ ((unhide HV2).below hb3) ((unhide HV1).below hb3) (unhide HC)).mono ?_
      rintro e x4 ⟨⟨v4, rfl, hv4⟩, hb4⟩
      have hbel4 := bl_tr hbel3 hb4
      go_wp2_with fail
      refine (of_any 1 (by omega) (by omega) _).mono ?_
      rintro e x5 ⟨⟨v5, rfl, hv5⟩, hb5⟩
      have hbel5 := bl_tr hbel4 hb5
      go_wp2_with fail
      refine (rounded_any way (Flt.sgn b) v4 v5 _ 1 12 (by omega) (by decide) _ (hv4.below hb5) (hv5.le (by omega))).mono ?_
      rintro e x6 ⟨⟨r, rfl, hr⟩, hb6⟩
      go_wp2_with fail
      go_ret
      refine ⟨⟨_, rfl, ?_⟩, bl_tr hbel5 hb6⟩
      exact ⟨fun h => absurd h (unhide HS), fun h => absurd h (unhide HS), fun _ h => by have := unhide HC; omega, fun _ h => by have := unhide HC; omega, fun _ _ => ⟨r, rfl, hr⟩⟩
    · have e : cmpN (Flt.A ma) (Flt.A mb) = 0 := by rw [hc]; unfold cmpN; simp
      rw [e]
      have HC := hide hc
      clear hc e
      by_cases hw : way = 2
      · have hw' : (way == 2) = true := by simp [hw]
        have HW := hide hw
        clear hw
        go_wp2_with (first | (go_at_call 29; refine (risNone_any _ (by assumption) (by assumption) _).mono ?_; rintro e w' ⟨rfl, rfl⟩) | (go_at_call 31; refine (rabs_any _ (by assumption) (by assumption) _).mono ?_; rintro e w' ⟨rfl, rfl⟩) | (go_at_call 53; refine (rbelow_any _ (by assumption) (by assumption) _).mono ?_; rintro e w' ⟨rfl, rfl⟩))
        go_ret
        refine ⟨⟨_, rfl, ?_⟩, hbel3⟩
        refine ⟨fun h => absurd h (unhide HS), fun h => absurd h (unhide HS), fun _ _ => ?_, fun _ h => by have := unhide HC; omega, fun _ h => by have := unhide HC; omega⟩
        rw [unhide HW]; rfl
      · have hw' : (way == 2) = false := by simp [hw]
        have HW := hide hw
        clear hw
        go_wp2_with (first | (go_at_call 29; refine (risNone_any _ (by assumption) (by assumption) _).mono ?_; rintro e w' ⟨rfl, rfl⟩) | (go_at_call 31; refine (rabs_any _ (by assumption) (by assumption) _).mono ?_; rintro e w' ⟨rfl, rfl⟩) | (go_at_call 53; refine (rbelow_any _ (by assumption) (by assumption) _).mono ?_; rintro e w' ⟨rfl, rfl⟩))
        go_ret
        refine ⟨⟨_, rfl, ?_⟩, hbel3⟩
        refine ⟨fun h => absurd h (unhide HS), fun h => absurd h (unhide HS), fun _ _ => ?_, fun _ h => by have := unhide HC; omega, fun _ h => by have := unhide HC; omega⟩
        simp [unhide HW, Flt.signBit]
    · have e : cmpN (Flt.A ma) (Flt.A mb) = 1 := by unfold cmpN; rw [if_neg (by omega), if_pos hc]
      rw [e]
      have HC := hide hc
      clear hc e
      go_wp2_with (first | (go_at_call 29; refine (risNone_any _ (by assumption) (by assumption) _).mono ?_; rintro e w' ⟨rfl, rfl⟩) | (go_at_call 31; refine (rabs_any _ (by assumption) (by assumption) _).mono ?_; rintro e w' ⟨rfl, rfl⟩) | (go_at_call 53; refine (rbelow_any _ (by assumption) (by assumption) _).mono ?_; rintro e w' ⟨rfl, rfl⟩))
      refine (minus_any _ _ _ _ 12 (by omega) _ ((unhide HV1).below hb3) ((unhide HV2).below hb3) (unhide HC)).mono ?_
      rintro e x4 ⟨⟨v4, rfl, hv4⟩, hb4⟩
      have hbel4 := bl_tr hbel3 hb4
      go_wp2_with fail
      refine (of_any 1 (by omega) (by omega) _).mono ?_
      rintro e x5 ⟨⟨v5, rfl, hv5⟩, hb5⟩
      have hbel5 := bl_tr hbel4 hb5
      go_wp2_with fail
      refine (rounded_any way (Flt.sgn a) v4 v5 _ 1 12 (by omega) (by decide) _ (hv4.below hb5) (hv5.le (by omega))).mono ?_
      rintro e x6 ⟨⟨r, rfl, hr⟩, hb6⟩
      go_wp2_with fail
      go_ret
      refine ⟨⟨_, rfl, ?_⟩, bl_tr hbel5 hb6⟩
      exact ⟨fun h => absurd h (unhide HS), fun h => absurd h (unhide HS), fun _ h => by have := unhide HC; omega, fun _ _ => ⟨r, rfl, hr⟩, fun _ h => by have := unhide HC; omega⟩

set_option maxRecDepth 100000 in
set_option maxHeartbeats 2000000 in
/-- The document's sum is the code's. -/
theorem raddBy_any (way a b : Int) (h0 : 0 ≤ a) (h1 : a < 4294967296) (g0 : 0 ≤ b) (g1 : b < 4294967296) (w : World) :
    Calls Try.prog 13 #[.int .i64 way, .int .u32 a, .int .u32 b] w fun e w' => e = .returned (.int .u32 (Flt.addBy way a b)) ∧ Below w.heap.size w w' := by
  by_cases hf : Flt.mg a < 2139095040 ∧ Flt.mg b < 2139095040
  · refine (raddBy_fin way a b h0 h1 g0 g1 hf.1 hf.2 w).mono ?_
    rintro e w' ⟨⟨r, rfl, hr⟩, hb⟩
    exact ⟨ret_int (Flt.RN_sum_one hr (Flt.addBy_fin way a b h0 g0 hf.1 hf.2)), hb⟩
  · have hf' : ¬ ((Flt.isNaN a = false ∧ Flt.isInf a = false) ∧ (Flt.isNaN b = false ∧ Flt.isInf b = false)) := by rw [Flt.fin_iff, Flt.fin_iff]; exact hf
    have ia : (Flt.absF a == 2139095040) = Flt.isInf a := by unfold Flt.isInf Flt.absF; rw [Bool.eq_iff_iff]; simp
    have ib : (Flt.absF b == 2139095040) = Flt.isInf b := by unfold Flt.isInf Flt.absF; rw [Bool.eq_iff_iff]; simp
    have hab : Flt.isInf a = true → Flt.isInf b = true → (Flt.absF a == Flt.absF b) = true := by
      intro x y; unfold Flt.isInf at x y; unfold Flt.absF; simp at x y ⊢; omega
    have hab2 : Flt.isInf a = true → Flt.isInf b = false → (Flt.absF a == Flt.absF b) = false := by
      intro x y; unfold Flt.isInf at x y; unfold Flt.absF; simp at x y ⊢; omega
    have hab3 : Flt.isInf a = false → Flt.isInf b = true → (Flt.absF a == Flt.absF b) = false := by
      intro x y; unfold Flt.isInf at x y; unfold Flt.absF; simp at x y ⊢; omega
    have H1 := hide hab
    have H2 := hide hab2
    have H3 := hide hab3
    have HF := hide hf'
    clear hf hf' hab hab2 hab3
    cases n1 : Flt.isNaN a <;> cases n2 : Flt.isNaN b <;> cases n3 : Flt.isInf a <;> cases n4 : Flt.isInf b
    case neg.false.false.false.false => exact absurd ⟨⟨n1, n3⟩, n2, n4⟩ (unhide HF)
    case neg.false.false.false.true =>
      have he := unhide H3 n3 n4
      rw [n3] at ia
      rw [n4] at ib
      go_enter Try.func13, Try.ntmps13
      go_wp2_with (first | (go_at_call 29; refine (risNone_any _ (by assumption) (by assumption) _).mono ?_; rintro e w' ⟨rfl, rfl⟩) | (go_at_call 31; refine (rabs_any _ (by assumption) (by assumption) _).mono ?_; rintro e w' ⟨rfl, rfl⟩) | (go_at_call 53; refine (rbelow_any _ (by assumption) (by assumption) _).mono ?_; rintro e w' ⟨rfl, rfl⟩) | (go_at_call 58; refine (rsigned_any _ _ (by omega) (by omega) _).mono ?_; rintro e w' ⟨rfl, rfl⟩))
      go_ret
      exact ⟨ret_int (by simp [Flt.addBy, n1, n2, n3, n4]), Below.refl _ _⟩
    case neg.false.false.true.false =>
      have he := unhide H2 n3 n4
      rw [n3] at ia
      rw [n4] at ib
      go_enter Try.func13, Try.ntmps13
      go_wp2_with (first | (go_at_call 29; refine (risNone_any _ (by assumption) (by assumption) _).mono ?_; rintro e w' ⟨rfl, rfl⟩) | (go_at_call 31; refine (rabs_any _ (by assumption) (by assumption) _).mono ?_; rintro e w' ⟨rfl, rfl⟩) | (go_at_call 53; refine (rbelow_any _ (by assumption) (by assumption) _).mono ?_; rintro e w' ⟨rfl, rfl⟩) | (go_at_call 58; refine (rsigned_any _ _ (by omega) (by omega) _).mono ?_; rintro e w' ⟨rfl, rfl⟩))
      go_ret
      exact ⟨ret_int (by simp [Flt.addBy, n1, n2, n3, n4]), Below.refl _ _⟩
    case neg.false.false.true.true =>
      have he := unhide H1 n3 n4
      rw [n3] at ia
      rw [n4] at ib
      by_cases e : a = b
      · have e' : (a == b) = true := by simp [e]
        have HE := hide e
        clear e
        go_enter Try.func13, Try.ntmps13
        go_wp2_with (first | (go_at_call 29; refine (risNone_any _ (by assumption) (by assumption) _).mono ?_; rintro e w' ⟨rfl, rfl⟩) | (go_at_call 31; refine (rabs_any _ (by assumption) (by assumption) _).mono ?_; rintro e w' ⟨rfl, rfl⟩) | (go_at_call 53; refine (rbelow_any _ (by assumption) (by assumption) _).mono ?_; rintro e w' ⟨rfl, rfl⟩) | (go_at_call 58; refine (rsigned_any _ _ (by omega) (by omega) _).mono ?_; rintro e w' ⟨rfl, rfl⟩))
        go_ret
        exact ⟨ret_int (by simp [Flt.addBy, n2, n4, unhide HE]), Below.refl _ _⟩
      · have e' : (a == b) = false := by simp [e]
        have HE := hide e
        clear e
        go_enter Try.func13, Try.ntmps13
        go_wp2_with (first | (go_at_call 29; refine (risNone_any _ (by assumption) (by assumption) _).mono ?_; rintro e w' ⟨rfl, rfl⟩) | (go_at_call 31; refine (rabs_any _ (by assumption) (by assumption) _).mono ?_; rintro e w' ⟨rfl, rfl⟩) | (go_at_call 53; refine (rbelow_any _ (by assumption) (by assumption) _).mono ?_; rintro e w' ⟨rfl, rfl⟩) | (go_at_call 58; refine (rsigned_any _ _ (by omega) (by omega) _).mono ?_; rintro e w' ⟨rfl, rfl⟩))
        go_ret
        exact ⟨ret_int (by simp [Flt.addBy, n1, n2, n3, n4, unhide HE]), Below.refl _ _⟩
    all_goals
      go_enter Try.func13, Try.ntmps13
      go_wp2_with (first | (go_at_call 29; refine (risNone_any _ (by assumption) (by assumption) _).mono ?_; rintro e w' ⟨rfl, rfl⟩) | (go_at_call 31; refine (rabs_any _ (by assumption) (by assumption) _).mono ?_; rintro e w' ⟨rfl, rfl⟩) | (go_at_call 53; refine (rbelow_any _ (by assumption) (by assumption) _).mono ?_; rintro e w' ⟨rfl, rfl⟩) | (go_at_call 58; refine (rsigned_any _ _ (by omega) (by omega) _).mono ?_; rintro e w' ⟨rfl, rfl⟩))
      go_ret
      exact ⟨ret_int (by simp [Flt.addBy, n1, n2]), Below.refl _ _⟩

theorem radd_any (a b : Int) (h0 : 0 ≤ a) (h1 : a < 4294967296) (g0 : 0 ≤ b) (g1 : b < 4294967296) (w : World) :
    Calls Try.prog 15 #[.int .u32 a, .int .u32 b] w fun e w' => e = .returned (.int .u32 (Flt.addBy 0 a b)) ∧ Below w.heap.size w w' := by
  go_enter Try.func15, Try.ntmps15
  go_wp2_with fail
  refine (raddBy_any 0 a b h0 h1 g0 g1 _).mono ?_
  rintro e w1 ⟨rfl, hb1⟩
  go_wp2_with fail
  go_ret
  exact ⟨ret_int rfl, hb1⟩

theorem rsub_any (a b : Int) (h0 : 0 ≤ a) (h1 : a < 4294967296) (g0 : 0 ≤ b) (g1 : b < 4294967296) (w : World) :
    Calls Try.prog 17 #[.int .u32 a, .int .u32 b] w fun e w' => e = .returned (.int .u32 (Flt.addBy 0 a (Flt.negF b))) ∧ Below w.heap.size w w' := by
  obtain ⟨n0, n1⟩ := negF_range b
  go_enter Try.func17, Try.ntmps17
  go_wp2_with (go_at_call 33; refine (rneg_any _ g0 g1 _).mono ?_; rintro e w' ⟨rfl, rfl⟩)
  refine (raddBy_any 0 a _ h0 h1 n0 n1 _).mono ?_
  rintro e w1 ⟨rfl, hb1⟩
  go_wp2_with fail
  go_ret
  exact ⟨ret_int rfl, hb1⟩
end Go.Proofs.Ytfgdgnbkjoafmaa
