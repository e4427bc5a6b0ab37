import Derived.Test.YtkbniebahledmabGreatGC
import Derived.Test.YtkbniebahledmabGreatGA

/-
  Walks of the document's answers to sums, products and quotients.
-/
namespace Go.Proofs.YtkbniebahledmabGreat
open Go.RowKit
set_option linter.unusedVariables false

theorem Num.len_zero {w : World} {v : Value} {N K : Nat} (h : Num w v N K) : ∃ b o n cap, v = .slice (some ⟨b, o, none⟩) n cap ∧ n ≤ K ∧ (n = 0 ↔ N = 0) := by
  obtain ⟨b, o, ds, cap, rfl, h2, h3, h4, h5, h6, h7⟩ := h
  refine ⟨b, o, ds.length, cap, rfl, h3, ?_, ?_⟩
  · intro h
    have e : ds = [] := List.length_eq_zero_iff.1 h
    rw [← h5, e]; rfl
  · intro h
    rcases Nat.eq_zero_or_pos ds.length with h0 | h0
    · exact h0
    · have := Dg.norm_ge ds h6 h0
      have p : 0 < 4294967296 ^ (ds.length - 1) := Nat.pow_pos (by decide)
      omega

theorem mg_cast (a : Int) (h0 : 0 ≤ a) : Flt.absF a = ((Flt.mg a : Nat) : Int) := by unfold Flt.absF Flt.mg; omega

theorem rsigned_any (n : Bool) (m : Int) (h0 : 0 ≤ m) (h1 : m < 2147483648) (w : World) :
    Calls Tryz.prog 119 #[.bool n, .int .u32 m] w fun e w' => e = .returned (.int .u32 (Flt.signBit n + m)) ∧ w' = w := by
  cases n
  all_goals
    go_enter Tryz.func119, Tryz.ntmps119
    go_wp2
    go_ret
    exact ⟨ret_int (by simp [Flt.signBit]; try omega), rfl⟩

set_option maxRecDepth 100000 in
set_option maxHeartbeats 2000000 in
/-- The document's sum, of finite floats. -/
theorem raddBy_fin (way a b : Int) (h0 : 0 ≤ a) (h1 : a < 4294967296) (g0 : 0 ≤ b) (g1 : b < 4294967296) (ha : Flt.mg a < 2139095040) (hb : Flt.mg b < 2139095040) (w : World) :
    Calls Tryz.prog 98 #[.int .i64 way, .int .u32 a, .int .u32 b] w fun e w' => (∃ r : Int, e = .returned (.int .u32 r) ∧ Flt.SumSpec way (Flt.sgn a) (Flt.sgn b) (Flt.A (Flt.mg a)) (Flt.A (Flt.mg b)) r) ∧ Below w.heap.size w w' := by
  obtain ⟨n1, n2⟩ := (Flt.fin_iff a).2 ha
  obtain ⟨n3, n4⟩ := (Flt.fin_iff b).2 hb
  have ea := mg_cast a h0
  have eb := mg_cast b g0
  obtain ⟨ma, hma⟩ : ∃ ma, Flt.mg a = ma := ⟨_, rfl⟩
  obtain ⟨mb, hmb⟩ : ∃ mb, Flt.mg b = mb := ⟨_, rfl⟩
  rw [hma] at ea ha ⊢
  rw [hmb] at eb hb ⊢
  have i1 : ((ma : Int) == 2139095040) = false := by simp; omega
  have i2 : ((mb : Int) == 2139095040) = false := by simp; omega
  have HMA := hide hma
  have HMB := hide hmb
  clear hma hmb
  by_cases hs : Flt.sgn a = Flt.sgn b
  · have hsb : (Flt.sgn a == Flt.sgn b) = true := by simp [hs]
    have HS := hide hs
    clear hs
    go_enter Tryz.func98, Tryz.ntmps98
    go_wp2_with (first | (go_at_call 30; refine (risNone_any _ (by assumption) (by assumption) _).mono ?_; rintro e w' ⟨rfl, rfl⟩) | (go_at_call 68; refine (rabs_any _ (by assumption) (by assumption) _).mono ?_; rintro e w' ⟨rfl, rfl⟩) | (go_at_call 80; refine (rbelow_any _ (by assumption) (by assumption) _).mono ?_; rintro e w' ⟨rfl, rfl⟩))
    refine (amount_any ma (by omega) _).mono ?_
    rintro e x1 ⟨⟨v1, rfl, hv1⟩, hb1⟩
    go_wp2_with (first | (go_at_call 30; refine (risNone_any _ (by assumption) (by assumption) _).mono ?_; rintro e w' ⟨rfl, rfl⟩) | (go_at_call 68; refine (rabs_any _ (by assumption) (by assumption) _).mono ?_; rintro e w' ⟨rfl, rfl⟩) | (go_at_call 80; refine (rbelow_any _ (by assumption) (by assumption) _).mono ?_; rintro e w' ⟨rfl, rfl⟩))
    refine (amount_any mb (by omega) _).mono ?_
    rintro e x2 ⟨⟨v2, rfl, hv2⟩, hb2⟩
    have hv1' := hv1.below hb2
    have hbel2 := bl_tr hb1 hb2
    clear hv1 hb1 hb2
    obtain ⟨k1, o1, n1', c1, rfl, l1, z1⟩ := hv1'.len_zero
    obtain ⟨k2, o2, n2', c2, rfl, l2, z2⟩ := hv2.len_zero
    have Z1 := hide z1
    have Z2 := hide z2
    clear z1 z2
    have HV1 := hide hv1'
    have HV2 := hide hv2
    clear hv1' hv2
    by_cases hz : n1' = 0 ∧ n2' = 0
    · obtain ⟨rfl, rfl⟩ := hz
      go_wp2_with (first | (go_at_call 30; refine (risNone_any _ (by assumption) (by assumption) _).mono ?_; rintro e w' ⟨rfl, rfl⟩) | (go_at_call 68; refine (rabs_any _ (by assumption) (by assumption) _).mono ?_; rintro e w' ⟨rfl, rfl⟩) | (go_at_call 80; refine (rbelow_any _ (by assumption) (by assumption) _).mono ?_; rintro e w' ⟨rfl, rfl⟩))
      go_ret
      refine ⟨⟨a, rfl, ?_⟩, hbel2⟩
      have a0 := (unhide Z1).1 (by simp)
      have b0 := (unhide Z2).1 (by simp)
      refine ⟨fun _ _ => ?_, fun _ h => by omega, fun h => absurd (unhide HS) h, fun h => absurd (unhide HS) h, fun h => absurd (unhide HS) h⟩
      have e0 : ma = 0 := Flt.A_inj (a0.trans Flt.A_zero.symm)
      have := Flt.signed_eq a h0 h1
      rw [unhide HMA, e0] at this
      simpa using this
    · have hpos : 0 < Flt.A ma + Flt.A mb := by
        rcases Nat.eq_zero_or_pos (Flt.A ma + Flt.A mb) with h | h
        · exact absurd ⟨(unhide Z1).2 (by omega), (unhide Z2).2 (by omega)⟩ hz
        · exact h
      have HPOS := hide hpos
      clear hpos
      have hz2 : n1' = 0 → ¬ n2' = 0 := fun h h' => hz ⟨h, h'⟩
      by_cases hz1 : n1' = 0
      · have hzb : ¬ n2' = 0 := hz2 hz1
        have hzi1 : ((n1' : Int) == 0) = true := by simp; omega
        have hzi2 : ((n2' : Int) == 0) = false := by simp; omega
        clear hz hz1 hz2 hzb
        go_wp2_with (first | (go_at_call 30; refine (risNone_any _ (by assumption) (by assumption) _).mono ?_; rintro e w' ⟨rfl, rfl⟩) | (go_at_call 68; refine (rabs_any _ (by assumption) (by assumption) _).mono ?_; rintro e w' ⟨rfl, rfl⟩) | (go_at_call 80; refine (rbelow_any _ (by assumption) (by assumption) _).mono ?_; rintro e w' ⟨rfl, rfl⟩))
        refine (plus_any _ _ _ _ 12 (by omega) _ (unhide HV1) (unhide HV2) (unhide HPOS)).mono ?_
        rintro e x3 ⟨⟨v3, rfl, hv3⟩, hb3⟩
        have hbel3 := bl_tr hbel2 hb3
        go_wp2_with fail
        refine (of_any 1 (by omega) (by omega) _).mono ?_
        rintro e x4 ⟨⟨v4, rfl, hv4⟩, hb4⟩
        have hbel4 := bl_tr hbel3 hb4
        go_wp2_with fail
        refine (rounded_any way (Flt.sgn a) v3 v4 _ 1 13 (by omega) (by decide) _ (hv3.below hb4) (hv4.le (by omega))).mono ?_
        rintro e x5 ⟨⟨r, rfl, hr⟩, hb5⟩
        go_wp2_with fail
        go_ret
        refine ⟨⟨_, rfl, ?_⟩, bl_tr hbel4 hb5⟩
        refine ⟨fun _ h => ?_, fun _ _ => ⟨r, rfl, hr⟩, fun h => absurd (unhide HS) h, fun h => absurd (unhide HS) h, fun h => absurd (unhide HS) h⟩
        have := unhide HPOS; omega
      · have hzi1 : ((n1' : Int) == 0) = false := by simp; omega
        clear hz hz1 hz2
        go_wp2_with (first | (go_at_call 30; refine (risNone_any _ (by assumption) (by assumption) _).mono ?_; rintro e w' ⟨rfl, rfl⟩) | (go_at_call 68; refine (rabs_any _ (by assumption) (by assumption) _).mono ?_; rintro e w' ⟨rfl, rfl⟩) | (go_at_call 80; refine (rbelow_any _ (by assumption) (by assumption) _).mono ?_; rintro e w' ⟨rfl, rfl⟩))
        refine (plus_any _ _ _ _ 12 (by omega) _ (unhide HV1) (unhide HV2) (unhide HPOS)).mono ?_
        rintro e x3 ⟨⟨v3, rfl, hv3⟩, hb3⟩
        have hbel3 := bl_tr hbel2 hb3
        go_wp2_with fail
        refine (of_any 1 (by omega) (by omega) _).mono ?_
        rintro e x4 ⟨⟨v4, rfl, hv4⟩, hb4⟩
        have hbel4 := bl_tr hbel3 hb4
        go_wp2_with fail
        refine (rounded_any way (Flt.sgn a) v3 v4 _ 1 13 (by omega) (by decide) _ (hv3.below hb4) (hv4.le (by omega))).mono ?_
        rintro e x5 ⟨⟨r, rfl, hr⟩, hb5⟩
        go_wp2_with fail
        go_ret
        refine ⟨⟨_, rfl, ?_⟩, bl_tr hbel4 hb5⟩
        refine ⟨fun _ h => ?_, fun _ _ => ⟨r, rfl, hr⟩, fun h => absurd (unhide HS) h, fun h => absurd (unhide HS) h, fun h => absurd (unhide HS) h⟩
        have := unhide HPOS; omega
  · have hsb : (Flt.sgn a == Flt.sgn b) = false := by simp [hs]
    have HS := hide hs
    clear hs
    go_enter Tryz.func98, Tryz.ntmps98
    go_wp2_with (first | (go_at_call 30; refine (risNone_any _ (by assumption) (by assumption) _).mono ?_; rintro e w' ⟨rfl, rfl⟩) | (go_at_call 68; refine (rabs_any _ (by assumption) (by assumption) _).mono ?_; rintro e w' ⟨rfl, rfl⟩) | (go_at_call 80; refine (rbelow_any _ (by assumption) (by assumption) _).mono ?_; rintro e w' ⟨rfl, rfl⟩))
    refine (amount_any ma (by omega) _).mono ?_
    rintro e x1 ⟨⟨v1, rfl, hv1⟩, hb1⟩
    go_wp2_with (first | (go_at_call 30; refine (risNone_any _ (by assumption) (by assumption) _).mono ?_; rintro e w' ⟨rfl, rfl⟩) | (go_at_call 68; refine (rabs_any _ (by assumption) (by assumption) _).mono ?_; rintro e w' ⟨rfl, rfl⟩) | (go_at_call 80; refine (rbelow_any _ (by assumption) (by assumption) _).mono ?_; rintro e w' ⟨rfl, rfl⟩))
    refine (amount_any mb (by omega) _).mono ?_
    rintro e x2 ⟨⟨v2, rfl, hv2⟩, hb2⟩
    have hv1' := hv1.below hb2
    have hbel2 := bl_tr hb1 hb2
    clear hv1 hb1 hb2
    have HV1 := hide hv1'
    have HV2 := hide hv2
    clear hv1' hv2
    go_wp2_with (first | (go_at_call 30; refine (risNone_any _ (by assumption) (by assumption) _).mono ?_; rintro e w' ⟨rfl, rfl⟩) | (go_at_call 68; refine (rabs_any _ (by assumption) (by assumption) _).mono ?_; rintro e w' ⟨rfl, rfl⟩) | (go_at_call 80; refine (rbelow_any _ (by assumption) (by assumption) _).mono ?_; rintro e w' ⟨rfl, rfl⟩))
    refine (compare_any _ _ _ _ 12 (by omega) _ (unhide HV1) (unhide HV2)).mono ?_
    rintro e x3 ⟨rfl, hb3⟩
    have hbel3 := bl_tr hbel2 hb3
    rcases Nat.lt_trichotomy (Flt.A ma) (Flt.A mb) with hc | hc | hc
    · have e : cmpN (Flt.A ma) (Flt.A mb) = -1 := by unfold cmpN; rw [if_pos hc]
      rw [e]
      have HC := hide hc
      clear hc e
      go_wp2_with (first | (go_at_call 30; refine (risNone_any _ (by assumption) (by assumption) _).mono ?_; rintro e w' ⟨rfl, rfl⟩) | (go_at_call 68; refine (rabs_any _ (by assumption) (by assumption) _).mono ?_; rintro e w' ⟨rfl, rfl⟩) | (go_at_call 80; refine (rbelow_any _ (by assumption) (by assumption) _).mono ?_; rintro e w' ⟨rfl, rfl⟩))
      refine (minus_any _ _ _ _ 12 (by omega) _ ((unhide HV2).below hb3) ((unhide HV1).below hb3) (unhide HC)).mono ?_
      rintro e x4 ⟨⟨v4, rfl, hv4⟩, hb4⟩
      have hbel4 := bl_tr hbel3 hb4
      go_wp2_with fail
      refine (of_any 1 (by omega) (by omega) _).mono ?_
      rintro e x5 ⟨⟨v5, rfl, hv5⟩, hb5⟩
      have hbel5 := bl_tr hbel4 hb5
      go_wp2_with fail
      refine (rounded_any way (Flt.sgn b) v4 v5 _ 1 12 (by omega) (by decide) _ (hv4.below hb5) (hv5.le (by omega))).mono ?_
      rintro e x6 ⟨⟨r, rfl, hr⟩, hb6⟩
      go_wp2_with fail
      go_ret
      refine ⟨⟨_, rfl, ?_⟩, bl_tr hbel5 hb6⟩
      exact ⟨fun h => absurd h (unhide HS), fun h => absurd h (unhide HS), fun _ h => by have := unhide HC; omega, fun _ h => by have := unhide HC; omega, fun _ _ => ⟨r, rfl, hr⟩⟩
    · have e : cmpN (Flt.A ma) (Flt.A mb) = 0 := by rw [hc]; unfold cmpN; simp
      rw [e]
      have HC := hide hc
      clear hc e
      by_cases hw : way = 2
      · have hw' : (way == 2) = true := by simp [hw]
        have HW := hide hw
        clear hw
        go_wp2_with (first | (go_at_call 30; refine (risNone_any _ (by assumption) (by assumption) _).mono ?_; rintro e w' ⟨rfl, rfl⟩) | (go_at_call 68; refine (rabs_any _ (by assumption) (by assumption) _).mono ?_; rintro e w' ⟨rfl, rfl⟩) | (go_at_call 80; refine (rbelow_any _ (by assumption) (by assumption) _).mono ?_; rintro e w' ⟨rfl, rfl⟩))
        go_ret
        refine ⟨⟨_, rfl, ?_⟩, hbel3⟩
        refine ⟨fun h => absurd h (unhide HS), fun h => absurd h (unhide HS), fun _ _ => ?_, fun _ h => by have := unhide HC; omega, fun _ h => by have := unhide HC; omega⟩
        rw [unhide HW]; rfl
      · have hw' : (way == 2) = false := by simp [hw]
        have HW := hide hw
        clear hw
        go_wp2_with (first | (go_at_call 30; refine (risNone_any _ (by assumption) (by assumption) _).mono ?_; rintro e w' ⟨rfl, rfl⟩) | (go_at_call 68; refine (rabs_any _ (by assumption) (by assumption) _).mono ?_; rintro e w' ⟨rfl, rfl⟩) | (go_at_call 80; refine (rbelow_any _ (by assumption) (by assumption) _).mono ?_; rintro e w' ⟨rfl, rfl⟩))
        go_ret
        refine ⟨⟨_, rfl, ?_⟩, hbel3⟩
        refine ⟨fun h => absurd h (unhide HS), fun h => absurd h (unhide HS), fun _ _ => ?_, fun _ h => by have := unhide HC; omega, fun _ h => by have := unhide HC; omega⟩
        simp [unhide HW, Flt.signBit]
    · have e : cmpN (Flt.A ma) (Flt.A mb) = 1 := by unfold cmpN; rw [if_neg (by omega), if_pos hc]
      rw [e]
      have HC := hide hc
      clear hc e
      go_wp2_with (first | (go_at_call 30; refine (risNone_any _ (by assumption) (by assumption) _).mono ?_; rintro e w' ⟨rfl, rfl⟩) | (go_at_call 68; refine (rabs_any _ (by assumption) (by assumption) _).mono ?_; rintro e w' ⟨rfl, rfl⟩) | (go_at_call 80; refine (rbelow_any _ (by assumption) (by assumption) _).mono ?_; rintro e w' ⟨rfl, rfl⟩))
      refine (minus_any _ _ _ _ 12 (by omega) _ ((unhide HV1).below hb3) ((unhide HV2).below hb3) (unhide HC)).mono ?_
      rintro e x4 ⟨⟨v4, rfl, hv4⟩, hb4⟩
      have hbel4 := bl_tr hbel3 hb4
      go_wp2_with fail
      refine (of_any 1 (by omega) (by omega) _).mono ?_
      rintro e x5 ⟨⟨v5, rfl, hv5⟩, hb5⟩
      have hbel5 := bl_tr hbel4 hb5
      go_wp2_with fail
      refine (rounded_any way (Flt.sgn a) v4 v5 _ 1 12 (by omega) (by decide) _ (hv4.below hb5) (hv5.le (by omega))).mono ?_
      rintro e x6 ⟨⟨r, rfl, hr⟩, hb6⟩
      go_wp2_with fail
      go_ret
      refine ⟨⟨_, rfl, ?_⟩, bl_tr hbel5 hb6⟩
      exact ⟨fun h => absurd h (unhide HS), fun h => absurd h (unhide HS), fun _ h => by have := unhide HC; omega, fun _ _ => ⟨r, rfl, hr⟩, fun _ h => by have := unhide HC; omega⟩

set_option maxRecDepth 100000 in
set_option maxHeartbeats 2000000 in
/-- The document's sum is the code's. -/
theorem raddBy_any (way a b : Int) (h0 : 0 ≤ a) (h1 : a < 4294967296) (g0 : 0 ≤ b) (g1 : b < 4294967296) (w : World) :
    Calls Tryz.prog 98 #[.int .i64 way, .int .u32 a, .int .u32 b] w fun e w' => e = .returned (.int .u32 (Flt.addBy way a b)) ∧ Below w.heap.size w w' := by
  by_cases hf : Flt.mg a < 2139095040 ∧ Flt.mg b < 2139095040
  · refine (raddBy_fin way a b h0 h1 g0 g1 hf.1 hf.2 w).mono ?_
    rintro e w' ⟨⟨r, rfl, hr⟩, hb⟩
    exact ⟨ret_int (Flt.RN_sum_one hr (Flt.addBy_fin way a b h0 g0 hf.1 hf.2)), hb⟩
  · have hf' : ¬ ((Flt.isNaN a = false ∧ Flt.isInf a = false) ∧ (Flt.isNaN b = false ∧ Flt.isInf b = false)) := by rw [Flt.fin_iff, Flt.fin_iff]; exact hf
    have ia : (Flt.absF a == 2139095040) = Flt.isInf a := by unfold Flt.isInf Flt.absF; rw [Bool.eq_iff_iff]; simp
    have ib : (Flt.absF b == 2139095040) = Flt.isInf b := by unfold Flt.isInf Flt.absF; rw [Bool.eq_iff_iff]; simp
    have hab : Flt.isInf a = true → Flt.isInf b = true → (Flt.absF a == Flt.absF b) = true := by
      intro x y; unfold Flt.isInf at x y; unfold Flt.absF; simp at x y ⊢; omega
    have hab2 : Flt.isInf a = true → Flt.isInf b = false → (Flt.absF a == Flt.absF b) = false := by
      intro x y; unfold Flt.isInf at x y; unfold Flt.absF; simp at x y ⊢; omega
    have hab3 : Flt.isInf a = false → Flt.isInf b = true → (Flt.absF a == Flt.absF b) = false := by
      intro x y; unfold Flt.isInf at x y; unfold Flt.absF; simp at x y ⊢; omega
    have H1 := hide hab
    have H2 := hide hab2
    have H3 := hide hab3
    have HF := hide hf'
    clear hf hf' hab hab2 hab3
    cases n1 : Flt.isNaN a <;> cases n2 : Flt.isNaN b <;> cases n3 : Flt.isInf a <;> cases n4 : Flt.isInf b
    case neg.false.false.false.false => exact absurd ⟨⟨n1, n3⟩, n2, n4⟩ (unhide HF)
    case neg.false.false.false.true =>
      have he := unhide H3 n3 n4
      rw [n3] at ia
      rw [n4] at ib
      go_enter Tryz.func98, Tryz.ntmps98
      go_wp2_with (first | (go_at_call 30; refine (risNone_any _ (by assumption) (by assumption) _).mono ?_; rintro e w' ⟨rfl, rfl⟩) | (go_at_call 68; refine (rabs_any _ (by assumption) (by assumption) _).mono ?_; rintro e w' ⟨rfl, rfl⟩) | (go_at_call 80; refine (rbelow_any _ (by assumption) (by assumption) _).mono ?_; rintro e w' ⟨rfl, rfl⟩) | (go_at_call 119; refine (rsigned_any _ _ (by omega) (by omega) _).mono ?_; rintro e w' ⟨rfl, rfl⟩))
      go_ret
      exact ⟨ret_int (by simp [Flt.addBy, n1, n2, n3, n4]), Below.refl _ _⟩
    case neg.false.false.true.false =>
      have he := unhide H2 n3 n4
      rw [n3] at ia
      rw [n4] at ib
      go_enter Tryz.func98, Tryz.ntmps98
      go_wp2_with (first | (go_at_call 30; refine (risNone_any _ (by assumption) (by assumption) _).mono ?_; rintro e w' ⟨rfl, rfl⟩) | (go_at_call 68; refine (rabs_any _ (by assumption) (by assumption) _).mono ?_; rintro e w' ⟨rfl, rfl⟩) | (go_at_call 80; refine (rbelow_any _ (by assumption) (by assumption) _).mono ?_; rintro e w' ⟨rfl, rfl⟩) | (go_at_call 119; refine (rsigned_any _ _ (by omega) (by omega) _).mono ?_; rintro e w' ⟨rfl, rfl⟩))
      go_ret
      exact ⟨ret_int (by simp [Flt.addBy, n1, n2, n3, n4]), Below.refl _ _⟩
    case neg.false.false.true.true =>
      have he := unhide H1 n3 n4
      rw [n3] at ia
      rw [n4] at ib
      by_cases e : a = b
      · have e' : (a == b) = true := by simp [e]
        have HE := hide e
        clear e
        go_enter Tryz.func98, Tryz.ntmps98
        go_wp2_with (first | (go_at_call 30; refine (risNone_any _ (by assumption) (by assumption) _).mono ?_; rintro e w' ⟨rfl, rfl⟩) | (go_at_call 68; refine (rabs_any _ (by assumption) (by assumption) _).mono ?_; rintro e w' ⟨rfl, rfl⟩) | (go_at_call 80; refine (rbelow_any _ (by assumption) (by assumption) _).mono ?_; rintro e w' ⟨rfl, rfl⟩) | (go_at_call 119; refine (rsigned_any _ _ (by omega) (by omega) _).mono ?_; rintro e w' ⟨rfl, rfl⟩))
        go_ret
        exact ⟨ret_int (by simp [Flt.addBy, n2, n4, unhide HE]), Below.refl _ _⟩
      · have e' : (a == b) = false := by simp [e]
        have HE := hide e
        clear e
        go_enter Tryz.func98, Tryz.ntmps98
        go_wp2_with (first | (go_at_call 30; refine (risNone_any _ (by assumption) (by assumption) _).mono ?_; rintro e w' ⟨rfl, rfl⟩) | (go_at_call 68; refine (rabs_any _ (by assumption) (by assumption) _).mono ?_; rintro e w' ⟨rfl, rfl⟩) | (go_at_call 80; refine (rbelow_any _ (by assumption) (by assumption) _).mono ?_; rintro e w' ⟨rfl, rfl⟩) | (go_at_call 119; refine (rsigned_any _ _ (by omega) (by omega) _).mono ?_; rintro e w' ⟨rfl, rfl⟩))
        go_ret
        exact ⟨ret_int (by simp [Flt.addBy, n1, n2, n3, n4, unhide HE]), Below.refl _ _⟩
    all_goals
      go_enter Tryz.func98, Tryz.ntmps98
      go_wp2_with (first | (go_at_call 30; refine (risNone_any _ (by assumption) (by assumption) _).mono ?_; rintro e w' ⟨rfl, rfl⟩) | (go_at_call 68; refine (rabs_any _ (by assumption) (by assumption) _).mono ?_; rintro e w' ⟨rfl, rfl⟩) | (go_at_call 80; refine (rbelow_any _ (by assumption) (by assumption) _).mono ?_; rintro e w' ⟨rfl, rfl⟩) | (go_at_call 119; refine (rsigned_any _ _ (by omega) (by omega) _).mono ?_; rintro e w' ⟨rfl, rfl⟩))
      go_ret
      exact ⟨ret_int (by simp [Flt.addBy, n1, n2]), Below.refl _ _⟩

theorem radd_any (a b : Int) (h0 : 0 ≤ a) (h1 : a < 4294967296) (g0 : 0 ≤ b) (g1 : b < 4294967296) (w : World) :
    Calls Tryz.prog 72 #[.int .u32 a, .int .u32 b] w fun e w' => e = .returned (.int .u32 (Flt.addBy 0 a b)) ∧ Below w.heap.size w w' := by
  go_enter Tryz.func72, Tryz.ntmps72
  go_wp2_with fail
  refine (raddBy_any 0 a b h0 h1 g0 g1 _).mono ?_
  rintro e w1 ⟨rfl, hb1⟩
  go_wp2_with fail
  go_ret
  exact ⟨ret_int rfl, hb1⟩

theorem rsub_any (a b : Int) (h0 : 0 ≤ a) (h1 : a < 4294967296) (g0 : 0 ≤ b) (g1 : b < 4294967296) (w : World) :
    Calls Tryz.prog 70 #[.int .u32 a, .int .u32 b] w fun e w' => e = .returned (.int .u32 (Flt.addBy 0 a (Flt.negF b))) ∧ Below w.heap.size w w' := by
  obtain ⟨n0, n1⟩ := negF_range b
  go_enter Tryz.func70, Tryz.ntmps70
  go_wp2_with (go_at_call 79; refine (rneg_any _ g0 g1 _).mono ?_; rintro e w' ⟨rfl, rfl⟩)
  refine (raddBy_any 0 a _ h0 h1 n0 n1 _).mono ?_
  rintro e w1 ⟨rfl, hb1⟩
  go_wp2_with fail
  go_ret
  exact ⟨ret_int rfl, hb1⟩
end Go.Proofs.YtkbniebahledmabGreat

/-
  Walks of the document's answers to products and quotients, and to Round.
-/
namespace Go.Proofs.YtkbniebahledmabGreat
open Go.RowKit
set_option linter.unusedVariables false

set_option maxRecDepth 100000 in
set_option maxHeartbeats 2000000 in
theorem rmulBy_fin (way a b : Int) (h0 : 0 ≤ a) (h1 : a < 4294967296) (g0 : 0 ≤ b) (g1 : b < 4294967296) (ha : Flt.mg a < 2139095040) (hb : Flt.mg b < 2139095040) (w : World) :
    Calls Tryz.prog 105 #[.int .i64 way, .int .u32 a, .int .u32 b] w fun e w' => e = .returned (.int .u32 (Flt.mulBy way a b)) ∧ Below w.heap.size w w' := by
  obtain ⟨r, e1, e2⟩ := Flt.mulBy_fin way a b h0 g0 ha hb
  obtain ⟨n1, n2⟩ := (Flt.fin_iff a).2 ha
  obtain ⟨n3, n4⟩ := (Flt.fin_iff b).2 hb
  have ea := mg_cast a h0
  have eb := mg_cast b g0
  rw [e1]
  have HR := hide e2
  clear e1 e2
  obtain ⟨ma, hma⟩ : ∃ ma, Flt.mg a = ma := ⟨_, rfl⟩
  obtain ⟨mb, hmb⟩ : ∃ mb, Flt.mg b = mb := ⟨_, rfl⟩
  rw [hma] at ea ha HR
  rw [hmb] at eb hb HR
  clear hma hmb
  have i1 : ((ma : Int) == 2139095040) = false := by simp; omega
  have i2 : ((mb : Int) == 2139095040) = false := by simp; omega
  go_enter Tryz.func105, Tryz.ntmps105
  go_wp2_with (first | (go_at_call 30; refine (risNone_any _ (by assumption) (by assumption) _).mono ?_; rintro e w' ⟨rfl, rfl⟩) | (go_at_call 68; refine (rabs_any _ (by assumption) (by assumption) _).mono ?_; rintro e w' ⟨rfl, rfl⟩) | (go_at_call 80; refine (rbelow_any _ (by assumption) (by assumption) _).mono ?_; rintro e w' ⟨rfl, rfl⟩) | (go_at_call 119; refine (rsigned_any _ _ (by omega) (by omega) _).mono ?_; rintro e w' ⟨rfl, rfl⟩))
  refine (amount_any ma (by omega) _).mono ?_
  rintro e x1 ⟨⟨v1, rfl, hv1⟩, hb1⟩
  go_wp2_with (first | (go_at_call 30; refine (risNone_any _ (by assumption) (by assumption) _).mono ?_; rintro e w' ⟨rfl, rfl⟩) | (go_at_call 68; refine (rabs_any _ (by assumption) (by assumption) _).mono ?_; rintro e w' ⟨rfl, rfl⟩) | (go_at_call 80; refine (rbelow_any _ (by assumption) (by assumption) _).mono ?_; rintro e w' ⟨rfl, rfl⟩) | (go_at_call 119; refine (rsigned_any _ _ (by omega) (by omega) _).mono ?_; rintro e w' ⟨rfl, rfl⟩))
  refine (amount_any mb (by omega) _).mono ?_
  rintro e x2 ⟨⟨v2, rfl, hv2⟩, hb2⟩
  have hbel2 := bl_tr hb1 hb2
  go_wp2_with fail
  refine (times_any v1 v2 _ _ 12 12 (by omega) (by omega) _ (hv1.below hb2) hv2).mono ?_
  rintro e x3 ⟨⟨v3, rfl, hv3⟩, hb3⟩
  have hbel3 := bl_tr hbel2 hb3
  go_wp2_with fail
  refine (of_any 1 (by omega) (by omega) _).mono ?_
  rintro e x4 ⟨⟨v4, rfl, hv4⟩, hb4⟩
  have hbel4 := bl_tr hbel3 hb4
  go_wp2_with fail
  refine (twice_any v4 _ 2 149 (by omega) (by omega) _ hv4).mono ?_
  rintro e x5 ⟨⟨v5, rfl, hv5⟩, hb5⟩
  have hbel5 := bl_tr hbel4 hb5
  go_wp2_with fail
  refine (rounded_any way (Flt.sgn a != Flt.sgn b) v3 v5 _ (2 ^ 149) 24 (by omega) (Nat.two_pow_pos _) _ (hv3.below (bl_tr hb4 hb5)) ((hv5.cast (by simp)).le (by omega))).mono ?_
  rintro e x6 ⟨⟨r', rfl, hr'⟩, hb6⟩
  go_wp2_with fail
  go_ret
  exact ⟨ret_int (by rw [Flt.RN_one (Nat.two_pow_pos _) (unhide HR) hr']), bl_tr hbel5 hb6⟩

set_option maxRecDepth 100000 in
set_option maxHeartbeats 4000000 in
theorem rmulBy_any (way a b : Int) (h0 : 0 ≤ a) (h1 : a < 4294967296) (g0 : 0 ≤ b) (g1 : b < 4294967296) (w : World) :
    Calls Tryz.prog 105 #[.int .i64 way, .int .u32 a, .int .u32 b] w fun e w' => e = .returned (.int .u32 (Flt.mulBy way a b)) ∧ Below w.heap.size w w' := by
  by_cases hf : Flt.mg a < 2139095040 ∧ Flt.mg b < 2139095040
  · exact rmulBy_fin way a b h0 h1 g0 g1 hf.1 hf.2 w
  · have hf' : ¬ ((Flt.isNaN a = false ∧ Flt.isInf a = false) ∧ (Flt.isNaN b = false ∧ Flt.isInf b = false)) := by rw [Flt.fin_iff, Flt.fin_iff]; exact hf
    unfold Flt.mulBy
    have ia : (Flt.absF a == 2139095040) = Flt.isInf a := by unfold Flt.isInf Flt.absF; rw [Bool.eq_iff_iff]; simp
    have ib : (Flt.absF b == 2139095040) = Flt.isInf b := by unfold Flt.isInf Flt.absF; rw [Bool.eq_iff_iff]; simp
    have za : (Flt.absF a == 0) = decide (a % 2147483648 = 0) := by unfold Flt.absF; rw [Bool.eq_iff_iff]; simp
    have zb : (Flt.absF b == 0) = decide (b % 2147483648 = 0) := by unfold Flt.absF; rw [Bool.eq_iff_iff]; simp
    have HF := hide hf'
    clear hf hf'
    cases n1 : Flt.isNaN a
    · cases n2 : Flt.isNaN b
      · cases n3 : Flt.isInf a
        · cases n4 : Flt.isInf b
          · exact absurd ⟨⟨n1, n3⟩, n2, n4⟩ (unhide HF)
          · have z2 : ¬ b % 2147483648 = 0 := by unfold Flt.isInf at n4; simp at n4; omega
            by_cases z1 : a % 2147483648 = 0
            · rw [if_neg (by simp), if_pos (by simp [z1])]
              rw [show decide (a % 2147483648 = 0) = true by simp [z1]] at za
              rw [n3] at ia; rw [n4] at ib
              clear z1 z2 zb
              go_enter Tryz.func105, Tryz.ntmps105
              go_wp2_with (first | (go_at_call 30; refine (risNone_any _ (by assumption) (by assumption) _).mono ?_; rintro e w' ⟨rfl, rfl⟩) | (go_at_call 68; refine (rabs_any _ (by assumption) (by assumption) _).mono ?_; rintro e w' ⟨rfl, rfl⟩) | (go_at_call 80; refine (rbelow_any _ (by assumption) (by assumption) _).mono ?_; rintro e w' ⟨rfl, rfl⟩) | (go_at_call 119; refine (rsigned_any _ _ (by omega) (by omega) _).mono ?_; rintro e w' ⟨rfl, rfl⟩))
              go_ret
              exact ⟨rfl, Below.refl _ _⟩
            · rw [if_neg (by simp), if_neg (by simp [z1]), if_pos (by simp)]
              rw [show decide (a % 2147483648 = 0) = false by simp [z1]] at za
              rw [show decide (b % 2147483648 = 0) = false by simp [z2]] at zb
              rw [n3] at ia; rw [n4] at ib
              clear z1 z2
              go_enter Tryz.func105, Tryz.ntmps105
              go_wp2_with (first | (go_at_call 30; refine (risNone_any _ (by assumption) (by assumption) _).mono ?_; rintro e w' ⟨rfl, rfl⟩) | (go_at_call 68; refine (rabs_any _ (by assumption) (by assumption) _).mono ?_; rintro e w' ⟨rfl, rfl⟩) | (go_at_call 80; refine (rbelow_any _ (by assumption) (by assumption) _).mono ?_; rintro e w' ⟨rfl, rfl⟩) | (go_at_call 119; refine (rsigned_any _ _ (by omega) (by omega) _).mono ?_; rintro e w' ⟨rfl, rfl⟩))
              go_ret
              exact ⟨ret_int rfl, Below.refl _ _⟩
        · have z1 : ¬ a % 2147483648 = 0 := by unfold Flt.isInf at n3; simp at n3; omega
          rw [show decide (a % 2147483648 = 0) = false by simp [z1]] at za
          rw [n3] at ia
          by_cases z2 : b % 2147483648 = 0
          · rw [if_neg (by simp), if_pos (by simp [z2])]
            rw [show decide (b % 2147483648 = 0) = true by simp [z2]] at zb
            clear z1 z2
            go_enter Tryz.func105, Tryz.ntmps105
            go_wp2_with (first | (go_at_call 30; refine (risNone_any _ (by assumption) (by assumption) _).mono ?_; rintro e w' ⟨rfl, rfl⟩) | (go_at_call 68; refine (rabs_any _ (by assumption) (by assumption) _).mono ?_; rintro e w' ⟨rfl, rfl⟩) | (go_at_call 80; refine (rbelow_any _ (by assumption) (by assumption) _).mono ?_; rintro e w' ⟨rfl, rfl⟩) | (go_at_call 119; refine (rsigned_any _ _ (by omega) (by omega) _).mono ?_; rintro e w' ⟨rfl, rfl⟩))
            go_ret
            exact ⟨rfl, Below.refl _ _⟩
          · rw [if_neg (by simp), if_neg (by simp [z1, z2]), if_pos (by simp)]
            rw [show decide (b % 2147483648 = 0) = false by simp [z2]] at zb
            clear z1 z2
            go_enter Tryz.func105, Tryz.ntmps105
            go_wp2_with (first | (go_at_call 30; refine (risNone_any _ (by assumption) (by assumption) _).mono ?_; rintro e w' ⟨rfl, rfl⟩) | (go_at_call 68; refine (rabs_any _ (by assumption) (by assumption) _).mono ?_; rintro e w' ⟨rfl, rfl⟩) | (go_at_call 80; refine (rbelow_any _ (by assumption) (by assumption) _).mono ?_; rintro e w' ⟨rfl, rfl⟩) | (go_at_call 119; refine (rsigned_any _ _ (by omega) (by omega) _).mono ?_; rintro e w' ⟨rfl, rfl⟩))
            go_ret
            exact ⟨ret_int rfl, Below.refl _ _⟩
      · rw [if_pos (by simp)]
        clear ia ib za zb
        go_enter Tryz.func105, Tryz.ntmps105
        go_wp2_with (first | (go_at_call 30; refine (risNone_any _ (by assumption) (by assumption) _).mono ?_; rintro e w' ⟨rfl, rfl⟩) | (go_at_call 68; refine (rabs_any _ (by assumption) (by assumption) _).mono ?_; rintro e w' ⟨rfl, rfl⟩) | (go_at_call 80; refine (rbelow_any _ (by assumption) (by assumption) _).mono ?_; rintro e w' ⟨rfl, rfl⟩) | (go_at_call 119; refine (rsigned_any _ _ (by omega) (by omega) _).mono ?_; rintro e w' ⟨rfl, rfl⟩))
        go_ret
        exact ⟨rfl, Below.refl _ _⟩
    · rw [if_pos (by simp)]
      clear ia ib za zb
      go_enter Tryz.func105, Tryz.ntmps105
      go_wp2_with (first | (go_at_call 30; refine (risNone_any _ (by assumption) (by assumption) _).mono ?_; rintro e w' ⟨rfl, rfl⟩) | (go_at_call 68; refine (rabs_any _ (by assumption) (by assumption) _).mono ?_; rintro e w' ⟨rfl, rfl⟩) | (go_at_call 80; refine (rbelow_any _ (by assumption) (by assumption) _).mono ?_; rintro e w' ⟨rfl, rfl⟩) | (go_at_call 119; refine (rsigned_any _ _ (by omega) (by omega) _).mono ?_; rintro e w' ⟨rfl, rfl⟩))
      go_ret
      exact ⟨rfl, Below.refl _ _⟩

theorem rmul_any (a b : Int) (h0 : 0 ≤ a) (h1 : a < 4294967296) (g0 : 0 ≤ b) (g1 : b < 4294967296) (w : World) :
    Calls Tryz.prog 75 #[.int .u32 a, .int .u32 b] w fun e w' => e = .returned (.int .u32 (Flt.mulBy 0 a b)) ∧ Below w.heap.size w w' := by
  go_enter Tryz.func75, Tryz.ntmps75
  go_wp2_with fail
  refine (rmulBy_any 0 a b h0 h1 g0 g1 _).mono ?_
  rintro e w1 ⟨rfl, hb1⟩
  go_wp2_with fail
  go_ret
  exact ⟨ret_int rfl, hb1⟩
end Go.Proofs.YtkbniebahledmabGreat

/-
  Walks of the document's answers to quotients, and to Round.
-/
namespace Go.Proofs.YtkbniebahledmabGreat
open Go.RowKit
set_option linter.unusedVariables false

set_option maxRecDepth 100000 in
set_option maxHeartbeats 2000000 in
theorem rdivBy_fin (way a b : Int) (h0 : 0 ≤ a) (h1 : a < 4294967296) (g0 : 0 ≤ b) (g1 : b < 4294967296) (ha : Flt.mg a < 2139095040) (hb : Flt.mg b < 2139095040) (za : Flt.mg a ≠ 0) (zb : Flt.mg b ≠ 0) (w : World) :
    Calls Tryz.prog 99 #[.int .i64 way, .int .u32 a, .int .u32 b] w fun e w' => e = .returned (.int .u32 (Flt.divBy way a b)) ∧ Below w.heap.size w w' := by
  obtain ⟨r, e1, e2⟩ := Flt.divBy_fin way a b h0 g0 ha hb za zb
  obtain ⟨n1, n2⟩ := (Flt.fin_iff a).2 ha
  obtain ⟨n3, n4⟩ := (Flt.fin_iff b).2 hb
  have ea := mg_cast a h0
  have eb := mg_cast b g0
  rw [e1]
  have HR := hide e2
  clear e1 e2
  obtain ⟨ma, hma⟩ : ∃ ma, Flt.mg a = ma := ⟨_, rfl⟩
  obtain ⟨mb, hmb⟩ : ∃ mb, Flt.mg b = mb := ⟨_, rfl⟩
  rw [hma] at ea ha za HR
  rw [hmb] at eb hb zb HR
  clear hma hmb
  have i1 : ((ma : Int) == 2139095040) = false := by simp; omega
  have i2 : ((mb : Int) == 2139095040) = false := by simp; omega
  have z1 : ((ma : Int) == 0) = false := by simp; omega
  have z2 : ((mb : Int) == 0) = false := by simp; omega
  have hAb : 0 < Flt.A mb := by have := Flt.A_strict (show 0 < mb by omega); rw [Flt.A_zero] at this; exact this
  have HAB := hide hAb
  clear hAb
  go_enter Tryz.func99, Tryz.ntmps99
  go_wp2_with (first | (go_at_call 30; refine (risNone_any _ (by assumption) (by assumption) _).mono ?_; rintro e w' ⟨rfl, rfl⟩) | (go_at_call 68; refine (rabs_any _ (by assumption) (by assumption) _).mono ?_; rintro e w' ⟨rfl, rfl⟩) | (go_at_call 80; refine (rbelow_any _ (by assumption) (by assumption) _).mono ?_; rintro e w' ⟨rfl, rfl⟩) | (go_at_call 119; refine (rsigned_any _ _ (by omega) (by omega) _).mono ?_; rintro e w' ⟨rfl, rfl⟩))
  refine (amount_any ma (by omega) _).mono ?_
  rintro e x1 ⟨⟨v1, rfl, hv1⟩, hb1⟩
  go_wp2_with fail
  refine (twice_any v1 _ 12 149 (by omega) (by omega) _ hv1).mono ?_
  rintro e x2 ⟨⟨v2, rfl, hv2⟩, hb2⟩
  have hbel2 := bl_tr hb1 hb2
  go_wp2_with (first | (go_at_call 30; refine (risNone_any _ (by assumption) (by assumption) _).mono ?_; rintro e w' ⟨rfl, rfl⟩) | (go_at_call 68; refine (rabs_any _ (by assumption) (by assumption) _).mono ?_; rintro e w' ⟨rfl, rfl⟩) | (go_at_call 80; refine (rbelow_any _ (by assumption) (by assumption) _).mono ?_; rintro e w' ⟨rfl, rfl⟩) | (go_at_call 119; refine (rsigned_any _ _ (by omega) (by omega) _).mono ?_; rintro e w' ⟨rfl, rfl⟩))
  refine (amount_any mb (by omega) _).mono ?_
  rintro e x3 ⟨⟨v3, rfl, hv3⟩, hb3⟩
  have hbel3 := bl_tr hbel2 hb3
  go_wp2_with fail
  refine (rounded_any way (Flt.sgn a != Flt.sgn b) v2 v3 _ _ 24 (by omega) (unhide HAB) _ ((hv2.below hb3).le (by omega)) (hv3.le (by omega))).mono ?_
  rintro e x4 ⟨⟨r', rfl, hr'⟩, hb4⟩
  go_wp2_with fail
  go_ret
  exact ⟨ret_int (by rw [Flt.RN_one (unhide HAB) (unhide HR) hr']), bl_tr hbel3 hb4⟩

theorem div_special (way a b : Int) (Na Nb Ia Ib Za Zb : Bool) (na : Flt.isNaN a = Na) (nb : Flt.isNaN b = Nb) (ia : Flt.isInf a = Ia) (ib : Flt.isInf b = Ib) (za : decide (a % 2147483648 = 0) = Za) (zb : decide (b % 2147483648 = 0) = Zb)
    (hsp : (Na || Nb || Ia || Ib || Za || Zb) = true) :
    Flt.divBy way a b = if (Na || Nb || (Ia && Ib) || (Za && Zb)) = true then 2143289344 else if (Ia || Zb) = true then Flt.signBit (Flt.sgn a != Flt.sgn b) + 2139095040 else Flt.signBit (Flt.sgn a != Flt.sgn b) := by
  subst na nb ia ib za zb
  unfold Flt.divBy
  cases n1 : Flt.isNaN a <;> cases n2 : Flt.isNaN b <;> cases n3 : Flt.isInf a <;> cases n4 : Flt.isInf b <;> by_cases z1 : a % 2147483648 = 0 <;> by_cases z2 : b % 2147483648 = 0 <;> simp_all

set_option maxRecDepth 100000 in
set_option maxHeartbeats 8000000 in
theorem rdivBy_any (way a b : Int) (h0 : 0 ≤ a) (h1 : a < 4294967296) (g0 : 0 ≤ b) (g1 : b < 4294967296) (w : World) :
    Calls Tryz.prog 99 #[.int .i64 way, .int .u32 a, .int .u32 b] w fun e w' => e = .returned (.int .u32 (Flt.divBy way a b)) ∧ Below w.heap.size w w' := by
  by_cases hf : (Flt.mg a < 2139095040 ∧ Flt.mg a ≠ 0) ∧ (Flt.mg b < 2139095040 ∧ Flt.mg b ≠ 0)
  · exact rdivBy_fin way a b h0 h1 g0 g1 hf.1.1 hf.2.1 hf.1.2 hf.2.2 w
  · have ia : (Flt.absF a == 2139095040) = Flt.isInf a := by unfold Flt.isInf Flt.absF; rw [Bool.eq_iff_iff]; simp
    have ib : (Flt.absF b == 2139095040) = Flt.isInf b := by unfold Flt.isInf Flt.absF; rw [Bool.eq_iff_iff]; simp
    have za : (Flt.absF a == 0) = decide (a % 2147483648 = 0) := by unfold Flt.absF; rw [Bool.eq_iff_iff]; simp
    have zb : (Flt.absF b == 0) = decide (b % 2147483648 = 0) := by unfold Flt.absF; rw [Bool.eq_iff_iff]; simp
    have hsp : (Flt.isNaN a || Flt.isNaN b || Flt.isInf a || Flt.isInf b || decide (a % 2147483648 = 0) || decide (b % 2147483648 = 0)) = true := by
      cases n1 : Flt.isNaN a
      · cases n2 : Flt.isNaN b
        · cases n3 : Flt.isInf a
          · cases n4 : Flt.isInf b
            · have f1 := (Flt.fin_iff a).1 ⟨n1, n3⟩
              have f2 := (Flt.fin_iff b).1 ⟨n2, n4⟩
              unfold Flt.mg at f1 f2 hf
              simp; omega
            · simp
          · simp
        · simp
      · simp
    have D := hide (div_special way a b _ _ _ _ _ _ rfl rfl rfl rfl rfl rfl hsp)
    rw [unhide D]
    clear D hf
    generalize decide (a % 2147483648 = 0) = Za at *
    generalize decide (b % 2147483648 = 0) = Zb at *
    obtain ⟨Na, hNa⟩ : ∃ x, Flt.isNaN a = x := ⟨_, rfl⟩
    obtain ⟨Nb, hNb⟩ : ∃ x, Flt.isNaN b = x := ⟨_, rfl⟩
    obtain ⟨Ia, hIa⟩ : ∃ x, Flt.isInf a = x := ⟨_, rfl⟩
    obtain ⟨Ib, hIb⟩ : ∃ x, Flt.isInf b = x := ⟨_, rfl⟩
    rw [hNa, hNb, hIa, hIb] at hsp ⊢
    rw [hIa] at ia
    rw [hIb] at ib
    clear hIa hIb
    have HSP := hide hsp
    clear hsp
    cases Na
    · cases Nb
      · cases Ia <;> cases Ib <;> cases Za <;> cases Zb
        case false.false.false.false.false.false => exact absurd (unhide HSP) (by simp)
        all_goals clear HSP
        all_goals
          go_enter Tryz.func99, Tryz.ntmps99
          go_wp2_with (first | (go_at_call 30; refine (risNone_any _ (by assumption) (by assumption) _).mono ?_; rintro e w' ⟨rfl, rfl⟩) | (go_at_call 68; refine (rabs_any _ (by assumption) (by assumption) _).mono ?_; rintro e w' ⟨rfl, rfl⟩) | (go_at_call 80; refine (rbelow_any _ (by assumption) (by assumption) _).mono ?_; rintro e w' ⟨rfl, rfl⟩) | (go_at_call 119; refine (rsigned_any _ _ (by omega) (by omega) _).mono ?_; rintro e w' ⟨rfl, rfl⟩))
          go_ret
        all_goals exact ⟨ret_int (by first | rfl | (simp; done)), Below.refl _ _⟩
      · go_enter Tryz.func99, Tryz.ntmps99
        go_wp2_with (first | (go_at_call 30; refine (risNone_any _ (by assumption) (by assumption) _).mono ?_; rintro e w' ⟨rfl, rfl⟩) | (go_at_call 68; refine (rabs_any _ (by assumption) (by assumption) _).mono ?_; rintro e w' ⟨rfl, rfl⟩) | (go_at_call 80; refine (rbelow_any _ (by assumption) (by assumption) _).mono ?_; rintro e w' ⟨rfl, rfl⟩) | (go_at_call 119; refine (rsigned_any _ _ (by omega) (by omega) _).mono ?_; rintro e w' ⟨rfl, rfl⟩))
        go_ret
        exact ⟨ret_int (by first | rfl | (simp; done)), Below.refl _ _⟩
    · go_enter Tryz.func99, Tryz.ntmps99
      go_wp2_with (first | (go_at_call 30; refine (risNone_any _ (by assumption) (by assumption) _).mono ?_; rintro e w' ⟨rfl, rfl⟩) | (go_at_call 68; refine (rabs_any _ (by assumption) (by assumption) _).mono ?_; rintro e w' ⟨rfl, rfl⟩) | (go_at_call 80; refine (rbelow_any _ (by assumption) (by assumption) _).mono ?_; rintro e w' ⟨rfl, rfl⟩) | (go_at_call 119; refine (rsigned_any _ _ (by omega) (by omega) _).mono ?_; rintro e w' ⟨rfl, rfl⟩))
      go_ret
      exact ⟨ret_int (by first | rfl | (simp; done)), Below.refl _ _⟩

theorem rdiv_any (a b : Int) (h0 : 0 ≤ a) (h1 : a < 4294967296) (g0 : 0 ≤ b) (g1 : b < 4294967296) (w : World) :
    Calls Tryz.prog 71 #[.int .u32 a, .int .u32 b] w fun e w' => e = .returned (.int .u32 (Flt.divBy 0 a b)) ∧ Below w.heap.size w w' := by
  go_enter Tryz.func71, Tryz.ntmps71
  go_wp2_with fail
  refine (rdivBy_any 0 a b h0 h1 g0 g1 _).mono ?_
  rintro e w1 ⟨rfl, hb1⟩
  go_wp2_with fail
  go_ret
  exact ⟨ret_int rfl, hb1⟩

end Go.Proofs.YtkbniebahledmabGreat
