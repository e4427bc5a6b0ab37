import Derived.Test.YtkbniebahledmabGreatGD
import Derived.Test.YtkbniebahledmabGreatGA

/-
  Walks of the document's answer to fused products and sums.
-/
namespace Go.Proofs.YtkbniebahledmabGreat
open Go.RowKit
set_option linter.unusedVariables false

set_option maxRecDepth 100000 in
set_option maxHeartbeats 4000000 in
theorem rfmaBy_fin (way a b c : Int) (h0 : 0 ≤ a) (h1 : a < 4294967296) (g0 : 0 ≤ b) (g1 : b < 4294967296) (k0 : 0 ≤ c) (k1 : c < 4294967296) (ha : Flt.mg a < 2139095040) (hb : Flt.mg b < 2139095040) (hc : Flt.mg c < 2139095040) (w : World) :
    Calls Tryz.prog 109 #[.int .i64 way, .int .u32 a, .int .u32 b, .int .u32 c] w fun e w' => (∃ r : Int, e = .returned (.int .u32 r) ∧ Flt.SumQ way (Flt.sgn a != Flt.sgn b) (Flt.sgn c) (Flt.A (Flt.mg a) * Flt.A (Flt.mg b)) (Flt.A (Flt.mg c) * 2 ^ 149) (2 ^ 149) r) ∧ Below w.heap.size w w' := by
  obtain ⟨n1, n2⟩ := (Flt.fin_iff a).2 ha
  obtain ⟨n3, n4⟩ := (Flt.fin_iff b).2 hb
  obtain ⟨n5, n6⟩ := (Flt.fin_iff c).2 hc
  obtain ⟨q0, q1, _⟩ := Flt.mulBy_good 0 a b h0 g0
  have nP : Flt.isNaN (Flt.mulBy 0 a b) = false := by
    obtain ⟨r, e1, e2⟩ := Flt.mulBy_fin 0 a b h0 g0 ha hb
    rw [e1, Flt.isNaN_not, Flt.mg_signed _ r (by have := Flt.RN_le e2; omega)]
    exact Flt.RN_le e2
  have ea := mg_cast a h0
  have eb := mg_cast b g0
  have ec := mg_cast c k0
  obtain ⟨ma, hma⟩ : ∃ ma, Flt.mg a = ma := ⟨_, rfl⟩
  obtain ⟨mb, hmb⟩ : ∃ mb, Flt.mg b = mb := ⟨_, rfl⟩
  obtain ⟨mc, hmc⟩ : ∃ mc, Flt.mg c = mc := ⟨_, rfl⟩
  rw [hma] at ea ha ⊢
  rw [hmb] at eb hb ⊢
  rw [hmc] at ec hc ⊢
  have i1 : ((ma : Int) == 2139095040) = false := by simp; omega
  have i2 : ((mb : Int) == 2139095040) = false := by simp; omega
  have i3 : ((mc : Int) == 2139095040) = false := by simp; omega
  have HMC := hide hmc
  clear hma hmb hmc
  obtain ⟨sg, hsg⟩ : ∃ sg, (Flt.sgn a != Flt.sgn b) = sg := ⟨_, rfl⟩
  have hsg' : (!(Flt.sgn a == Flt.sgn b)) = sg := hsg
  rw [hsg]
  clear hsg
  by_cases hs : sg = Flt.sgn c
  · have hsb : (sg == Flt.sgn c) = true := by simp [hs]
    have HS := hide hs
    clear hs
    go_enter Tryz.func109, Tryz.ntmps109
    go_wp2_with fail
    refine (rmulBy_any 0 a b h0 h1 g0 g1 _).mono ?_
    rintro e x0 ⟨rfl, hb0⟩
    go_wp2_with (first | (go_at_call 30; refine (risNone_any _ (by assumption) (by assumption) _).mono ?_; rintro e w' ⟨rfl, rfl⟩) | (go_at_call 68; refine (rabs_any _ (by assumption) (by assumption) _).mono ?_; rintro e w' ⟨rfl, rfl⟩) | (go_at_call 80; refine (rbelow_any _ (by assumption) (by assumption) _).mono ?_; rintro e w' ⟨rfl, rfl⟩))
    refine (amount_any ma (by omega) _).mono ?_
    rintro e x1 ⟨⟨v1, rfl, hv1⟩, hb1⟩
    have hbel1 := bl_tr hb0 hb1
    go_wp2_with (first | (go_at_call 30; refine (risNone_any _ (by assumption) (by assumption) _).mono ?_; rintro e w' ⟨rfl, rfl⟩) | (go_at_call 68; refine (rabs_any _ (by assumption) (by assumption) _).mono ?_; rintro e w' ⟨rfl, rfl⟩) | (go_at_call 80; refine (rbelow_any _ (by assumption) (by assumption) _).mono ?_; rintro e w' ⟨rfl, rfl⟩))
    refine (amount_any mb (by omega) _).mono ?_
    rintro e x2 ⟨⟨v2, rfl, hv2⟩, hb2⟩
    have hbel2 := bl_tr hbel1 hb2
    go_wp2_with fail
    refine (times_any v1 v2 _ _ 12 12 (by omega) (by omega) _ (hv1.below hb2) hv2).mono ?_
    rintro e x3 ⟨⟨v3, rfl, hv3⟩, hb3⟩
    have hbel3 := bl_tr hbel2 hb3
    go_wp2_with (first | (go_at_call 30; refine (risNone_any _ (by assumption) (by assumption) _).mono ?_; rintro e w' ⟨rfl, rfl⟩) | (go_at_call 68; refine (rabs_any _ (by assumption) (by assumption) _).mono ?_; rintro e w' ⟨rfl, rfl⟩) | (go_at_call 80; refine (rbelow_any _ (by assumption) (by assumption) _).mono ?_; rintro e w' ⟨rfl, rfl⟩))
    refine (amount_any mc (by omega) _).mono ?_
    rintro e x4 ⟨⟨v4, rfl, hv4⟩, hb4⟩
    have hbel4 := bl_tr hbel3 hb4
    go_wp2_with fail
    refine (twice_any v4 _ 12 149 (by omega) (by omega) _ hv4).mono ?_
    rintro e x5 ⟨⟨v5, rfl, hv5⟩, hb5⟩
    have hbel5 := bl_tr hbel4 hb5
    go_wp2_with fail
    refine (of_any 1 (by omega) (by omega) _).mono ?_
    rintro e x6 ⟨⟨v6, rfl, hv6⟩, hb6⟩
    have hbel6 := bl_tr hbel5 hb6
    go_wp2_with fail
    refine (twice_any v6 _ 2 149 (by omega) (by omega) _ hv6).mono ?_
    rintro e x7 ⟨⟨v7, rfl, hv7⟩, hb7⟩
    have hbel7 := bl_tr hbel6 hb7
    have hX := (hv3.below (bl_tr (bl_tr (bl_tr hb4 hb5) hb6) hb7)).le (show 12 + 12 ≤ 24 by omega)
    have hY := (hv5.below (bl_tr hb6 hb7)).le (show 149 / 32 + 12 + 1 ≤ 24 by omega)
    have hU := (hv7.cast (show (1 : Int).toNat * 2 ^ 149 = 2 ^ 149 by simp)).le (show 149 / 32 + 2 + 1 ≤ 24 by omega)
    clear hv1 hv2 hv3 hv4 hv5 hv6 hv7 hb0 hb1 hb2 hb3 hb4 hb5 hb6 hb7 hbel1 hbel2 hbel3 hbel4 hbel5 hbel6
    obtain ⟨b1', o1, n1', c1, rfl, l1, z1⟩ := hX.len_zero
    obtain ⟨b2', o2, n2', c2, rfl, l2, z2⟩ := hY.len_zero
    have Z1 := hide z1
    have Z2 := hide z2
    clear z1 z2
    have HX := hide hX
    have HY := hide hY
    have HU := hide hU
    clear hX hY hU
    by_cases hz : n1' = 0 ∧ n2' = 0
    · obtain ⟨rfl, rfl⟩ := hz
      go_wp2_with (first | (go_at_call 30; refine (risNone_any _ (by assumption) (by assumption) _).mono ?_; rintro e w' ⟨rfl, rfl⟩) | (go_at_call 68; refine (rabs_any _ (by assumption) (by assumption) _).mono ?_; rintro e w' ⟨rfl, rfl⟩) | (go_at_call 80; refine (rbelow_any _ (by assumption) (by assumption) _).mono ?_; rintro e w' ⟨rfl, rfl⟩))
      go_ret
      refine ⟨⟨c, rfl, ?_⟩, hbel7⟩
      have b0 := (unhide Z2).1 (by simp)
      have a0 := (unhide Z1).1 (by simp)
      refine ⟨fun _ _ => ?_, fun _ h => by omega, fun h => absurd (unhide HS) h, fun h => absurd (unhide HS) h, fun h => absurd (unhide HS) h⟩
      have e0 : mc = 0 := by
        rcases Nat.mul_eq_zero.1 b0 with h | h
        · exact Flt.A_inj (h.trans Flt.A_zero.symm)
        · exact absurd h (Nat.ne_of_gt (Nat.two_pow_pos 149))
      have := Flt.signed_eq c k0 k1
      rw [unhide HMC, e0, ← unhide HS] at this
      simpa using this
    · have hpos : 0 < Flt.A ma * Flt.A mb + Flt.A mc * 2 ^ 149 := by
        rcases Nat.eq_zero_or_pos (Flt.A ma * Flt.A mb + Flt.A mc * 2 ^ 149) with h | h
        · exact absurd ⟨(unhide Z1).2 (by omega), (unhide Z2).2 (by omega)⟩ hz
        · exact h
      have HPOS := hide hpos
      clear hpos
      have hz2 : n1' = 0 → ¬ n2' = 0 := fun h h' => hz ⟨h, h'⟩
      by_cases hz1 : n1' = 0
      · have hzb : ¬ n2' = 0 := hz2 hz1
        have hzi1 : ((n1' : Int) == 0) = true := by simp; omega
        have hzi2 : ((n2' : Int) == 0) = false := by simp; omega
        clear hz hz1 hz2 hzb
        go_wp2_with (first | (go_at_call 30; refine (risNone_any _ (by assumption) (by assumption) _).mono ?_; rintro e w' ⟨rfl, rfl⟩) | (go_at_call 68; refine (rabs_any _ (by assumption) (by assumption) _).mono ?_; rintro e w' ⟨rfl, rfl⟩) | (go_at_call 80; refine (rbelow_any _ (by assumption) (by assumption) _).mono ?_; rintro e w' ⟨rfl, rfl⟩))
        refine (plus_any _ _ _ _ 24 (by omega) _ (unhide HX) (unhide HY) (unhide HPOS)).mono ?_
        rintro e x8 ⟨⟨v8, rfl, hv8⟩, hb8⟩
        have hbel8 := bl_tr hbel7 hb8
        go_wp2_with fail
        refine (rounded_any way sg v8 v7 _ (2 ^ 149) 25 (by omega) (Nat.two_pow_pos _) _ (hv8.le (by omega)) (((unhide HU).below hb8).le (by omega))).mono ?_
        rintro e x9 ⟨⟨r, rfl, hr⟩, hb9⟩
        go_wp2_with fail
        go_ret
        refine ⟨⟨_, rfl, ?_⟩, bl_tr hbel8 hb9⟩
        refine ⟨fun _ h => ?_, fun _ _ => ⟨r, rfl, hr⟩, fun h => absurd (unhide HS) h, fun h => absurd (unhide HS) h, fun h => absurd (unhide HS) h⟩
        have := unhide HPOS; omega
      · have hzi1 : ((n1' : Int) == 0) = false := by simp; omega
        clear hz hz1 hz2
        go_wp2_with (first | (go_at_call 30; refine (risNone_any _ (by assumption) (by assumption) _).mono ?_; rintro e w' ⟨rfl, rfl⟩) | (go_at_call 68; refine (rabs_any _ (by assumption) (by assumption) _).mono ?_; rintro e w' ⟨rfl, rfl⟩) | (go_at_call 80; refine (rbelow_any _ (by assumption) (by assumption) _).mono ?_; rintro e w' ⟨rfl, rfl⟩))
        refine (plus_any _ _ _ _ 24 (by omega) _ (unhide HX) (unhide HY) (unhide HPOS)).mono ?_
        rintro e x8 ⟨⟨v8, rfl, hv8⟩, hb8⟩
        have hbel8 := bl_tr hbel7 hb8
        go_wp2_with fail
        refine (rounded_any way sg v8 v7 _ (2 ^ 149) 25 (by omega) (Nat.two_pow_pos _) _ (hv8.le (by omega)) (((unhide HU).below hb8).le (by omega))).mono ?_
        rintro e x9 ⟨⟨r, rfl, hr⟩, hb9⟩
        go_wp2_with fail
        go_ret
        refine ⟨⟨_, rfl, ?_⟩, bl_tr hbel8 hb9⟩
        refine ⟨fun _ h => ?_, fun _ _ => ⟨r, rfl, hr⟩, fun h => absurd (unhide HS) h, fun h => absurd (unhide HS) h, fun h => absurd (unhide HS) h⟩
        have := unhide HPOS; omega
  · have hsb : (sg == Flt.sgn c) = false := by simp [hs]
    have HS := hide hs
    have hnc : (!sg) = Flt.sgn c := by cases sg <;> cases hq : Flt.sgn c <;> simp_all
    have HNC := hide hnc
    clear hs hnc
    go_enter Tryz.func109, Tryz.ntmps109
    go_wp2_with fail
    refine (rmulBy_any 0 a b h0 h1 g0 g1 _).mono ?_
    rintro e x0 ⟨rfl, hb0⟩
    go_wp2_with (first | (go_at_call 30; refine (risNone_any _ (by assumption) (by assumption) _).mono ?_; rintro e w' ⟨rfl, rfl⟩) | (go_at_call 68; refine (rabs_any _ (by assumption) (by assumption) _).mono ?_; rintro e w' ⟨rfl, rfl⟩) | (go_at_call 80; refine (rbelow_any _ (by assumption) (by assumption) _).mono ?_; rintro e w' ⟨rfl, rfl⟩))
    refine (amount_any ma (by omega) _).mono ?_
    rintro e x1 ⟨⟨v1, rfl, hv1⟩, hb1⟩
    have hbel1 := bl_tr hb0 hb1
    go_wp2_with (first | (go_at_call 30; refine (risNone_any _ (by assumption) (by assumption) _).mono ?_; rintro e w' ⟨rfl, rfl⟩) | (go_at_call 68; refine (rabs_any _ (by assumption) (by assumption) _).mono ?_; rintro e w' ⟨rfl, rfl⟩) | (go_at_call 80; refine (rbelow_any _ (by assumption) (by assumption) _).mono ?_; rintro e w' ⟨rfl, rfl⟩))
    refine (amount_any mb (by omega) _).mono ?_
    rintro e x2 ⟨⟨v2, rfl, hv2⟩, hb2⟩
    have hbel2 := bl_tr hbel1 hb2
    go_wp2_with fail
    refine (times_any v1 v2 _ _ 12 12 (by omega) (by omega) _ (hv1.below hb2) hv2).mono ?_
    rintro e x3 ⟨⟨v3, rfl, hv3⟩, hb3⟩
    have hbel3 := bl_tr hbel2 hb3
    go_wp2_with (first | (go_at_call 30; refine (risNone_any _ (by assumption) (by assumption) _).mono ?_; rintro e w' ⟨rfl, rfl⟩) | (go_at_call 68; refine (rabs_any _ (by assumption) (by assumption) _).mono ?_; rintro e w' ⟨rfl, rfl⟩) | (go_at_call 80; refine (rbelow_any _ (by assumption) (by assumption) _).mono ?_; rintro e w' ⟨rfl, rfl⟩))
    refine (amount_any mc (by omega) _).mono ?_
    rintro e x4 ⟨⟨v4, rfl, hv4⟩, hb4⟩
    have hbel4 := bl_tr hbel3 hb4
    go_wp2_with fail
    refine (twice_any v4 _ 12 149 (by omega) (by omega) _ hv4).mono ?_
    rintro e x5 ⟨⟨v5, rfl, hv5⟩, hb5⟩
    have hbel5 := bl_tr hbel4 hb5
    go_wp2_with fail
    refine (of_any 1 (by omega) (by omega) _).mono ?_
    rintro e x6 ⟨⟨v6, rfl, hv6⟩, hb6⟩
    have hbel6 := bl_tr hbel5 hb6
    go_wp2_with fail
    refine (twice_any v6 _ 2 149 (by omega) (by omega) _ hv6).mono ?_
    rintro e x7 ⟨⟨v7, rfl, hv7⟩, hb7⟩
    have hbel7 := bl_tr hbel6 hb7
    have hX := (hv3.below (bl_tr (bl_tr (bl_tr hb4 hb5) hb6) hb7)).le (show 12 + 12 ≤ 24 by omega)
    have hY := (hv5.below (bl_tr hb6 hb7)).le (show 149 / 32 + 12 + 1 ≤ 24 by omega)
    have hU := (hv7.cast (show (1 : Int).toNat * 2 ^ 149 = 2 ^ 149 by simp)).le (show 149 / 32 + 2 + 1 ≤ 24 by omega)
    clear hv1 hv2 hv3 hv4 hv5 hv6 hv7 hb0 hb1 hb2 hb3 hb4 hb5 hb6 hb7 hbel1 hbel2 hbel3 hbel4 hbel5 hbel6
    have HX := hide hX
    have HY := hide hY
    have HU := hide hU
    clear hX hY hU
    go_wp2_with (first | (go_at_call 30; refine (risNone_any _ (by assumption) (by assumption) _).mono ?_; rintro e w' ⟨rfl, rfl⟩) | (go_at_call 68; refine (rabs_any _ (by assumption) (by assumption) _).mono ?_; rintro e w' ⟨rfl, rfl⟩) | (go_at_call 80; refine (rbelow_any _ (by assumption) (by assumption) _).mono ?_; rintro e w' ⟨rfl, rfl⟩))
    refine (compare_any _ _ _ _ 24 (by omega) _ (unhide HX) (unhide HY)).mono ?_
    rintro e x8 ⟨rfl, hb8⟩
    have hbel8 := bl_tr hbel7 hb8
    rcases Nat.lt_trichotomy (Flt.A ma * Flt.A mb) (Flt.A mc * 2 ^ 149) with hc | hc | hc
    · have e : cmpN (Flt.A ma * Flt.A mb) (Flt.A mc * 2 ^ 149) = -1 := by unfold cmpN; rw [if_pos hc]
      rw [e]
      have HC := hide hc
      clear hc e
      go_wp2_with (first | (go_at_call 30; refine (risNone_any _ (by assumption) (by assumption) _).mono ?_; rintro e w' ⟨rfl, rfl⟩) | (go_at_call 68; refine (rabs_any _ (by assumption) (by assumption) _).mono ?_; rintro e w' ⟨rfl, rfl⟩) | (go_at_call 80; refine (rbelow_any _ (by assumption) (by assumption) _).mono ?_; rintro e w' ⟨rfl, rfl⟩))
      refine (minus_any _ _ _ _ 24 (by omega) _ ((unhide HY).below hb8) ((unhide HX).below hb8) (unhide HC)).mono ?_
      rintro e x9 ⟨⟨v9, rfl, hv9⟩, hb9⟩
      have hbel9 := bl_tr hbel8 hb9
      go_wp2_with fail
      refine (rounded_any way (!sg) v9 v7 _ (2 ^ 149) 25 (by omega) (Nat.two_pow_pos _) _ (hv9.le (by omega)) (((unhide HU).below (bl_tr hb8 hb9)).le (by omega))).mono ?_
      rintro e x10 ⟨⟨r, rfl, hr⟩, hb10⟩
      go_wp2_with fail
      go_ret
      refine ⟨⟨_, rfl, ?_⟩, bl_tr hbel9 hb10⟩
      rw [unhide HNC] at hr
      exact ⟨fun h => absurd h (unhide HS), fun h => absurd h (unhide HS), fun _ h => by have := unhide HC; omega, fun _ h => by have := unhide HC; omega, fun _ _ => ⟨r, by rw [unhide HNC], hr⟩⟩
    · have e : cmpN (Flt.A ma * Flt.A mb) (Flt.A mc * 2 ^ 149) = 0 := by rw [hc]; unfold cmpN; simp
      rw [e]
      have HC := hide hc
      clear hc e
      by_cases hw : way = 2
      · have hw' : (way == 2) = true := by simp [hw]
        have HW := hide hw
        clear hw
        go_wp2_with (first | (go_at_call 30; refine (risNone_any _ (by assumption) (by assumption) _).mono ?_; rintro e w' ⟨rfl, rfl⟩) | (go_at_call 68; refine (rabs_any _ (by assumption) (by assumption) _).mono ?_; rintro e w' ⟨rfl, rfl⟩) | (go_at_call 80; refine (rbelow_any _ (by assumption) (by assumption) _).mono ?_; rintro e w' ⟨rfl, rfl⟩))
        go_ret
        refine ⟨⟨_, rfl, ?_⟩, hbel8⟩
        refine ⟨fun h => absurd h (unhide HS), fun h => absurd h (unhide HS), fun _ _ => ?_, fun _ h => by have := unhide HC; omega, fun _ h => by have := unhide HC; omega⟩
        rw [unhide HW]; rfl
      · have hw' : (way == 2) = false := by simp [hw]
        have HW := hide hw
        clear hw
        go_wp2_with (first | (go_at_call 30; refine (risNone_any _ (by assumption) (by assumption) _).mono ?_; rintro e w' ⟨rfl, rfl⟩) | (go_at_call 68; refine (rabs_any _ (by assumption) (by assumption) _).mono ?_; rintro e w' ⟨rfl, rfl⟩) | (go_at_call 80; refine (rbelow_any _ (by assumption) (by assumption) _).mono ?_; rintro e w' ⟨rfl, rfl⟩))
        go_ret
        refine ⟨⟨_, rfl, ?_⟩, hbel8⟩
        refine ⟨fun h => absurd h (unhide HS), fun h => absurd h (unhide HS), fun _ _ => ?_, fun _ h => by have := unhide HC; omega, fun _ h => by have := unhide HC; omega⟩
        simp [unhide HW, Flt.signBit]
    · have e : cmpN (Flt.A ma * Flt.A mb) (Flt.A mc * 2 ^ 149) = 1 := by unfold cmpN; rw [if_neg (by omega), if_pos hc]
      rw [e]
      have HC := hide hc
      clear hc e
      go_wp2_with (first | (go_at_call 30; refine (risNone_any _ (by assumption) (by assumption) _).mono ?_; rintro e w' ⟨rfl, rfl⟩) | (go_at_call 68; refine (rabs_any _ (by assumption) (by assumption) _).mono ?_; rintro e w' ⟨rfl, rfl⟩) | (go_at_call 80; refine (rbelow_any _ (by assumption) (by assumption) _).mono ?_; rintro e w' ⟨rfl, rfl⟩))
      refine (minus_any _ _ _ _ 24 (by omega) _ ((unhide HX).below hb8) ((unhide HY).below hb8) (unhide HC)).mono ?_
      rintro e x9 ⟨⟨v9, rfl, hv9⟩, hb9⟩
      have hbel9 := bl_tr hbel8 hb9
      go_wp2_with fail
      refine (rounded_any way sg v9 v7 _ (2 ^ 149) 25 (by omega) (Nat.two_pow_pos _) _ (hv9.le (by omega)) (((unhide HU).below (bl_tr hb8 hb9)).le (by omega))).mono ?_
      rintro e x10 ⟨⟨r, rfl, hr⟩, hb10⟩
      go_wp2_with fail
      go_ret
      refine ⟨⟨_, rfl, ?_⟩, bl_tr hbel9 hb10⟩
      exact ⟨fun h => absurd h (unhide HS), fun h => absurd h (unhide HS), fun _ h => by have := unhide HC; omega, fun _ _ => ⟨r, rfl, hr⟩, fun _ h => by have := unhide HC; omega⟩
end Go.Proofs.YtkbniebahledmabGreat

/-
  Walks of the document's answers to whole numbers, powers of two and roots.
-/
namespace Go.Proofs.YtkbniebahledmabGreat
open Go.RowKit
set_option linter.unusedVariables false

set_option maxRecDepth 100000 in
set_option maxHeartbeats 1000000 in
theorem rfromInt_pos (way n : Int) (h0 : 0 < n) (h1 : n < 9223372036854775808) (w : World) :
    Calls Tryz.prog 110 #[.int .i64 way, .int .i64 n] w fun e w' => (∃ r : Nat, e = .returned (.int .u32 (Flt.signBit false + (r : Int))) ∧ Flt.RN way false (n.toNat * 2 ^ 149) 1 r) ∧ Below w.heap.size w w' := by
  have hz : (n == 0) = false := by simp; omega
  have hn : decide (n < 0) = false := by simp; omega
  go_enter Tryz.func110, Tryz.ntmps110
  go_wp2_with fail
  refine (of_any n (by omega) (by omega) _).mono ?_
  rintro e x1 ⟨⟨v1, rfl, hv1⟩, hb1⟩
  go_wp2_with fail
  refine (twice_any v1 _ 2 149 (by omega) (by omega) _ hv1).mono ?_
  rintro e x2 ⟨⟨v2, rfl, hv2⟩, hb2⟩
  have hbel2 := bl_tr hb1 hb2
  go_wp2_with fail
  refine (of_any 1 (by omega) (by omega) _).mono ?_
  rintro e x3 ⟨⟨v3, rfl, hv3⟩, hb3⟩
  have hbel3 := bl_tr hbel2 hb3
  go_wp2_with fail
  refine (rounded_any way false v2 v3 _ 1 12 (by omega) (by decide) _ ((hv2.below hb3).le (by omega)) ((hv3.cast (by simp)).le (by omega))).mono ?_
  rintro e x4 ⟨⟨r, rfl, hr⟩, hb4⟩
  go_wp2_with fail
  go_ret
  exact ⟨⟨r, rfl, hr⟩, bl_tr hbel3 hb4⟩

set_option maxRecDepth 100000 in
set_option maxHeartbeats 1000000 in
theorem rfromInt_neg (way n : Int) (h0 : n < 0) (h1 : -9223372036854775808 ≤ n) (w : World) :
    Calls Tryz.prog 110 #[.int .i64 way, .int .i64 n] w fun e w' => (∃ r : Nat, e = .returned (.int .u32 (Flt.signBit true + (r : Int))) ∧ Flt.RN way true ((-n).toNat * 2 ^ 149) 1 r) ∧ Below w.heap.size w w' := by
  have hz : (-(n + 1) + 1 == 0) = false := by simp; omega
  go_enter Tryz.func110, Tryz.ntmps110
  go_wp2_with fail
  refine (of_any _ (by omega) (by omega) _).mono ?_
  rintro e x1 ⟨⟨v1, rfl, hv1⟩, hb1⟩
  go_wp2_with fail
  refine (twice_any v1 _ 2 149 (by omega) (by omega) _ hv1).mono ?_
  rintro e x2 ⟨⟨v2, rfl, hv2⟩, hb2⟩
  have hbel2 := bl_tr hb1 hb2
  go_wp2_with fail
  refine (of_any 1 (by omega) (by omega) _).mono ?_
  rintro e x3 ⟨⟨v3, rfl, hv3⟩, hb3⟩
  have hbel3 := bl_tr hbel2 hb3
  go_wp2_with fail
  refine (rounded_any way true v2 v3 _ 1 12 (by omega) (by decide) _ ((hv2.below hb3).le (by omega)) ((hv3.cast (by simp)).le (by omega))).mono ?_
  rintro e x4 ⟨⟨r, rfl, hr⟩, hb4⟩
  go_wp2_with fail
  go_ret
  rw [show (-(n + 1) + 1).toNat = (-n).toNat by omega] at hr
  exact ⟨⟨r, rfl, hr⟩, bl_tr hbel3 hb4⟩

theorem rfromInt_zero (way : Int) (w : World) :
    Calls Tryz.prog 110 #[.int .i64 way, .int .i64 0] w fun e w' => e = .returned (.int .u32 0) ∧ w' = w := by
  go_enter Tryz.func110, Tryz.ntmps110
  go_wp2_with fail
  go_ret
  exact ⟨rfl, rfl⟩

set_option maxRecDepth 100000 in
set_option maxHeartbeats 1000000 in
theorem rscale_mid_up (a k : Int) (j : Nat) (h0 : 0 ≤ a) (h1 : a < 4294967296) (ha : Flt.mg a < 2139095040) (hz : Flt.mg a ≠ 0) (hk0 : 0 ≤ k) (hk1 : k ≤ 700) (hj : (j : Int) = k) (w : World) :
    Calls Tryz.prog 74 #[.int .u32 a, .int .i64 k] w fun e w' => (∃ r : Nat, e = .returned (.int .u32 (Flt.signBit (Flt.sgn a) + (r : Int))) ∧ Flt.RN 0 (Flt.sgn a) (Flt.A (Flt.mg a) * 2 ^ j) ((1 : Int).toNat) r) ∧ Below w.heap.size w w' := by
  obtain ⟨n1, n2⟩ := (Flt.fin_iff a).2 ha
  have ea := mg_cast a h0
  obtain ⟨ma, hma⟩ : ∃ ma, Flt.mg a = ma := ⟨_, rfl⟩
  rw [hma] at ea ha hz ⊢
  clear hma
  have i1 : ((ma : Int) == 2139095040) = false := by simp; omega
  have i2 : ((ma : Int) == 0) = false := by simp; omega
  go_enter Tryz.func74, Tryz.ntmps74
  go_wp2_with (first | (go_at_call 30; refine (risNone_any _ (by assumption) (by assumption) _).mono ?_; rintro e w' ⟨rfl, rfl⟩) | (go_at_call 68; refine (rabs_any _ (by assumption) (by assumption) _).mono ?_; rintro e w' ⟨rfl, rfl⟩) | (go_at_call 80; refine (rbelow_any _ (by assumption) (by assumption) _).mono ?_; rintro e w' ⟨rfl, rfl⟩))
  refine (amount_any ma (by omega) _).mono ?_
  rintro e x1 ⟨⟨v1, rfl, hv1⟩, hb1⟩
  go_wp2_with fail
  refine (of_any 1 (by omega) (by omega) _).mono ?_
  rintro e x2 ⟨⟨v2, rfl, hv2⟩, hb2⟩
  have hbel2 := bl_tr hb1 hb2
  have hv1' := hv1.below hb2
  go_wp2_with fail
  rw [show (k : Int) = (j : Int) by omega]
  refine (twice_any v1 _ 12 j (by omega) (by omega) _ hv1').mono ?_
  rintro e x3 ⟨⟨v3, rfl, hv3⟩, hb3⟩
  have hbel3 := bl_tr hbel2 hb3
  go_wp2_with (first | (go_at_call 30; refine (risNone_any _ (by assumption) (by assumption) _).mono ?_; rintro e w' ⟨rfl, rfl⟩) | (go_at_call 68; refine (rabs_any _ (by assumption) (by assumption) _).mono ?_; rintro e w' ⟨rfl, rfl⟩) | (go_at_call 80; refine (rbelow_any _ (by assumption) (by assumption) _).mono ?_; rintro e w' ⟨rfl, rfl⟩))
  refine (rounded_any 0 (Flt.sgn a) v3 v2 _ _ 40 (by omega) (by decide) _ (hv3.le (by omega)) ((hv2.below hb3).le (by omega))).mono ?_
  rintro e x4 ⟨⟨r, rfl, hr⟩, hb4⟩
  go_wp2_with fail
  go_ret
  exact ⟨⟨r, rfl, hr⟩, bl_tr hbel3 hb4⟩

set_option maxRecDepth 100000 in
set_option maxHeartbeats 1000000 in
theorem rscale_hi_up (a k : Int) (j : Nat) (h0 : 0 ≤ a) (h1 : a < 4294967296) (ha : Flt.mg a < 2139095040) (hz : Flt.mg a ≠ 0) (hk0 : 700 < k) (hj : (j : Int) = 700) (w : World) :
    Calls Tryz.prog 74 #[.int .u32 a, .int .i64 k] w fun e w' => (∃ r : Nat, e = .returned (.int .u32 (Flt.signBit (Flt.sgn a) + (r : Int))) ∧ Flt.RN 0 (Flt.sgn a) (Flt.A (Flt.mg a) * 2 ^ j) ((1 : Int).toNat) r) ∧ Below w.heap.size w w' := by
  obtain ⟨n1, n2⟩ := (Flt.fin_iff a).2 ha
  have ea := mg_cast a h0
  obtain ⟨ma, hma⟩ : ∃ ma, Flt.mg a = ma := ⟨_, rfl⟩
  rw [hma] at ea ha hz ⊢
  clear hma
  have i1 : ((ma : Int) == 2139095040) = false := by simp; omega
  have i2 : ((ma : Int) == 0) = false := by simp; omega
  go_enter Tryz.func74, Tryz.ntmps74
  go_wp2_with (first | (go_at_call 30; refine (risNone_any _ (by assumption) (by assumption) _).mono ?_; rintro e w' ⟨rfl, rfl⟩) | (go_at_call 68; refine (rabs_any _ (by assumption) (by assumption) _).mono ?_; rintro e w' ⟨rfl, rfl⟩) | (go_at_call 80; refine (rbelow_any _ (by assumption) (by assumption) _).mono ?_; rintro e w' ⟨rfl, rfl⟩))
  refine (amount_any ma (by omega) _).mono ?_
  rintro e x1 ⟨⟨v1, rfl, hv1⟩, hb1⟩
  go_wp2_with fail
  refine (of_any 1 (by omega) (by omega) _).mono ?_
  rintro e x2 ⟨⟨v2, rfl, hv2⟩, hb2⟩
  have hbel2 := bl_tr hb1 hb2
  have hv1' := hv1.below hb2
  go_wp2_with fail
  rw [show (700 : Int) = (j : Int) by omega]
  refine (twice_any v1 _ 12 j (by omega) (by omega) _ hv1').mono ?_
  rintro e x3 ⟨⟨v3, rfl, hv3⟩, hb3⟩
  have hbel3 := bl_tr hbel2 hb3
  go_wp2_with (first | (go_at_call 30; refine (risNone_any _ (by assumption) (by assumption) _).mono ?_; rintro e w' ⟨rfl, rfl⟩) | (go_at_call 68; refine (rabs_any _ (by assumption) (by assumption) _).mono ?_; rintro e w' ⟨rfl, rfl⟩) | (go_at_call 80; refine (rbelow_any _ (by assumption) (by assumption) _).mono ?_; rintro e w' ⟨rfl, rfl⟩))
  refine (rounded_any 0 (Flt.sgn a) v3 v2 _ _ 40 (by omega) (by decide) _ (hv3.le (by omega)) ((hv2.below hb3).le (by omega))).mono ?_
  rintro e x4 ⟨⟨r, rfl, hr⟩, hb4⟩
  go_wp2_with fail
  go_ret
  exact ⟨⟨r, rfl, hr⟩, bl_tr hbel3 hb4⟩

set_option maxRecDepth 100000 in
set_option maxHeartbeats 1000000 in
theorem rscale_mid_down (a k : Int) (j : Nat) (h0 : 0 ≤ a) (h1 : a < 4294967296) (ha : Flt.mg a < 2139095040) (hz : Flt.mg a ≠ 0) (hk0 : k < 0) (hk1 : -700 ≤ k) (hj : (j : Int) = -k) (w : World) :
    Calls Tryz.prog 74 #[.int .u32 a, .int .i64 k] w fun e w' => (∃ r : Nat, e = .returned (.int .u32 (Flt.signBit (Flt.sgn a) + (r : Int))) ∧ Flt.RN 0 (Flt.sgn a) (Flt.A (Flt.mg a)) ((1 : Int).toNat * 2 ^ j) r) ∧ Below w.heap.size w w' := by
  obtain ⟨n1, n2⟩ := (Flt.fin_iff a).2 ha
  have ea := mg_cast a h0
  obtain ⟨ma, hma⟩ : ∃ ma, Flt.mg a = ma := ⟨_, rfl⟩
  rw [hma] at ea ha hz ⊢
  clear hma
  have i1 : ((ma : Int) == 2139095040) = false := by simp; omega
  have i2 : ((ma : Int) == 0) = false := by simp; omega
  go_enter Tryz.func74, Tryz.ntmps74
  go_wp2_with (first | (go_at_call 30; refine (risNone_any _ (by assumption) (by assumption) _).mono ?_; rintro e w' ⟨rfl, rfl⟩) | (go_at_call 68; refine (rabs_any _ (by assumption) (by assumption) _).mono ?_; rintro e w' ⟨rfl, rfl⟩) | (go_at_call 80; refine (rbelow_any _ (by assumption) (by assumption) _).mono ?_; rintro e w' ⟨rfl, rfl⟩))
  refine (amount_any ma (by omega) _).mono ?_
  rintro e x1 ⟨⟨v1, rfl, hv1⟩, hb1⟩
  go_wp2_with fail
  refine (of_any 1 (by omega) (by omega) _).mono ?_
  rintro e x2 ⟨⟨v2, rfl, hv2⟩, hb2⟩
  have hbel2 := bl_tr hb1 hb2
  have hv1' := hv1.below hb2
  go_wp2_with fail
  rw [show (-k : Int) = (j : Int) by omega]
  refine (twice_any v2 _ 2 j (by omega) (by omega) _ hv2).mono ?_
  rintro e x3 ⟨⟨v3, rfl, hv3⟩, hb3⟩
  have hbel3 := bl_tr hbel2 hb3
  go_wp2_with (first | (go_at_call 30; refine (risNone_any _ (by assumption) (by assumption) _).mono ?_; rintro e w' ⟨rfl, rfl⟩) | (go_at_call 68; refine (rabs_any _ (by assumption) (by assumption) _).mono ?_; rintro e w' ⟨rfl, rfl⟩) | (go_at_call 80; refine (rbelow_any _ (by assumption) (by assumption) _).mono ?_; rintro e w' ⟨rfl, rfl⟩))
  refine (rounded_any 0 (Flt.sgn a) v1 v3 _ _ 40 (by omega) (Nat.mul_pos (by decide) (Nat.two_pow_pos _)) _ ((hv1'.below hb3).le (by omega)) (hv3.le (by omega))).mono ?_
  rintro e x4 ⟨⟨r, rfl, hr⟩, hb4⟩
  go_wp2_with fail
  go_ret
  exact ⟨⟨r, rfl, hr⟩, bl_tr hbel3 hb4⟩

set_option maxRecDepth 100000 in
set_option maxHeartbeats 1000000 in
theorem rscale_lo_down (a k : Int) (j : Nat) (h0 : 0 ≤ a) (h1 : a < 4294967296) (ha : Flt.mg a < 2139095040) (hz : Flt.mg a ≠ 0) (hk0 : k < -700) (hj : (j : Int) = 700) (w : World) :
    Calls Tryz.prog 74 #[.int .u32 a, .int .i64 k] w fun e w' => (∃ r : Nat, e = .returned (.int .u32 (Flt.signBit (Flt.sgn a) + (r : Int))) ∧ Flt.RN 0 (Flt.sgn a) (Flt.A (Flt.mg a)) ((1 : Int).toNat * 2 ^ j) r) ∧ Below w.heap.size w w' := by
  obtain ⟨n1, n2⟩ := (Flt.fin_iff a).2 ha
  have ea := mg_cast a h0
  obtain ⟨ma, hma⟩ : ∃ ma, Flt.mg a = ma := ⟨_, rfl⟩
  rw [hma] at ea ha hz ⊢
  clear hma
  have i1 : ((ma : Int) == 2139095040) = false := by simp; omega
  have i2 : ((ma : Int) == 0) = false := by simp; omega
  go_enter Tryz.func74, Tryz.ntmps74
  go_wp2_with (first | (go_at_call 30; refine (risNone_any _ (by assumption) (by assumption) _).mono ?_; rintro e w' ⟨rfl, rfl⟩) | (go_at_call 68; refine (rabs_any _ (by assumption) (by assumption) _).mono ?_; rintro e w' ⟨rfl, rfl⟩) | (go_at_call 80; refine (rbelow_any _ (by assumption) (by assumption) _).mono ?_; rintro e w' ⟨rfl, rfl⟩))
  refine (amount_any ma (by omega) _).mono ?_
  rintro e x1 ⟨⟨v1, rfl, hv1⟩, hb1⟩
  go_wp2_with fail
  refine (of_any 1 (by omega) (by omega) _).mono ?_
  rintro e x2 ⟨⟨v2, rfl, hv2⟩, hb2⟩
  have hbel2 := bl_tr hb1 hb2
  have hv1' := hv1.below hb2
  go_wp2_with fail
  rw [show (700 : Int) = (j : Int) by omega]
  refine (twice_any v2 _ 2 j (by omega) (by omega) _ hv2).mono ?_
  rintro e x3 ⟨⟨v3, rfl, hv3⟩, hb3⟩
  have hbel3 := bl_tr hbel2 hb3
  go_wp2_with (first | (go_at_call 30; refine (risNone_any _ (by assumption) (by assumption) _).mono ?_; rintro e w' ⟨rfl, rfl⟩) | (go_at_call 68; refine (rabs_any _ (by assumption) (by assumption) _).mono ?_; rintro e w' ⟨rfl, rfl⟩) | (go_at_call 80; refine (rbelow_any _ (by assumption) (by assumption) _).mono ?_; rintro e w' ⟨rfl, rfl⟩))
  refine (rounded_any 0 (Flt.sgn a) v1 v3 _ _ 40 (by omega) (Nat.mul_pos (by decide) (Nat.two_pow_pos _)) _ ((hv1'.below hb3).le (by omega)) (hv3.le (by omega))).mono ?_
  rintro e x4 ⟨⟨r, rfl, hr⟩, hb4⟩
  go_wp2_with fail
  go_ret
  exact ⟨⟨r, rfl, hr⟩, bl_tr hbel3 hb4⟩

end Go.Proofs.YtkbniebahledmabGreat

/-
  Walks of the document's answer to roots.
-/
namespace Go.Proofs.YtkbniebahledmabGreat
open Go.RowKit
set_option linter.unusedVariables false

theorem root_end (n : Nat) (m : Nat) (hn : n < Flt.A 2139095040 * Flt.A 2139095040) (h1 : m + 1 ≤ 2139095040) (h2 : Flt.A m * Flt.A m ≤ n) (h3 : m + 1 = 2139095040 ∨ n < Flt.A (m + 1) * Flt.A (m + 1)) : Flt.IsRt n m := by
  refine ⟨by omega, h2, ?_⟩
  rcases h3 with h | h
  · rw [h]; exact hn
  · exact h
theorem root_bound (m : Nat) (h : m < 2139095040) : Flt.A m * 2 ^ 149 < Flt.A 2139095040 * Flt.A 2139095040 := by
  have h1 := Flt.A_strict h
  have h2 : (2 : Nat) ^ 149 ≤ Flt.A 2139095040 := by
    rw [Flt.A_inf]
    have : (2 : Nat) ^ 149 ≤ 2 ^ 254 := Nat.pow_le_pow_right (by decide) (by omega)
    omega
  have p : 0 < (2 : Nat) ^ 149 := Nat.two_pow_pos _
  exact Nat.lt_of_lt_of_le (Nat.mul_lt_mul_of_pos_right h1 p) (Nat.mul_le_mul_left _ h2)

end Go.Proofs.YtkbniebahledmabGreat

/-
  Walks of the document's answers to floats without their broken part.
-/
namespace Go.Proofs.YtkbniebahledmabGreat
open Go.RowKit
set_option linter.unusedVariables false

theorem ret_tup2 {a a' : Int} {b b' : Bool} (h : a = a') (g : b = b') : Ending.returned (.tuple #[.int .u64 a, .bool b]) = .returned (.tuple #[.int .u64 a', .bool b']) := by rw [h, g]

set_option maxRecDepth 100000 in
set_option maxHeartbeats 1000000 in
theorem cut_great (a : Int) (h0 : 0 ≤ a) (h1 : a < 4294967296) (hE : 190 ≤ Flt.mg a / 8388608) (w : World) :
    Calls Tryz.prog 85 #[.int .u32 a] w fun e w' => e = .returned (.tuple #[.int .u64 0, .bool true]) ∧ w' = w := by
  have ea := mg_cast a h0
  have hm := Flt.mg_lt a
  obtain ⟨ma, hma⟩ : ∃ ma, Flt.mg a = ma := ⟨_, rfl⟩
  rw [hma] at ea hE hm
  have hEi : (190 : Int) ≤ (ma : Int) / 8388608 := by omega
  have hmi : (ma : Int) < 2147483648 := by omega
  clear hma hm hE
  go_enter Tryz.func85, Tryz.ntmps85
  go_wp2_with (go_at_call 68; refine (rabs_any _ h0 h1 _).mono ?_; rintro e w' ⟨rfl, rfl⟩)
  go_ret2
  exact ⟨rfl, rfl⟩

set_option maxRecDepth 100000 in
set_option maxHeartbeats 1000000 in
theorem cut_high (a : Int) (h0 : 0 ≤ a) (h1 : a < 4294967296) (hE : Flt.mg a / 8388608 < 190) (hE2 : 150 ≤ Flt.mg a / 8388608) (w : World) :
    Calls Tryz.prog 85 #[.int .u32 a] w fun e w' => e = .returned (.tuple #[.int .u64 ((Flt.A (Flt.mg a) / 2 ^ 149 : Nat) : Int), .bool false]) ∧ w' = w := by
  have ea := mg_cast a h0
  have hm := Flt.mg_lt a
  have hfr : a % 8388608 = ((Flt.mg a % 8388608 : Nat) : Int) := by unfold Flt.mg; omega
  have hA := Flt.A_cut (Flt.mg a)
  have hF := Flt.cutF_lt (Flt.mg a)
  have eE : Flt.cutE (Flt.mg a) = Flt.mg a / 8388608 := by unfold Flt.cutE; rw [if_neg (by omega)]
  have eF : Flt.cutF (Flt.mg a) = Flt.mg a % 8388608 + 8388608 := by unfold Flt.cutF; rw [if_neg (by omega)]
  rw [hA, Flt.cut_up _ _ (by omega)]
  obtain ⟨E, hEE⟩ : ∃ E, Flt.cutE (Flt.mg a) = E := ⟨_, rfl⟩
  obtain ⟨F, hFF⟩ : ∃ F, Flt.cutF (Flt.mg a) = F := ⟨_, rfl⟩
  rw [hEE, hFF]
  rw [hEE] at eE
  rw [hFF] at eF hF
  have d1 : Flt.absF a / 8388608 = (E : Int) := by rw [ea]; omega
  have d2 : a % 8388608 + 8388608 = (F : Int) := by omega
  have b1 : (E : Int) < 190 := by omega
  have b2 : (150 : Int) ≤ (E : Int) := by omega
  have hF24 : F ≤ 16777216 := by omega
  have HF24 := hide hF24
  have ra : 0 ≤ Flt.absF a ∧ Flt.absF a < 2147483648 := by unfold Flt.absF; omega
  obtain ⟨ra0, ra1⟩ := ra
  have c1 : Flt.absF a / 8388608 < 190 := by omega
  have c2 : 150 ≤ Flt.absF a / 8388608 := by omega
  have D1 := hide d1
  have D2 := hide d2
  clear ea hm hfr hA hF eE eF hEE hFF hE hE2 d1 d2 hF24
  go_enter Tryz.func85, Tryz.ntmps85
  go_wp2_with (go_at_call 68; refine (rabs_any _ h0 h1 _).mono ?_; rintro e w' ⟨rfl, rfl⟩)
  go_loop [4, 5] (fun e f => ∃ j : Nat, e = .int .i64 ((E : Int) - (j : Int)) ∧ (150 : Int) ≤ (E : Int) - (j : Int) ∧ f = .int .u64 ((F * 2 ^ j : Nat) : Int)) (fun e _ => (intOf e).toNat)
  case atStart => exact ⟨0, by rw [unhide D1]; simp, by omega, by rw [unhide D2]; simp⟩
  case round =>
    obtain ⟨j, rfl, hj, rfl⟩ := hrel
    by_cases hgo : (150 : Int) < (E : Int) - (j : Int)
    · have hb : F * 2 ^ j ≤ 16777216 * 2 ^ 38 := Nat.mul_le_mul (unhide HF24) (Nat.pow_le_pow_right (by decide) (by omega))
      have hb2 : ((F * 2 ^ j : Nat) : Int) ≤ 4611686018427387904 := by omega
      have hb3 : (0 : Int) ≤ ((F * 2 ^ j : Nat) : Int) := by omega
      obtain ⟨G, hG⟩ : ∃ G : Int, ((F * 2 ^ j : Nat) : Int) = G := ⟨_, rfl⟩
      rw [hG] at hb2 hb3 ⊢
      have HG := hide hG
      clear hG hb
      go_wp2_with fail
      go_round
      case rel => exact ⟨j + 1, by go_num, by omega, by rw [Nat.pow_succ, ← Nat.mul_assoc, Int.natCast_mul, unhide HG]; go_num⟩
      case measure => simp [intOf]; omega
    · have hj2 : (E : Int) - (j : Int) = 150 := by omega
      have hjE : E - 150 = j := by omega
      rw [hj2]
      have HJE := hide hjE
      obtain ⟨G, hG⟩ : ∃ G : Int, ((F * 2 ^ j : Nat) : Int) = G := ⟨_, rfl⟩
      rw [hG]
      have HG := hide hG
      clear hgo hj hj2 hjE hG b1 b2 c1 c2
      go_wp2_with fail
      go_loop [4, 5] (fun e f => e = .int .i64 150 ∧ f = .int .u64 G) (fun _ _ => 0)
      case atStart => exact ⟨rfl, rfl⟩
      case round =>
        obtain ⟨rfl, rfl⟩ := hrel
        go_wp2_with fail
        go_ret2
        exact ⟨ret_tup2 (by rw [unhide HJE, ← unhide HG, Int.natCast_mul, Int.natCast_pow]; rfl) rfl, rfl⟩

set_option maxRecDepth 100000 in
set_option maxHeartbeats 1000000 in
theorem cut_low (a : Int) (h0 : 0 ≤ a) (h1 : a < 4294967296) (hE2 : Flt.mg a / 8388608 < 150) (w : World) :
    Calls Tryz.prog 85 #[.int .u32 a] w fun e w' => e = .returned (.tuple #[.int .u64 ((Flt.A (Flt.mg a) / 2 ^ 149 : Nat) : Int), .bool false]) ∧ w' = w := by
  have ea := mg_cast a h0
  have hfr : a % 8388608 = ((Flt.mg a % 8388608 : Nat) : Int) := by unfold Flt.mg; omega
  have hA := Flt.A_cut (Flt.mg a)
  have hF := Flt.cutF_lt (Flt.mg a)
  have hc1 : 1 ≤ Flt.cutE (Flt.mg a) ∧ Flt.cutE (Flt.mg a) < 150 := by unfold Flt.cutE; split <;> omega
  rw [hA, Flt.cut_down _ _ (by omega) (by omega)]
  have hEF : (Flt.mg a / 8388608 = 0 ∧ Flt.cutE (Flt.mg a) = 1 ∧ Flt.cutF (Flt.mg a) = Flt.mg a % 8388608) ∨ (Flt.mg a / 8388608 ≠ 0 ∧ Flt.cutE (Flt.mg a) = Flt.mg a / 8388608 ∧ Flt.cutF (Flt.mg a) = Flt.mg a % 8388608 + 8388608) := by
    unfold Flt.cutE Flt.cutF; split
    · rename_i h; exact .inl ⟨h, rfl, rfl⟩
    · rename_i h; exact .inr ⟨h, rfl, rfl⟩
  obtain ⟨E, hEE⟩ : ∃ E, Flt.cutE (Flt.mg a) = E := ⟨_, rfl⟩
  obtain ⟨F, hFF⟩ : ∃ F, Flt.cutF (Flt.mg a) = F := ⟨_, rfl⟩
  rw [hEE, hFF] at hEF ⊢
  rw [hEE] at hc1
  rw [hFF] at hF
  have b1 : (1 : Int) ≤ (E : Int) := by omega
  have b2 : (E : Int) < 150 := by omega
  have hF24 : F < 16777216 := hF
  have HF24 := hide hF24
  have ra : 0 ≤ Flt.absF a ∧ Flt.absF a < 2147483648 := by unfold Flt.absF; omega
  obtain ⟨ra0, ra1⟩ := ra
  have c1 : Flt.absF a / 8388608 < 150 := by rw [ea]; omega
  rcases hEF with ⟨z, e1, e2⟩ | ⟨z, e1, e2⟩
  · have z1 : Flt.absF a / 8388608 = 0 := by rw [ea]; omega
    have D2 := hide (show a % 8388608 = (F : Int) by omega)
    have D1 := hide e1
    clear ea hfr hA hF hEE hFF hE2 hc1 hF24 z e1 e2 c1
    go_enter Tryz.func85, Tryz.ntmps85
    go_wp2_with (go_at_call 68; refine (rabs_any _ h0 h1 _).mono ?_; rintro e w' ⟨rfl, rfl⟩)
    go_loop [4, 5] (fun e f => ∃ G : Int, e = .int .i64 (E : Int) ∧ f = .int .u64 G ∧ 0 ≤ G ∧ G ≤ 16777215 ∧ Hid (G = (F : Int))) (fun _ _ => 0)
    case atStart => exact ⟨_, by first | rfl | (rw [unhide D1]; rfl) | rw [unhide D1], rfl, by omega, by have := unhide D2; have := unhide HF24; omega, hide (unhide D2)⟩
    case round =>
      obtain ⟨G, rfl, rfl, q0, q1, HG⟩ := hrel
      go_wp2_with fail
      go_loop [4, 5] (fun e f => ∃ j : Nat, ∃ G : Int, e = .int .i64 ((E : Int) + (j : Int)) ∧ (E : Int) + (j : Int) ≤ 150 ∧ f = .int .u64 G ∧ 0 ≤ G ∧ G ≤ 16777215 ∧ Hid (G = ((F / 2 ^ j : Nat) : Int))) (fun e _ => (150 - intOf e).toNat)
      case atStart => exact ⟨0, G, by simp, by omega, rfl, q0, q1, hide (by rw [unhide HG]; simp)⟩
      case round =>
        obtain ⟨j, G2, rfl, hj, rfl, r0, r1, HG2⟩ := hrel
        by_cases hj2 : (E : Int) + (j : Int) = 150
        · rw [hj2]
          have HJ := hide (show 150 - E = j by omega)
          clear hj hj2 b1 b2
          go_wp2_with fail
          go_ret2
          exact ⟨ret_tup2 (by rw [unhide HJ, unhide HG2]; exact Flt.div_cast _ _) rfl, rfl⟩
        · have hlt : (E : Int) + (j : Int) < 150 := by omega
          by_cases hg : 0 < G2
          · go_wp2_with fail
            go_round
            case rel =>
              refine ⟨j + 1, G2 / 2, by go_num, by omega, rfl, by omega, by omega, hide ?_⟩
              rw [unhide HG2, ← Flt.half_step]; rfl
            case measure => simp [intOf]; omega
          · have hg0 : G2 = 0 := by omega
            subst hg0
            have hz := unhide HG2
            have HJ := hide (show F / 2 ^ (150 - E) = 0 by
              have hp : 2 ^ j ≤ 2 ^ (150 - E) := Nat.pow_le_pow_right (by decide) (by omega)
              have hl : F < 2 ^ j := by
                rcases Nat.lt_or_ge F (2 ^ j) with h | h
                · exact h
                · have := Nat.div_pos h (Nat.two_pow_pos j); omega
              exact Nat.div_eq_of_lt (by omega))
            clear hz HG2
            go_wp2_with fail
            go_ret2
            exact ⟨ret_tup2 (by rw [← Flt.div_cast, unhide HJ]; rfl) rfl, rfl⟩
  · have z1 : 0 < Flt.absF a / 8388608 := by rw [ea]; omega
    have D1 := hide (show Flt.absF a / 8388608 = (E : Int) by rw [ea]; omega)
    have D2 := hide (show a % 8388608 + 8388608 = (F : Int) by omega)
    clear ea hfr hA hF hEE hFF hE2 hc1 hF24 z e1 e2
    go_enter Tryz.func85, Tryz.ntmps85
    go_wp2_with (go_at_call 68; refine (rabs_any _ h0 h1 _).mono ?_; rintro e w' ⟨rfl, rfl⟩)
    clear c1 z1
    go_loop [4, 5] (fun e f => ∃ G : Int, e = .int .i64 (E : Int) ∧ f = .int .u64 G ∧ 0 ≤ G ∧ G ≤ 16777215 ∧ Hid (G = (F : Int))) (fun _ _ => 0)
    case atStart => exact ⟨_, by first | rfl | (rw [unhide D1]; rfl) | rw [unhide D1], rfl, by omega, by have := unhide D2; have := unhide HF24; omega, hide (unhide D2)⟩
    case round =>
      obtain ⟨G, rfl, rfl, q0, q1, HG⟩ := hrel
      go_wp2_with fail
      go_loop [4, 5] (fun e f => ∃ j : Nat, ∃ G : Int, e = .int .i64 ((E : Int) + (j : Int)) ∧ (E : Int) + (j : Int) ≤ 150 ∧ f = .int .u64 G ∧ 0 ≤ G ∧ G ≤ 16777215 ∧ Hid (G = ((F / 2 ^ j : Nat) : Int))) (fun e _ => (150 - intOf e).toNat)
      case atStart => exact ⟨0, G, by simp, by omega, rfl, q0, q1, hide (by rw [unhide HG]; simp)⟩
      case round =>
        obtain ⟨j, G2, rfl, hj, rfl, r0, r1, HG2⟩ := hrel
        by_cases hj2 : (E : Int) + (j : Int) = 150
        · rw [hj2]
          have HJ := hide (show 150 - E = j by omega)
          clear hj hj2 b1 b2
          go_wp2_with fail
          go_ret2
          exact ⟨ret_tup2 (by rw [unhide HJ, unhide HG2]; exact Flt.div_cast _ _) rfl, rfl⟩
        · have hlt : (E : Int) + (j : Int) < 150 := by omega
          by_cases hg : 0 < G2
          · go_wp2_with fail
            go_round
            case rel =>
              refine ⟨j + 1, G2 / 2, by go_num, by omega, rfl, by omega, by omega, hide ?_⟩
              rw [unhide HG2, ← Flt.half_step]; rfl
            case measure => simp [intOf]; omega
          · have hg0 : G2 = 0 := by omega
            subst hg0
            have hz := unhide HG2
            have HJ := hide (show F / 2 ^ (150 - E) = 0 by
              have hp : 2 ^ j ≤ 2 ^ (150 - E) := Nat.pow_le_pow_right (by decide) (by omega)
              have hl : F < 2 ^ j := by
                rcases Nat.lt_or_ge F (2 ^ j) with h | h
                · exact h
                · have := Nat.div_pos h (Nat.two_pow_pos j); omega
              exact Nat.div_eq_of_lt (by omega))
            clear hz HG2
            go_wp2_with fail
            go_ret2
            exact ⟨ret_tup2 (by rw [← Flt.div_cast, unhide HJ]; rfl) rfl, rfl⟩

theorem cut_any (a : Int) (h0 : 0 ≤ a) (h1 : a < 4294967296) (hE : Flt.mg a / 8388608 < 190) (w : World) :
    Calls Tryz.prog 85 #[.int .u32 a] w fun e w' => e = .returned (.tuple #[.int .u64 ((Flt.A (Flt.mg a) / 2 ^ 149 : Nat) : Int), .bool false]) ∧ w' = w := by
  by_cases h : 150 ≤ Flt.mg a / 8388608
  · exact cut_high a h0 h1 hE h w
  · exact cut_low a h0 h1 (by omega) w

set_option maxRecDepth 100000 in
set_option maxHeartbeats 1000000 in
theorem rtoInt_any (a : Int) (h0 : 0 ≤ a) (h1 : a < 4294967296) (w : World) :
    Calls Tryz.prog 55 #[.int .u32 a] w fun e w' => e = .returned (.int .i64 (Flt.toIntV a)) ∧ w' = w := by
  unfold Flt.toIntV
  cases hn : Flt.isNaN a
  · rw [if_neg (by simp)]
    by_cases hE : 190 ≤ Flt.mg a / 8388608
    · rw [if_pos hE]
      have C := hide (fun w => cut_great a h0 h1 hE w)
      clear hE
      cases hs : Flt.sgn a
      all_goals
        go_enter Tryz.func55, Tryz.ntmps55
        go_wp2_with (first | (go_at_call 30; refine (risNone_any _ h0 h1 _).mono ?_; rintro e w' ⟨rfl, rfl⟩) | (go_at_call 85; refine (unhide C _).mono ?_; rintro e w' ⟨rfl, rfl⟩) | (go_at_call 80; refine (rbelow_any _ h0 h1 _).mono ?_; rintro e w' ⟨rfl, rfl⟩))
        go_ret
        exact ⟨ret_int (by simp), rfl⟩
    · rw [if_neg hE]
      have hlt := Flt.cut_lt (Flt.mg a) (by omega)
      have C := hide (fun w => cut_any a h0 h1 (by omega) w)
      obtain ⟨N, hN⟩ : ∃ N : Int, ((Flt.A (Flt.mg a) / 2 ^ 149 : Nat) : Int) = N := ⟨_, rfl⟩
      have b0 : 0 ≤ N := by omega
      have b1 : N ≤ 9223372036854775807 := by omega
      rw [hN] at C ⊢
      clear hE hlt hN
      cases hs : Flt.sgn a
      all_goals
        go_enter Tryz.func55, Tryz.ntmps55
        go_wp2_with (first | (go_at_call 30; refine (risNone_any _ h0 h1 _).mono ?_; rintro e w' ⟨rfl, rfl⟩) | (go_at_call 85; refine (unhide C _).mono ?_; rintro e w' ⟨rfl, rfl⟩) | (go_at_call 80; refine (rbelow_any _ h0 h1 _).mono ?_; rintro e w' ⟨rfl, rfl⟩))
        go_ret
        exact ⟨ret_int (by simp), rfl⟩
  · rw [if_pos rfl]
    go_enter Tryz.func55, Tryz.ntmps55
    go_wp2_with (go_at_call 30; refine (risNone_any _ h0 h1 _).mono ?_; rintro e w' ⟨rfl, rfl⟩)
    go_ret
    exact ⟨ret_int rfl, rfl⟩
end Go.Proofs.YtkbniebahledmabGreat

/-
  Walks of the document's answers to roots and fused products and sums where nothing is rounded.
-/
namespace Go.Proofs.YtkbniebahledmabGreat
open Go.RowKit
set_option linter.unusedVariables false

theorem sg_no (a b : Bool) (h : (a == b) = false) (e : a = b) : False := by subst e; simp at h
theorem sg_yes (a b : Bool) (h : (a == b) = true) (e : ¬ a = b) : False := e (by simpa using h)

set_option maxRecDepth 100000 in
set_option maxHeartbeats 4000000 in
theorem rfmaBy_x (way a b c : Int) (h0 : 0 ≤ a) (h1 : a < 4294967296) (g0 : 0 ≤ b) (g1 : b < 4294967296) (k0 : 0 ≤ c) (k1 : c < 4294967296)
    (hx : (Flt.isNaN a || Flt.isNaN b || Flt.isNaN c || Flt.isNaN (Flt.mulBy 0 a b) || Flt.isInf a || Flt.isInf b || Flt.isInf c) = true) (w : World) :
    Calls Tryz.prog 109 #[.int .i64 way, .int .u32 a, .int .u32 b, .int .u32 c] w fun e w' => e = .returned (.int .u32 (Flt.fmaX a b c)) ∧ Below w.heap.size w w' := by
  obtain ⟨q0, q1, _⟩ := Flt.mulBy_good 0 a b h0 g0
  have ia : (Flt.absF a == 2139095040) = Flt.isInf a := by unfold Flt.isInf Flt.absF; rw [Bool.eq_iff_iff]; simp
  have ib : (Flt.absF b == 2139095040) = Flt.isInf b := by unfold Flt.isInf Flt.absF; rw [Bool.eq_iff_iff]; simp
  have ic : (Flt.absF c == 2139095040) = Flt.isInf c := by unfold Flt.isInf Flt.absF; rw [Bool.eq_iff_iff]; simp
  have HX := hide hx
  clear hx
  have M := hide (fun w => rmulBy_any 0 a b h0 h1 g0 g1 w)
  unfold Flt.fmaX
  obtain ⟨p, hp⟩ : ∃ p, Flt.mulBy 0 a b = p := ⟨_, rfl⟩
  rw [hp] at HX M q0 q1 ⊢
  clear hp
  obtain ⟨sg, hsg⟩ : ∃ sg, (Flt.sgn a != Flt.sgn b) = sg := ⟨_, rfl⟩
  have hsg' : (!(Flt.sgn a == Flt.sgn b)) = sg := hsg
  rw [hsg]
  clear hsg
  cases n1 : Flt.isNaN a
  · cases n2 : Flt.isNaN b
    · cases n3 : Flt.isNaN c
      · cases n4 : Flt.isNaN p
        · cases n5 : Flt.isInf a <;> cases n6 : Flt.isInf b <;> cases n7 : Flt.isInf c <;> cases n8 : (Flt.sgn c == sg)
          all_goals rw [n1, n2, n3, n4, n5, n6, n7] at HX
          all_goals first | (exact absurd (unhide HX) (by decide)) | skip
          all_goals clear HX
          all_goals
            go_enter Tryz.func109, Tryz.ntmps109
            go_wp2_with fail
            refine (unhide M _).mono ?_
            rintro e x0 ⟨rfl, hb0⟩
            go_wp2_with (first | (go_at_call 30; refine (risNone_any _ (by assumption) (by assumption) _).mono ?_; rintro e w' ⟨rfl, rfl⟩) | (go_at_call 68; refine (rabs_any _ (by assumption) (by assumption) _).mono ?_; rintro e w' ⟨rfl, rfl⟩) | (go_at_call 80; refine (rbelow_any _ (by assumption) (by assumption) _).mono ?_; rintro e w' ⟨rfl, rfl⟩))
          all_goals go_ret
          all_goals (refine ⟨ret_int ?_, hb0⟩)
          all_goals first | rfl | (exfalso; refine sg_no _ _ n8 ?_; assumption) | (exfalso; refine sg_yes _ _ n8 ?_; assumption)
        · go_enter Tryz.func109, Tryz.ntmps109
          go_wp2_with fail
          refine (unhide M _).mono ?_
          rintro e x0 ⟨rfl, hb0⟩
          go_wp2_with (first | (go_at_call 30; refine (risNone_any _ (by assumption) (by assumption) _).mono ?_; rintro e w' ⟨rfl, rfl⟩) | (go_at_call 68; refine (rabs_any _ (by assumption) (by assumption) _).mono ?_; rintro e w' ⟨rfl, rfl⟩) | (go_at_call 80; refine (rbelow_any _ (by assumption) (by assumption) _).mono ?_; rintro e w' ⟨rfl, rfl⟩))
          all_goals go_ret
          all_goals exact ⟨ret_int (by simp), hb0⟩
      · go_enter Tryz.func109, Tryz.ntmps109
        go_wp2_with fail
        refine (unhide M _).mono ?_
        rintro e x0 ⟨rfl, hb0⟩
        go_wp2_with (first | (go_at_call 30; refine (risNone_any _ (by assumption) (by assumption) _).mono ?_; rintro e w' ⟨rfl, rfl⟩) | (go_at_call 68; refine (rabs_any _ (by assumption) (by assumption) _).mono ?_; rintro e w' ⟨rfl, rfl⟩) | (go_at_call 80; refine (rbelow_any _ (by assumption) (by assumption) _).mono ?_; rintro e w' ⟨rfl, rfl⟩))
        all_goals go_ret
        all_goals exact ⟨ret_int (by simp), hb0⟩
    · go_enter Tryz.func109, Tryz.ntmps109
      go_wp2_with fail
      refine (unhide M _).mono ?_
      rintro e x0 ⟨rfl, hb0⟩
      go_wp2_with (first | (go_at_call 30; refine (risNone_any _ (by assumption) (by assumption) _).mono ?_; rintro e w' ⟨rfl, rfl⟩) | (go_at_call 68; refine (rabs_any _ (by assumption) (by assumption) _).mono ?_; rintro e w' ⟨rfl, rfl⟩) | (go_at_call 80; refine (rbelow_any _ (by assumption) (by assumption) _).mono ?_; rintro e w' ⟨rfl, rfl⟩))
      all_goals go_ret
      all_goals exact ⟨ret_int (by simp), hb0⟩
  · go_enter Tryz.func109, Tryz.ntmps109
    go_wp2_with fail
    refine (unhide M _).mono ?_
    rintro e x0 ⟨rfl, hb0⟩
    go_wp2_with (first | (go_at_call 30; refine (risNone_any _ (by assumption) (by assumption) _).mono ?_; rintro e w' ⟨rfl, rfl⟩) | (go_at_call 68; refine (rabs_any _ (by assumption) (by assumption) _).mono ?_; rintro e w' ⟨rfl, rfl⟩) | (go_at_call 80; refine (rbelow_any _ (by assumption) (by assumption) _).mono ?_; rintro e w' ⟨rfl, rfl⟩))
    all_goals go_ret
    all_goals exact ⟨ret_int (by simp), hb0⟩
end Go.Proofs.YtkbniebahledmabGreat
