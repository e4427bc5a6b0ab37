/-
  Walks of the document's answer to fused products and sums.
-/
import Derived.Test.YtblfbopdphnmoaaWkU
import Derived.Test.YtblfbopdphnmoaaFltK
namespace Go.Proofs.Ytblfbopdphnmoaa
open Go.RowKit
set_option linter.unusedVariables false

set_option maxRecDepth 100000 in
set_option maxHeartbeats 4000000 in
theorem rfmaBy_fin (way a b c : Int) (h0 : 0 ≤ a) (h1 : a < 4294967296) (g0 : 0 ≤ b) (g1 : b < 4294967296) (k0 : 0 ≤ c) (k1 : c < 4294967296) (ha : Flt.mg a < 2139095040) (hb : Flt.mg b < 2139095040) (hc : Flt.mg c < 2139095040) (w : World) :
    Calls Try.prog 11 #[.int .i64 way, .int .u32 a, .int .u32 b, .int .u32 c] w fun e w' => (∃ r : Int, e = .returned (.int .u32 r) ∧ Flt.SumQ way (Flt.sgn a != Flt.sgn b) (Flt.sgn c) (Flt.A (Flt.mg a) * Flt.A (Flt.mg b)) (Flt.A (Flt.mg c) * 2 ^ 149) (2 ^ 149) r) ∧ Below w.heap.size w w' := by
  obtain ⟨n1, n2⟩ := (Flt.fin_iff a).2 ha
  obtain ⟨n3, n4⟩ := (Flt.fin_iff b).2 hb
  obtain ⟨n5, n6⟩ := (Flt.fin_iff c).2 hc
  obtain ⟨q0, q1, _⟩ := Flt.mulBy_good 0 a b h0 g0
  have nP : Flt.isNaN (Flt.mulBy 0 a b) = false := by
    obtain ⟨r, e1, e2⟩ := Flt.mulBy_fin 0 a b h0 g0 ha hb
    rw [e1, Flt.isNaN_not, Flt.mg_signed _ r (by have := Flt.RN_le e2; omega)]
    exact Flt.RN_le e2
  have ea := mg_cast a h0
  have eb := mg_cast b g0
  have ec := mg_cast c k0
  obtain ⟨ma, hma⟩ : ∃ ma, Flt.mg a = ma := ⟨_, rfl⟩
  obtain ⟨mb, hmb⟩ : ∃ mb, Flt.mg b = mb := ⟨_, rfl⟩
  obtain ⟨mc, hmc⟩ : ∃ mc, Flt.mg c = mc := ⟨_, rfl⟩
  rw [hma] at ea ha ⊢
  rw [hmb] at eb hb ⊢
  rw [hmc] at ec hc ⊢
  have i1 : ((ma : Int) == 2139095040) = false := by simp; omega
  have i2 : ((mb : Int) == 2139095040) = false := by simp; omega
  have i3 : ((mc : Int) == 2139095040) = false := by simp; omega
  have HMC := hide hmc
  clear hma hmb hmc
  obtain ⟨sg, hsg⟩ : ∃ sg, (Flt.sgn a != Flt.sgn b) = sg := ⟨_, rfl⟩
  have hsg' : (!(Flt.sgn a == Flt.sgn b)) = sg := hsg
  rw [hsg]
  clear hsg
  by_cases hs : sg = Flt.sgn c
  · have hsb : (sg == Flt.sgn c) = true := by simp [hs]
    have HS := hide hs
    clear hs
    go_enter Try.func11, Try.ntmps11
    go_wp2_with fail
    refine (rmulBy_any 0 a b h0 h1 g0 g1 _).mono ?_
    rintro e x0 ⟨rfl, hb0⟩
    go_wp2_with (first | (go_at_call 43; refine (risNone_any _ (by assumption) (by assumption) _).mono ?_; rintro e w' ⟨rfl, rfl⟩) | (go_at_call 42; refine (rabs_any _ (by assumption) (by assumption) _).mono ?_; rintro e w' ⟨rfl, rfl⟩) | (go_at_call 41; refine (rbelow_any _ (by assumption) (by assumption) _).mono ?_; rintro e w' ⟨rfl, rfl⟩))
    refine (amount_any ma (by omega) _).mono ?_
    rintro e x1 ⟨⟨v1, rfl, hv1⟩, hb1⟩
    have hbel1 := bl_tr hb0 hb1
    go_wp2_with (first | (go_at_call 43; refine (risNone_any _ (by assumption) (by assumption) _).mono ?_; rintro e w' ⟨rfl, rfl⟩) | (go_at_call 42; refine (rabs_any _ (by assumption) (by assumption) _).mono ?_; rintro e w' ⟨rfl, rfl⟩) | (go_at_call 41; refine (rbelow_any _ (by assumption) (by assumption) _).mono ?_; rintro e w' ⟨rfl, rfl⟩))
    refine (amount_any mb (by omega) _).mono ?_
    rintro e x2 ⟨⟨v2, rfl, hv2⟩, hb2⟩
    have hbel2 := bl_tr hbel1 hb2
    go_wp2_with fail
    refine (times_any v1 v2 _ _ 12 12 (by omega) (by omega) _ (hv1.below hb2) hv2).mono ?_
    rintro e x3 ⟨⟨v3, rfl, hv3⟩, hb3⟩
    have hbel3 := bl_tr hbel2 hb3
    go_wp2_with (first | (go_at_call 43; refine (risNone_any _ (by assumption) (by assumption) _).mono ?_; rintro e w' ⟨rfl, rfl⟩) | (go_at_call 42; refine (rabs_any _ (by assumption) (by assumption) _).mono ?_; rintro e w' ⟨rfl, rfl⟩) | (go_at_call 41; refine (rbelow_any _ (by assumption) (by assumption) _).mono ?_; rintro e w' ⟨rfl, rfl⟩))
    refine (amount_any mc (by omega) _).mono ?_
    rintro e x4 ⟨⟨v4, rfl, hv4⟩, hb4⟩
    have hbel4 := bl_tr hbel3 hb4
    go_wp2_with fail
    refine (twice_any v4 _ 12 149 (by omega) (by omega) _ hv4).mono ?_
    rintro e x5 ⟨⟨v5, rfl, hv5⟩, hb5⟩
    have hbel5 := bl_tr hbel4 hb5
    go_wp2_with fail
    refine (of_any 1 (by omega) (by omega) _).mono ?_
    rintro e x6 ⟨⟨v6, rfl, hv6⟩, hb6⟩
    have hbel6 := bl_tr hbel5 hb6
    go_wp2_with fail
    refine (twice_any v6 _ 2 149 (by omega) (by omega) _ hv6).mono ?_
    rintro e x7 ⟨⟨v7, rfl, hv7⟩, hb7⟩
    have hbel7 := bl_tr hbel6 hb7
    have hX := (hv3.below (bl_tr (bl_tr (bl_tr hb4 hb5) hb6) hb7)).le (show 12 + 12 ≤ 24 by omega)
    have hY := (hv5.below (bl_tr hb6 hb7)).le (show 149 / 32 + 12 + 1 ≤ 24 by omega)
    have hU := (hv7.cast (show (1 : Int).toNat * 2 ^ 149 = 2 ^ 149 by simp)).le (show 149 / 32 + 2 + 1 ≤ 24 by omega)
    clear hv1 hv2 hv3 hv4 hv5 hv6 hv7 hb0 hb1 hb2 hb3 hb4 hb5 hb6 hb7 hbel1 hbel2 hbel3 hbel4 hbel5 hbel6
    obtain ⟨b1', o1, n1', c1, rfl, l1, z1⟩ := hX.len_zero
    obtain ⟨b2', o2, n2', c2, rfl, l2, z2⟩ := hY.len_zero
    have Z1 := hide z1
    have Z2 := hide z2
    clear z1 z2
    have HX := hide hX
    have HY := hide hY
    have HU := hide hU
    clear hX hY hU
    by_cases hz : n1' = 0 ∧ n2' = 0
    · obtain ⟨rfl, rfl⟩ := hz
      go_wp2_with (first | (go_at_call 43; refine (risNone_any _ (by assumption) (by assumption) _).mono ?_; rintro e w' ⟨rfl, rfl⟩) | (go_at_call 42; refine (rabs_any _ (by assumption) (by assumption) _).mono ?_; rintro e w' ⟨rfl, rfl⟩) | (go_at_call 41; refine (rbelow_any _ (by assumption) (by assumption) _).mono ?_; rintro e w' ⟨rfl, rfl⟩))
      go_ret
      refine ⟨⟨c, rfl, ?_⟩, hbel7⟩
      have b0 := (unhide Z2).1 (by simp)
      have a0 := (unhide Z1).1 (by simp)
      refine ⟨fun _ _ => ?_, fun _ h => by omega, fun h => absurd (unhide HS) h, fun h => absurd (unhide HS) h, fun h => absurd (unhide HS) h⟩
      have e0 : mc = 0 := by
        rcases Nat.mul_eq_zero.1 b0 with h | h
        · exact Flt.A_inj (h.trans Flt.A_zero.symm)
        · exact absurd h (Nat.ne_of_gt (Nat.two_pow_pos 149))
      have := Flt.signed_eq c k0 k1
      rw [unhide HMC, e0, ← unhide HS] at this
      simpa using this
    · have hpos : 0 < Flt.A ma * Flt.A mb + Flt.A mc * 2 ^ 149 := by
        rcases Nat.eq_zero_or_pos (Flt.A ma * Flt.A mb + Flt.A mc * 2 ^ 149) with h | h
        · exact absurd ⟨(unhide Z1).2 (by omega), (unhide Z2).2 (by omega)⟩ hz
        · exact h
      have HPOS := hide hpos
      clear hpos
      have hz2 : n1' = 0 → ¬ n2' = 0 := fun h h' => hz ⟨h, h'⟩
      by_cases hz1 : n1' = 0
      · have hzb : ¬ n2' = 0 := hz2 hz1
        have hzi1 : ((n1' : Int) == 0) = true := by simp; omega
        have hzi2 : ((n2' : Int) == 0) = false := by simp; omega
        clear hz hz1 hz2 hzb
        go_wp2_with (first | (go_at_call 43; refine (risNone_any _ (by assumption) (by assumption) _).mono ?_; rintro e w' ⟨rfl, rfl⟩) | (go_at_call 42; refine (rabs_any _ (by assumption) (by assumption) _).mono ?_; rintro e w' ⟨rfl, rfl⟩) | (go_at_call 41; refine (rbelow_any _ (by assumption) (by assumption) _).mono ?_; rintro e w' ⟨rfl, rfl⟩))
        refine (plus_any _ _ _ _ 24 (by omega) _ (unhide HX) (unhide HY) (unhide HPOS)).mono ?_
        rintro e x8 ⟨⟨v8, rfl, hv8⟩, hb8⟩
        have hbel8 := bl_tr hbel7 hb8
        go_wp2_with fail
        refine (rounded_any way sg v8 v7 _ (2 ^ 149) 25 (by omega) (Nat.two_pow_pos _) _ (hv8.le (by omega)) (((unhide HU).below hb8).le (by omega))).mono ?_
        rintro e x9 ⟨⟨r, rfl, hr⟩, hb9⟩
        go_wp2_with fail
        go_ret
        refine ⟨⟨_, rfl, ?_⟩, bl_tr hbel8 hb9⟩
        refine ⟨fun _ h => ?_, fun _ _ => ⟨r, rfl, hr⟩, fun h => absurd (unhide HS) h, fun h => absurd (unhide HS) h, fun h => absurd (unhide HS) h⟩
        have := unhide HPOS; omega
      · have hzi1 : ((n1' : Int) == 0) = false := by simp; omega
        clear hz hz1 hz2
        go_wp2_with (first | (go_at_call 43; refine (risNone_any _ (by assumption) (by assumption) _).mono ?_; rintro e w' ⟨rfl, rfl⟩) | (go_at_call 42; refine (rabs_any _ (by assumption) (by assumption) _).mono ?_; rintro e w' ⟨rfl, rfl⟩) | (go_at_call 41; refine (rbelow_any _ (by assumption) (by assumption) _).mono ?_; rintro e w' ⟨rfl, rfl⟩))
        refine (plus_any _ _ _ _ 24 (by omega) _ (unhide HX) (unhide HY) (unhide HPOS)).mono ?_
        rintro e x8 ⟨⟨v8, rfl, hv8⟩, hb8⟩
        have hbel8 := bl_tr hbel7 hb8
        go_wp2_with fail
        refine (rounded_any way sg v8 v7 _ (2 ^ 149) 25 (by omega) (Nat.two_pow_pos _) _ (hv8.le (by omega)) (((unhide HU).below hb8).le (by omega))).mono ?_
        rintro e x9 ⟨⟨r, rfl, hr⟩, hb9⟩
        go_wp2_with fail
        go_ret
        refine ⟨⟨_, rfl, ?_⟩, bl_tr hbel8 hb9⟩
        refine ⟨fun _ h => ?_, fun _ _ => ⟨r, rfl, hr⟩, fun h => absurd (unhide HS) h, fun h => absurd (unhide HS) h, fun h => absurd (unhide HS) h⟩
        have := unhide HPOS; omega
  · have hsb : (sg == Flt.sgn c) = false := by simp [hs]
    have HS := hide hs
    have hnc : (!sg) = Flt.sgn c := by cases sg <;> cases hq : Flt.sgn c <;> simp_all
    have HNC := hide hnc
    clear hs hnc
    go_enter Try.func11, Try.ntmps11
    go_wp2_with fail
    refine (rmulBy_any 0 a b h0 h1 g0 g1 _).mono ?_
    rintro e x0 ⟨rfl, hb0⟩
    go_wp2_with (first | (go_at_call 43; refine (risNone_any _ (by assumption) (by assumption) _).mono ?_; rintro e w' ⟨rfl, rfl⟩) | (go_at_call 42; refine (rabs_any _ (by assumption) (by assumption) _).mono ?_; rintro e w' ⟨rfl, rfl⟩) | (go_at_call 41; refine (rbelow_any _ (by assumption) (by assumption) _).mono ?_; rintro e w' ⟨rfl, rfl⟩))
    refine (amount_any ma (by omega) _).mono ?_
    rintro e x1 ⟨⟨v1, rfl, hv1⟩, hb1⟩
    have hbel1 := bl_tr hb0 hb1
    go_wp2_with (first | (go_at_call 43; refine (risNone_any _ (by assumption) (by assumption) _).mono ?_; rintro e w' ⟨rfl, rfl⟩) | (go_at_call 42; refine (rabs_any _ (by assumption) (by assumption) _).mono ?_; rintro e w' ⟨rfl, rfl⟩) | (go_at_call 41; refine (rbelow_any _ (by assumption) (by assumption) _).mono ?_; rintro e w' ⟨rfl, rfl⟩))
    refine (amount_any mb (by omega) _).mono ?_
    rintro e x2 ⟨⟨v2, rfl, hv2⟩, hb2⟩
    have hbel2 := bl_tr hbel1 hb2
    go_wp2_with fail
    refine (times_any v1 v2 _ _ 12 12 (by omega) (by omega) _ (hv1.below hb2) hv2).mono ?_
    rintro e x3 ⟨⟨v3, rfl, hv3⟩, hb3⟩
    have hbel3 := bl_tr hbel2 hb3
    go_wp2_with (first | (go_at_call 43; refine (risNone_any _ (by assumption) (by assumption) _).mono ?_; rintro e w' ⟨rfl, rfl⟩) | (go_at_call 42; refine (rabs_any _ (by assumption) (by assumption) _).mono ?_; rintro e w' ⟨rfl, rfl⟩) | (go_at_call 41; refine (rbelow_any _ (by assumption) (by assumption) _).mono ?_; rintro e w' ⟨rfl, rfl⟩))
    refine (amount_any mc (by omega) _).mono ?_
    rintro e x4 ⟨⟨v4, rfl, hv4⟩, hb4⟩
    have hbel4 := bl_tr hbel3 hb4
    go_wp2_with fail
    refine (twice_any v4 _ 12 149 (by omega) (by omega) _ hv4).mono ?_
    rintro e x5 ⟨⟨v5, rfl, hv5⟩, hb5⟩
    have hbel5 := bl_tr hbel4 hb5
    go_wp2_with fail
    refine (of_any 1 (by omega) (by omega) _).mono ?_
    rintro e x6 ⟨⟨v6, rfl, hv6⟩, hb6⟩
    have hbel6 := bl_tr hbel5 hb6
    go_wp2_with fail
    refine (twice_any v6 _ 2 149 (by omega) (by omega) _ hv6).mono ?_
    rintro e x7 ⟨⟨v7, rfl, hv7⟩, hb7⟩
    have hbel7 := bl_tr hbel6 hb7
    have hX := (hv3.below (bl_tr (bl_tr (bl_tr hb4 hb5) hb6) hb7)).le (show 12 + 12 ≤ 24 by omega)
    have hY := (hv5.below (bl_tr hb6 hb7)).le (show 149 / 32 + 12 + 1 ≤ 24 by omega)
    have hU := (hv7.cast (show (1 : Int).toNat * 2 ^ 149 = 2 ^ 149 by simp)).le (show 149 / 32 + 2 + 1 ≤ 24 by omega)
    clear hv1 hv2 hv3 hv4 hv5 hv6 hv7 hb0 hb1 hb2 hb3 hb4 hb5 hb6 hb7 hbel1 hbel2 hbel3 hbel4 hbel5 hbel6
    have HX := hide hX
    have HY := hide hY
    have HU := hide hU
    clear hX hY hU
    go_wp2_with (first | (go_at_call 43; refine (risNone_any _ (by assumption) (by assumption) _).mono ?_; rintro e w' ⟨rfl, rfl⟩) | (go_at_call 42; refine (rabs_any _ (by assumption) (by assumption) _).mono ?_; rintro e w' ⟨rfl, rfl⟩) | (go_at_call 41; refine (rbelow_any _ (by assumption) (by assumption) _).mono ?_; rintro e w' ⟨rfl, rfl⟩))
    refine (compare_any _ _ _ _ 24 (by omega) _ (unhide HX) (unhide HY)).mono ?_
    rintro e x8 ⟨rfl, hb8⟩
    have hbel8 := bl_tr hbel7 hb8
    rcases Nat.lt_trichotomy (Flt.A ma * Flt.A mb) (Flt.A mc * 2 ^ 149) with hc | hc | hc
    · have e : cmpN (Flt.A ma * Flt.A mb) (Flt.A mc * 2 ^ 149) = -1 := by unfold cmpN; rw [if_pos hc]
      rw [e]
      have HC := hide hc
      clear hc e
      go_wp2_with (first | (go_at_call 43; refine (risNone_any _ (by assumption) (by assumption) _).mono ?_; rintro e w' ⟨rfl, rfl⟩) | (go_at_call 42; refine (rabs_any _ (by assumption) (by assumption) _).mono ?_; rintro e w' ⟨rfl, rfl⟩) | (go_at_call 41; refine (rbelow_any _ (by assumption) (by assumption) _).mono ?_; rintro e w' ⟨rfl, rfl⟩))
      refine (minus_any _ _ _ _ 24 (by omega) _ ((unhide HY).below hb8) ((unhide HX).below hb8) (unhide HC)).mono ?_
      rintro e x9 ⟨⟨v9, rfl, hv9⟩, hb9⟩
      have hbel9 := bl_tr hbel8 hb9
      go_wp2_with fail
      refine (rounded_any way (!sg) v9 v7 _ (2 ^ 149) 25 (by omega) (Nat.two_pow_pos _) _ (hv9.le (by omega)) (((unhide HU).below (bl_tr hb8 hb9)).le (by omega))).mono ?_
      rintro e x10 ⟨⟨r, rfl, hr⟩, hb10⟩
      go_wp2_with fail
      go_ret
      refine ⟨⟨_, rfl, ?_⟩, bl_tr hbel9 hb10⟩
      rw [unhide HNC] at hr
      exact ⟨fun h => absurd h (unhide HS), fun h => absurd h (unhide HS), fun _ h => by have := unhide HC; omega, fun _ h => by have := unhide HC; omega, fun _ _ => ⟨r, by rw [unhide HNC], hr⟩⟩
    · have e : cmpN (Flt.A ma * Flt.A mb) (Flt.A mc * 2 ^ 149) = 0 := by rw [hc]; unfold cmpN; simp
      rw [e]
      have HC := hide hc
      clear hc e
      by_cases hw : way = 2
      · have hw' : (way == 2) = true := by simp [hw]
        have HW := hide hw
        clear hw
        go_wp2_with (first | (go_at_call 43; refine (risNone_any _ (by assumption) (by assumption) _).mono ?_; rintro e w' ⟨rfl, rfl⟩) | (go_at_call 42; refine (rabs_any _ (by assumption) (by assumption) _).mono ?_; rintro e w' ⟨rfl, rfl⟩) | (go_at_call 41; refine (rbelow_any _ (by assumption) (by assumption) _).mono ?_; rintro e w' ⟨rfl, rfl⟩))
        go_ret
        refine ⟨⟨_, rfl, ?_⟩, hbel8⟩
        refine ⟨fun h => absurd h (unhide HS), fun h => absurd h (unhide HS), fun _ _ => ?_, fun _ h => by have := unhide HC; omega, fun _ h => by have := unhide HC; omega⟩
        rw [unhide HW]; rfl
      · have hw' : (way == 2) = false := by simp [hw]
        have HW := hide hw
        clear hw
        go_wp2_with (first | (go_at_call 43; refine (risNone_any _ (by assumption) (by assumption) _).mono ?_; rintro e w' ⟨rfl, rfl⟩) | (go_at_call 42; refine (rabs_any _ (by assumption) (by assumption) _).mono ?_; rintro e w' ⟨rfl, rfl⟩) | (go_at_call 41; refine (rbelow_any _ (by assumption) (by assumption) _).mono ?_; rintro e w' ⟨rfl, rfl⟩))
        go_ret
        refine ⟨⟨_, rfl, ?_⟩, hbel8⟩
        refine ⟨fun h => absurd h (unhide HS), fun h => absurd h (unhide HS), fun _ _ => ?_, fun _ h => by have := unhide HC; omega, fun _ h => by have := unhide HC; omega⟩
        simp [unhide HW, Flt.signBit]
    · have e : cmpN (Flt.A ma * Flt.A mb) (Flt.A mc * 2 ^ 149) = 1 := by unfold cmpN; rw [if_neg (by omega), if_pos hc]
      rw [e]
      have HC := hide hc
      clear hc e
      go_wp2_with (first | (go_at_call 43; refine (risNone_any _ (by assumption) (by assumption) _).mono ?_; rintro e w' ⟨rfl, rfl⟩) | (go_at_call 42; refine (rabs_any _ (by assumption) (by assumption) _).mono ?_; rintro e w' ⟨rfl, rfl⟩) | (go_at_call 41; refine (rbelow_any _ (by assumption) (by assumption) _).mono ?_; rintro e w' ⟨rfl, rfl⟩))
      refine (minus_any _ _ _ _ 24 (by omega) _ ((unhide HX).below hb8) ((unhide HY).below hb8) (unhide HC)).mono ?_
      rintro e x9 ⟨⟨v9, rfl, hv9⟩, hb9⟩
      have hbel9 := bl_tr hbel8 hb9
      go_wp2_with fail
      refine (rounded_any way sg v9 v7 _ (2 ^ 149) 25 (by omega) (Nat.two_pow_pos _) _ (hv9.le (by omega)) (((unhide HU).below (bl_tr hb8 hb9)).le (by omega))).mono ?_
      rintro e x10 ⟨⟨r, rfl, hr⟩, hb10⟩
      go_wp2_with fail
      go_ret
      refine ⟨⟨_, rfl, ?_⟩, bl_tr hbel9 hb10⟩
      exact ⟨fun h => absurd h (unhide HS), fun h => absurd h (unhide HS), fun _ h => by have := unhide HC; omega, fun _ _ => ⟨r, rfl, hr⟩, fun _ h => by have := unhide HC; omega⟩
end Go.Proofs.Ytblfbopdphnmoaa
