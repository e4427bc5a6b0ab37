/-
  Walks of the document's answer to roots.
-/
import Derived.Test.YtblfbopdphnmoaaWkT
import Derived.Test.YtblfbopdphnmoaaFltK
namespace Go.Proofs.Ytblfbopdphnmoaa
open Go.RowKit
set_option linter.unusedVariables false

set_option maxRecDepth 100000 in
set_option maxHeartbeats 1000000 in
theorem square_any (a : Value) (N K : Nat) (hK : K ≤ 1000) (w : World) (ha : Num w a N K) :
    Calls Try.prog 57 #[a] w fun e w' => (∃ v, e = .returned v ∧ Num w' v (N * N) (K + K)) ∧ Below w.heap.size w w' := by
  have HA := hide ha
  clear ha
  go_enter Try.func57, Try.ntmps57
  go_wp2_with fail
  refine (times_any a a N N K K hK hK _ (unhide HA) (unhide HA)).mono ?_
  rintro e x1 ⟨⟨v1, rfl, hv1⟩, hb1⟩
  go_wp2_with fail
  go_ret
  exact ⟨⟨v1, rfl, hv1⟩, hb1⟩

theorem root_end (n : Nat) (m : Nat) (hn : n < Flt.A 2139095040 * Flt.A 2139095040) (h1 : m + 1 ≤ 2139095040) (h2 : Flt.A m * Flt.A m ≤ n) (h3 : m + 1 = 2139095040 ∨ n < Flt.A (m + 1) * Flt.A (m + 1)) : Flt.IsRt n m := by
  refine ⟨by omega, h2, ?_⟩
  rcases h3 with h | h
  · rw [h]; exact hn
  · exact h
theorem root_bound (m : Nat) (h : m < 2139095040) : Flt.A m * 2 ^ 149 < Flt.A 2139095040 * Flt.A 2139095040 := by
  have h1 := Flt.A_strict h
  have h2 : (2 : Nat) ^ 149 ≤ Flt.A 2139095040 := by
    rw [Flt.A_inf]
    have : (2 : Nat) ^ 149 ≤ 2 ^ 254 := Nat.pow_le_pow_right (by decide) (by omega)
    omega
  have p : 0 < (2 : Nat) ^ 149 := Nat.two_pow_pos _
  exact Nat.lt_of_lt_of_le (Nat.mul_lt_mul_of_pos_right h1 p) (Nat.mul_le_mul_left _ h2)

set_option maxRecDepth 100000 in
set_option maxHeartbeats 2000000 in
theorem rsqrtBy_fin (way : Int) (ma n : Nat) (h1 : ma < 2139095040) (hz : ma ≠ 0) (hn : Flt.A ma * 2 ^ 149 = n) (w : World) :
    Calls Try.prog 15 #[.int .i64 way, .int .u32 ma] w fun e w' => (∃ r : Nat, e = .returned (.int .u32 (r : Int)) ∧ Flt.RT way n r) ∧ Below w.heap.size w w' := by
  have h0 : (0 : Int) ≤ (ma : Int) := by omega
  have g1 : (ma : Int) < 4294967296 := by omega
  have n1 : Flt.isNaN (ma : Int) = false := by unfold Flt.isNaN; simp; omega
  have ea : Flt.absF (ma : Int) = (ma : Int) := by unfold Flt.absF; omega
  have es : Flt.sgn (ma : Int) = false := by unfold Flt.sgn; simp; omega
  have i1 : ((ma : Int) == 2139095040) = false := by simp; omega
  have i2 : ((ma : Int) == 0) = false := by simp; omega
  have hroot := root_bound ma (by omega)
  rw [hn] at hroot
  have HROOT := hide hroot
  have HNN := hide hn
  clear hroot hz hn
  go_enter Try.func15, Try.ntmps15
  go_wp2_with (first | (go_at_call 43; refine (risNone_any _ h0 g1 _).mono ?_; rintro e w' ⟨rfl, rfl⟩) | (go_at_call 42; refine (rabs_any _ h0 g1 _).mono ?_; rintro e w' ⟨rfl, rfl⟩) | (go_at_call 41; refine (rbelow_any _ h0 g1 _).mono ?_; rintro e w' ⟨rfl, rfl⟩))
  refine (amount_any ma (by omega) _).mono ?_
  rintro e x1 ⟨⟨v1, rfl, hv1⟩, hb1⟩
  go_wp2_with fail
  refine (twice_any v1 _ 12 149 (by omega) (by omega) _ hv1).mono ?_
  rintro e x2 ⟨⟨v2, rfl, hv2⟩, hb2⟩
  have hbel2 := bl_tr hb1 hb2
  rw [unhide HNN] at hv2
  have HN := hide (hv2.le (show 149 / 32 + 12 + 1 ≤ 24 by omega))
  clear hv1 hv2 hb1 hb2 h1 i1 i2 n1 ea es g1 h0
  go_wp2_with fail
  go_loopw [6, 7] (fun lo hi wr => ∃ l h : Nat, lo = .int .u32 l ∧ hi = .int .u32 h ∧ l < h ∧ (h : Int) ≤ 2139095040 ∧ Hid (Flt.A l * Flt.A l ≤ n) ∧ Hid (h = 2139095040 ∨ n < Flt.A h * Flt.A h) ∧ Below x2.heap.size x2 wr)
    (fun lo hi _ => (intOf hi).toNat - (intOf lo).toNat)
  case atStart => exact ⟨0, 2139095040, rfl, rfl, by omega, by omega, hide (by rw [Flt.A_zero]; omega), hide (.inl rfl), Below.refl _ _⟩
  case round =>
    obtain ⟨l, h, rfl, rfl, hlt, hh, HL, HH, hbel⟩ := hrel
    by_cases hgo : 1 < h - l
    · have hgi : (1 : Int) < (h : Int) - (l : Int) := by omega
      obtain ⟨mm, hmm⟩ : ∃ mm, l + (h - l) / 2 = mm := ⟨_, rfl⟩
      have hmi : (l : Int) + ((h : Int) - (l : Int)) / 2 = (mm : Int) := by omega
      have m1 : l < mm := by omega
      have m2 : mm < h := by omega
      have HMM := hide hmm
      clear hmm
      go_wp2_with fail
      refine (amount_any mm (by omega) _).mono ?_
      rintro e y1 ⟨⟨u1, rfl, hu1⟩, hd1⟩
      go_wp2_with fail
      refine (square_any u1 _ 12 (by omega) _ hu1).mono ?_
      rintro e y2 ⟨⟨u2, rfl, hu2⟩, hd2⟩
      go_wp2_with fail
      refine (compare_any u2 v2 _ n 24 (by omega) _ (hu2.le (by omega)) ((unhide HN).below (bl_tr (bl_tr hbel hd1) hd2))).mono ?_
      rintro e y3 ⟨rfl, hd3⟩
      have hbel3 := bl_tr (bl_tr (bl_tr hbel hd1) hd2) hd3
      by_cases hc : Flt.A mm * Flt.A mm ≤ n
      · have hcm := (cmpN_le (Flt.A mm * Flt.A mm) n).2 hc
        generalize cmpN (Flt.A mm * Flt.A mm) n = c at hcm ⊢
        have HC := hide hc
        clear hc
        go_wp2_with fail
        go_roundw
        case rel => exact ⟨mm, h, rfl, rfl, m2, hh, HC, HH, hbel3⟩
        case measure => simp [intOf]; omega
      · have hcm : ¬ cmpN (Flt.A mm * Flt.A mm) n ≤ 0 := fun h => hc ((cmpN_le _ _).1 h)
        generalize cmpN (Flt.A mm * Flt.A mm) n = c at hcm ⊢
        have HC := hide hc
        clear hc
        go_wp2_with fail
        go_roundw
        case rel => exact ⟨l, mm, rfl, rfl, m1, by omega, HL, hide (.inr (by have := unhide HC; omega)), hbel3⟩
        case measure => simp [intOf]; omega
    · have hgi : ¬ (1 : Int) < (h : Int) - (l : Int) := by omega
      have hE : h = l + 1 := by omega
      have hrt : Flt.IsRt n l := root_end n l (unhide HROOT) (by omega) (unhide HL) (by have := unhide HH; rw [hE] at this; exact this)
      have hl2 : (l : Int) ≤ 2139095039 := by omega
      have HRT := hide hrt
      clear hrt
      go_wp2_with fail
      clear hgi hE hgo hh hlt
      refine (amount_any l (by omega) _).mono ?_
      rintro e y1 ⟨⟨u1, rfl, hu1⟩, hd1⟩
      go_wp2_with fail
      refine (square_any u1 _ 12 (by omega) _ hu1).mono ?_
      rintro e y2 ⟨⟨u2, rfl, hu2⟩, hd2⟩
      go_wp2_with fail
      refine (compare_any u2 v2 _ n 24 (by omega) _ (hu2.le (by omega)) ((unhide HN).below (bl_tr (bl_tr hbel hd1) hd2))).mono ?_
      rintro e y3 ⟨rfl, hd3⟩
      have hbelC0 := bl_tr (bl_tr (bl_tr hbel hd1) hd2) hd3
      have hbelC := bl_tr hbel2 hbelC0
      have hcz := cmpN_eq (Flt.A l * Flt.A l) n
      generalize cmpN (Flt.A l * Flt.A l) n = c at hcz ⊢
      have HCZ := hide hcz
      clear hcz hu1 hu2 hd1 hd2 hd3
      by_cases hx : c = 0
      · have hx' : (c == 0) = true := by simp [hx]
        have HA := hide ((unhide HCZ).1 hx)
        clear hx
        go_wp2_with fail
        go_ret
        exact ⟨⟨l, ret_int rfl, l, unhide HRT, by unfold Flt.pickRt; rw [if_pos (.inl (unhide HA))]⟩, hbelC⟩
      · have hx' : (c == 0) = false := by simp [hx]
        have HA := hide (fun h => hx ((unhide HCZ).2 h))
        clear hx
        by_cases w2 : way = 2
        · have w2' : (way == 2) = true := by simp [w2]
          have HW2 := hide w2
          clear w2
          go_wp2_with fail
          go_ret
          exact ⟨⟨l, ret_int rfl, l, unhide HRT, by unfold Flt.pickRt; rw [if_pos (.inr (unhide HW2))]⟩, hbelC⟩
        · have w2' : (way == 2) = false := by simp [w2]
          have HW2 := hide w2
          clear w2
          by_cases w1 : way = 1
          · have w1' : (way == 1) = true := by simp [w1]
            have HW1 := hide w1
            clear w1
            go_wp2_with fail
            go_ret
            exact ⟨⟨l + 1, ret_int (by omega), l, unhide HRT, by unfold Flt.pickRt; rw [if_neg (fun h => h.elim (unhide HA) (unhide HW2)), if_pos (unhide HW1)]⟩, hbelC⟩
          · have w1' : (way == 1) = false := by simp [w1]
            have HW1 := hide w1
            clear w1
            go_wp2_with fail
            refine (amount_any l (by omega) _).mono ?_
            rintro e y4 ⟨⟨u4, rfl, hu4⟩, hd4⟩
            have hbelD := bl_tr hbelC hd4
            go_wp2_with fail
            rw [show (l : Int) + 1 = ((l + 1 : Nat) : Int) by omega]
            refine (amount_any (l + 1) (by omega) _).mono ?_
            rintro e y5 ⟨⟨u5, rfl, hu5⟩, hd5⟩
            have hbelE := bl_tr hbelD hd5
            go_wp2_with fail
            refine (plus_any u4 u5 _ _ 12 (by omega) _ (hu4.below hd5) hu5 (by have := Flt.A_lt_succ l; omega)).mono ?_
            rintro e y6 ⟨⟨u6, rfl, hu6⟩, hd6⟩
            have hbelF := bl_tr hbelE hd6
            go_wp2_with fail
            refine (square_any u6 _ 13 (by omega) _ hu6).mono ?_
            rintro e y7 ⟨⟨u7, rfl, hu7⟩, hd7⟩
            have hbelG := bl_tr hbelF hd7
            go_wp2_with fail
            refine (twice_any v2 n 24 2 (by omega) (by omega) _ ((unhide HN).below (bl_tr (bl_tr (bl_tr (bl_tr hbelC0 hd4) hd5) hd6) hd7))).mono ?_
            rintro e y8 ⟨⟨u8, rfl, hu8⟩, hd8⟩
            have hbelH := bl_tr hbelG hd8
            go_wp2_with fail
            refine (compare_any u7 u8 _ _ 40 (by omega) _ ((hu7.below hd8).le (by omega)) (hu8.le (by omega))).mono ?_
            rintro e y9 ⟨rfl, hd9⟩
            have hbelI := bl_tr hbelH hd9
            have hc1 := cmpN_lt ((Flt.A l + Flt.A (l + 1)) * (Flt.A l + Flt.A (l + 1))) (n * 2 ^ 2)
            have hc2 := cmpN_eq ((Flt.A l + Flt.A (l + 1)) * (Flt.A l + Flt.A (l + 1))) (n * 2 ^ 2)
            generalize cmpN ((Flt.A l + Flt.A (l + 1)) * (Flt.A l + Flt.A (l + 1))) (n * 2 ^ 2) = d at hc1 hc2 ⊢
            rw [show n * 2 ^ 2 = n * 4 by omega] at hc1 hc2
            have HC1 := hide hc1
            have HC2 := hide hc2
            clear hc1 hc2 hu4 hu5 hu6 hu7 hu8 hd4 hd5 hd6 hd7 hd8 hd9
            have pk : ∀ u : Prop, ∀ [Decidable u], (u ↔ ((Flt.A l + Flt.A (l + 1)) * (Flt.A l + Flt.A (l + 1)) < n * 4 ∨ ((Flt.A l + Flt.A (l + 1)) * (Flt.A l + Flt.A (l + 1)) = n * 4 ∧ l % 2 = 1))) → Flt.pickRt way n l = if u then l + 1 else l := by
              intro u _ hu
              unfold Flt.pickRt
              rw [if_neg (fun h => h.elim (unhide HA) (unhide HW2)), if_neg (unhide HW1)]
              by_cases hq : u
              · rw [if_pos hq, if_pos (hu.1 hq)]
              · rw [if_neg hq, if_neg (fun h => hq (hu.2 h))]
            have PK := hide pk
            clear pk
            rcases Int.lt_trichotomy d 0 with hd | hd | hd
            · go_wp2_with fail
              go_ret
              refine ⟨⟨l + 1, ret_int (by omega), l, unhide HRT, ?_⟩, hbelI⟩
              rw [unhide PK True (by simp; exact .inl ((unhide HC1).1 hd))]; simp
            · have hd0 : (d == 0) = true := by simp [hd]
              have hd1 : ¬ d < 0 := by omega
              have HD := hide hd
              clear hd
              by_cases hodd : l % 2 = 1
              · have ho : ((l : Int) % 2 == 1) = true := by simp; omega
                go_wp2_with fail
                go_ret
                refine ⟨⟨l + 1, ret_int (by omega), l, unhide HRT, ?_⟩, hbelI⟩
                rw [unhide PK True (by simp; exact .inr ⟨(unhide HC2).1 (unhide HD), hodd⟩)]; simp
              · have ho : ((l : Int) % 2 == 1) = false := by simp; omega
                go_wp2_with fail
                go_ret
                refine ⟨⟨l, ret_int rfl, l, unhide HRT, ?_⟩, hbelI⟩
                rw [unhide PK False ⟨fun h => h.elim, fun h => ?_⟩]; simp
                rcases h with h | ⟨_, h⟩
                · have := (unhide HC2).1 (unhide HD); omega
                · exact hodd h
            · have hd0 : (d == 0) = false := by simp; omega
              have hd1 : ¬ d < 0 := by omega
              go_wp2_with fail
              go_ret
              refine ⟨⟨l, ret_int rfl, l, unhide HRT, ?_⟩, hbelI⟩
              rw [unhide PK False ⟨fun h => h.elim, fun h => ?_⟩]; simp
              rcases h with h | ⟨h, _⟩
              · have := (unhide HC1).2 h; omega
              · have := (unhide HC2).2 h; omega
end Go.Proofs.Ytblfbopdphnmoaa
