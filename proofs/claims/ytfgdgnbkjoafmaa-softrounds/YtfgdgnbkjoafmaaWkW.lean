/-
  Walks of the document's answer to Round.
-/
import Derived.Test.YtfgdgnbkjoafmaaWkV
namespace Go.Proofs.Ytfgdgnbkjoafmaa
open Go.RowKit
set_option linter.unusedVariables false

theorem pow_pos_one (k : Nat) : 0 < 1 * 2 ^ k := by have := Nat.two_pow_pos k; omega

set_option maxRecDepth 100000 in
set_option maxHeartbeats 400000 in
theorem rround_x_high (way : Int) (neg : Bool) (exp s : Int) (k : Nat) (h0 : 0 ≤ s) (h1 : s < 18446744073709551616) (he : 300 < exp) (hk : k = 449) (w : World) :
    Calls Try.prog 11 #[.int .i64 way, .bool neg, .int .i64 exp, .int .u64 s, .bool false] w fun e w' => (∃ r : Nat, e = .returned (.int .u32 (Flt.signBit neg + (r : Int))) ∧ Flt.RN way neg (s.toNat * 2 ^ k) ((1 : Int).toNat) r) ∧ Below w.heap.size w w' := by
  cases hs0 : (s == 0)
  all_goals
    go_enter Try.func11, Try.ntmps11
    go_wp2_with fail
    refine (of_any s h0 h1 _).mono ?_
    rintro e x1 ⟨⟨v1, rfl, hv1⟩, hb1⟩
    go_wp2_with fail
    refine (of_any 1 (by omega) (by omega) _).mono ?_
    rintro e x2 ⟨⟨v2, rfl, hv2⟩, hb2⟩
    have hbel2 := bl_tr hb1 hb2
    have hp := hv1.below hb2
    have hP := hp.le (show 2 ≤ 6 by omega)
    have hQ := hv2.le (show 2 ≤ 6 by omega)
    have hbelP := hbel2
    go_wp2_with fail
    rw [show (449 : Int) = ((k : Nat) : Int) by omega]
    refine (twice_any v1 _ 6 k (by omega) (by omega) _ hP).mono ?_
    rintro e x7 ⟨⟨v7, rfl, hv7⟩, hb7⟩
    have hbel7 := bl_tr hbelP hb7
    go_wp2_with fail
    refine (rounded_any way neg v7 v2 _ _ 40 (by omega) (by first | exact pow_pos_one _ | decide) _ (hv7.le (by omega)) ((hQ.below hb7).le (by omega))).mono ?_
    rintro e x8 ⟨⟨r, rfl, hr⟩, hb8⟩
    go_wp2_with fail
    go_ret
    exact ⟨⟨r, rfl, hr⟩, bl_tr hbel7 hb8⟩

set_option maxRecDepth 100000 in
set_option maxHeartbeats 400000 in
theorem rround_x_up (way : Int) (neg : Bool) (exp s : Int) (k : Nat) (h0 : 0 ≤ s) (h1 : s < 18446744073709551616) (he : -149 ≤ exp) (he2 : exp ≤ 300) (hk : (k : Int) = exp + 149) (w : World) :
    Calls Try.prog 11 #[.int .i64 way, .bool neg, .int .i64 exp, .int .u64 s, .bool false] w fun e w' => (∃ r : Nat, e = .returned (.int .u32 (Flt.signBit neg + (r : Int))) ∧ Flt.RN way neg (s.toNat * 2 ^ k) ((1 : Int).toNat) r) ∧ Below w.heap.size w w' := by
  cases hs0 : (s == 0)
  all_goals
    go_enter Try.func11, Try.ntmps11
    go_wp2_with fail
    refine (of_any s h0 h1 _).mono ?_
    rintro e x1 ⟨⟨v1, rfl, hv1⟩, hb1⟩
    go_wp2_with fail
    refine (of_any 1 (by omega) (by omega) _).mono ?_
    rintro e x2 ⟨⟨v2, rfl, hv2⟩, hb2⟩
    have hbel2 := bl_tr hb1 hb2
    have hp := hv1.below hb2
    have hP := hp.le (show 2 ≤ 6 by omega)
    have hQ := hv2.le (show 2 ≤ 6 by omega)
    have hbelP := hbel2
    go_wp2_with fail
    rw [show (exp + 149 : Int) = ((k : Nat) : Int) by omega]
    refine (twice_any v1 _ 6 k (by omega) (by omega) _ hP).mono ?_
    rintro e x7 ⟨⟨v7, rfl, hv7⟩, hb7⟩
    have hbel7 := bl_tr hbelP hb7
    go_wp2_with fail
    refine (rounded_any way neg v7 v2 _ _ 40 (by omega) (by first | exact pow_pos_one _ | decide) _ (hv7.le (by omega)) ((hQ.below hb7).le (by omega))).mono ?_
    rintro e x8 ⟨⟨r, rfl, hr⟩, hb8⟩
    go_wp2_with fail
    go_ret
    exact ⟨⟨r, rfl, hr⟩, bl_tr hbel7 hb8⟩

set_option maxRecDepth 100000 in
set_option maxHeartbeats 400000 in
theorem rround_x_down (way : Int) (neg : Bool) (exp s : Int) (k : Nat) (h0 : 0 ≤ s) (h1 : s < 18446744073709551616) (he : -700 ≤ exp) (he2 : exp < -149) (hk : (k : Int) = -149 - exp) (w : World) :
    Calls Try.prog 11 #[.int .i64 way, .bool neg, .int .i64 exp, .int .u64 s, .bool false] w fun e w' => (∃ r : Nat, e = .returned (.int .u32 (Flt.signBit neg + (r : Int))) ∧ Flt.RN way neg (s.toNat) ((1 : Int).toNat * 2 ^ k) r) ∧ Below w.heap.size w w' := by
  cases hs0 : (s == 0)
  all_goals
    go_enter Try.func11, Try.ntmps11
    go_wp2_with fail
    refine (of_any s h0 h1 _).mono ?_
    rintro e x1 ⟨⟨v1, rfl, hv1⟩, hb1⟩
    go_wp2_with fail
    refine (of_any 1 (by omega) (by omega) _).mono ?_
    rintro e x2 ⟨⟨v2, rfl, hv2⟩, hb2⟩
    have hbel2 := bl_tr hb1 hb2
    have hp := hv1.below hb2
    have hP := hp.le (show 2 ≤ 6 by omega)
    have hQ := hv2.le (show 2 ≤ 6 by omega)
    have hbelP := hbel2
    go_wp2_with fail
    rw [show (-149 - exp : Int) = ((k : Nat) : Int) by omega]
    refine (twice_any v2 _ 6 k (by omega) (by omega) _ hQ).mono ?_
    rintro e x7 ⟨⟨v7, rfl, hv7⟩, hb7⟩
    have hbel7 := bl_tr hbelP hb7
    go_wp2_with fail
    refine (rounded_any way neg v1 v7 _ _ 40 (by omega) (by first | exact pow_pos_one _ | exact Nat.mul_pos (pow_pos_one _) (Nat.two_pow_pos _)) _ ((hP.below hb7).le (by omega)) (hv7.le (by omega))).mono ?_
    rintro e x8 ⟨⟨r, rfl, hr⟩, hb8⟩
    go_wp2_with fail
    go_ret
    exact ⟨⟨r, rfl, hr⟩, bl_tr hbel7 hb8⟩

set_option maxRecDepth 100000 in
set_option maxHeartbeats 400000 in
theorem rround_x_low (way : Int) (neg : Bool) (exp s : Int) (k : Nat) (h0 : 0 ≤ s) (h1 : s < 18446744073709551616) (he : exp < -700) (hk : k = 551) (w : World) :
    Calls Try.prog 11 #[.int .i64 way, .bool neg, .int .i64 exp, .int .u64 s, .bool false] w fun e w' => (∃ r : Nat, e = .returned (.int .u32 (Flt.signBit neg + (r : Int))) ∧ Flt.RN way neg (s.toNat) ((1 : Int).toNat * 2 ^ k) r) ∧ Below w.heap.size w w' := by
  cases hs0 : (s == 0)
  all_goals
    go_enter Try.func11, Try.ntmps11
    go_wp2_with fail
    refine (of_any s h0 h1 _).mono ?_
    rintro e x1 ⟨⟨v1, rfl, hv1⟩, hb1⟩
    go_wp2_with fail
    refine (of_any 1 (by omega) (by omega) _).mono ?_
    rintro e x2 ⟨⟨v2, rfl, hv2⟩, hb2⟩
    have hbel2 := bl_tr hb1 hb2
    have hp := hv1.below hb2
    have hP := hp.le (show 2 ≤ 6 by omega)
    have hQ := hv2.le (show 2 ≤ 6 by omega)
    have hbelP := hbel2
    go_wp2_with fail
    rw [show (551 : Int) = ((k : Nat) : Int) by omega]
    refine (twice_any v2 _ 6 k (by omega) (by omega) _ hQ).mono ?_
    rintro e x7 ⟨⟨v7, rfl, hv7⟩, hb7⟩
    have hbel7 := bl_tr hbelP hb7
    go_wp2_with fail
    refine (rounded_any way neg v1 v7 _ _ 40 (by omega) (by first | exact pow_pos_one _ | exact Nat.mul_pos (pow_pos_one _) (Nat.two_pow_pos _)) _ ((hP.below hb7).le (by omega)) (hv7.le (by omega))).mono ?_
    rintro e x8 ⟨⟨r, rfl, hr⟩, hb8⟩
    go_wp2_with fail
    go_ret
    exact ⟨⟨r, rfl, hr⟩, bl_tr hbel7 hb8⟩

set_option maxRecDepth 100000 in
set_option maxHeartbeats 400000 in
theorem rround_m_high (way : Int) (neg : Bool) (exp s : Int) (k : Nat) (h0 : 0 ≤ s) (h1 : s < 18446744073709551616) (hs : 1 ≤ s) (he : 300 < exp) (hk : k = 449) (w : World) :
    Calls Try.prog 11 #[.int .i64 way, .bool neg, .int .i64 exp, .int .u64 s, .bool true] w fun e w' => (∃ r : Nat, e = .returned (.int .u32 (Flt.signBit neg + (r : Int))) ∧ Flt.RN way neg ((s.toNat * 2 ^ 80 + (1 : Int).toNat) * 2 ^ k) ((1 : Int).toNat * 2 ^ 80) r) ∧ Below w.heap.size w w' := by
  have hs0 : (s == 0) = false := by simp; omega
  go_enter Try.func11, Try.ntmps11
  go_wp2_with fail
  refine (of_any s h0 h1 _).mono ?_
  rintro e x1 ⟨⟨v1, rfl, hv1⟩, hb1⟩
  go_wp2_with fail
  refine (of_any 1 (by omega) (by omega) _).mono ?_
  rintro e x2 ⟨⟨v2, rfl, hv2⟩, hb2⟩
  have hbel2 := bl_tr hb1 hb2
  have hp := hv1.below hb2
  go_wp2_with fail
  refine (twice_any v1 _ 2 80 (by omega) (by omega) _ hp).mono ?_
  rintro e x3 ⟨⟨v3, rfl, hv3⟩, hb3⟩
  have hbel3 := bl_tr hbel2 hb3
  go_wp2_with fail
  refine (of_any 1 (by omega) (by omega) _).mono ?_
  rintro e x4 ⟨⟨v4, rfl, hv4⟩, hb4⟩
  have hbel4 := bl_tr hbel3 hb4
  go_wp2_with fail
  refine (plus_any v3 v4 _ _ 5 (by omega) _ ((hv3.below hb4).le (by omega)) (hv4.le (by omega)) (by simp)).mono ?_
  rintro e x5 ⟨⟨v5, rfl, hv5⟩, hb5⟩
  have hbel5 := bl_tr hbel4 hb5
  go_wp2_with fail
  refine (twice_any v2 _ 2 80 (by omega) (by omega) _ (hv2.below (bl_tr (bl_tr hb3 hb4) hb5))).mono ?_
  rintro e x6 ⟨⟨v6, rfl, hv6⟩, hb6⟩
  have hbel6 := bl_tr hbel5 hb6
  have hP := (hv5.below hb6).le (show 6 ≤ 6 by omega)
  have hQ := hv6.le (show 80 / 32 + 2 + 1 ≤ 6 by omega)
  have hbelP := hbel6
  go_wp2_with fail
  rw [show (449 : Int) = ((k : Nat) : Int) by omega]
  refine (twice_any v5 _ 6 k (by omega) (by omega) _ hP).mono ?_
  rintro e x7 ⟨⟨v7, rfl, hv7⟩, hb7⟩
  have hbel7 := bl_tr hbelP hb7
  go_wp2_with fail
  refine (rounded_any way neg v7 v6 _ _ 40 (by omega) (by first | exact pow_pos_one _ | decide) _ (hv7.le (by omega)) ((hQ.below hb7).le (by omega))).mono ?_
  rintro e x8 ⟨⟨r, rfl, hr⟩, hb8⟩
  go_wp2_with fail
  go_ret
  exact ⟨⟨r, rfl, hr⟩, bl_tr hbel7 hb8⟩

set_option maxRecDepth 100000 in
set_option maxHeartbeats 400000 in
theorem rround_m_up (way : Int) (neg : Bool) (exp s : Int) (k : Nat) (h0 : 0 ≤ s) (h1 : s < 18446744073709551616) (hs : 1 ≤ s) (he : -149 ≤ exp) (he2 : exp ≤ 300) (hk : (k : Int) = exp + 149) (w : World) :
    Calls Try.prog 11 #[.int .i64 way, .bool neg, .int .i64 exp, .int .u64 s, .bool true] w fun e w' => (∃ r : Nat, e = .returned (.int .u32 (Flt.signBit neg + (r : Int))) ∧ Flt.RN way neg ((s.toNat * 2 ^ 80 + (1 : Int).toNat) * 2 ^ k) ((1 : Int).toNat * 2 ^ 80) r) ∧ Below w.heap.size w w' := by
  have hs0 : (s == 0) = false := by simp; omega
  go_enter Try.func11, Try.ntmps11
  go_wp2_with fail
  refine (of_any s h0 h1 _).mono ?_
  rintro e x1 ⟨⟨v1, rfl, hv1⟩, hb1⟩
  go_wp2_with fail
  refine (of_any 1 (by omega) (by omega) _).mono ?_
  rintro e x2 ⟨⟨v2, rfl, hv2⟩, hb2⟩
  have hbel2 := bl_tr hb1 hb2
  have hp := hv1.below hb2
  go_wp2_with fail
  refine (twice_any v1 _ 2 80 (by omega) (by omega) _ hp).mono ?_
  rintro e x3 ⟨⟨v3, rfl, hv3⟩, hb3⟩
  have hbel3 := bl_tr hbel2 hb3
  go_wp2_with fail
  refine (of_any 1 (by omega) (by omega) _).mono ?_
  rintro e x4 ⟨⟨v4, rfl, hv4⟩, hb4⟩
  have hbel4 := bl_tr hbel3 hb4
  go_wp2_with fail
  refine (plus_any v3 v4 _ _ 5 (by omega) _ ((hv3.below hb4).le (by omega)) (hv4.le (by omega)) (by simp)).mono ?_
  rintro e x5 ⟨⟨v5, rfl, hv5⟩, hb5⟩
  have hbel5 := bl_tr hbel4 hb5
  go_wp2_with fail
  refine (twice_any v2 _ 2 80 (by omega) (by omega) _ (hv2.below (bl_tr (bl_tr hb3 hb4) hb5))).mono ?_
  rintro e x6 ⟨⟨v6, rfl, hv6⟩, hb6⟩
  have hbel6 := bl_tr hbel5 hb6
  have hP := (hv5.below hb6).le (show 6 ≤ 6 by omega)
  have hQ := hv6.le (show 80 / 32 + 2 + 1 ≤ 6 by omega)
  have hbelP := hbel6
  go_wp2_with fail
  rw [show (exp + 149 : Int) = ((k : Nat) : Int) by omega]
  refine (twice_any v5 _ 6 k (by omega) (by omega) _ hP).mono ?_
  rintro e x7 ⟨⟨v7, rfl, hv7⟩, hb7⟩
  have hbel7 := bl_tr hbelP hb7
  go_wp2_with fail
  refine (rounded_any way neg v7 v6 _ _ 40 (by omega) (by first | exact pow_pos_one _ | decide) _ (hv7.le (by omega)) ((hQ.below hb7).le (by omega))).mono ?_
  rintro e x8 ⟨⟨r, rfl, hr⟩, hb8⟩
  go_wp2_with fail
  go_ret
  exact ⟨⟨r, rfl, hr⟩, bl_tr hbel7 hb8⟩

set_option maxRecDepth 100000 in
set_option maxHeartbeats 400000 in
theorem rround_m_down (way : Int) (neg : Bool) (exp s : Int) (k : Nat) (h0 : 0 ≤ s) (h1 : s < 18446744073709551616) (hs : 1 ≤ s) (he : -700 ≤ exp) (he2 : exp < -149) (hk : (k : Int) = -149 - exp) (w : World) :
    Calls Try.prog 11 #[.int .i64 way, .bool neg, .int .i64 exp, .int .u64 s, .bool true] w fun e w' => (∃ r : Nat, e = .returned (.int .u32 (Flt.signBit neg + (r : Int))) ∧ Flt.RN way neg ((s.toNat * 2 ^ 80 + (1 : Int).toNat)) ((1 : Int).toNat * 2 ^ 80 * 2 ^ k) r) ∧ Below w.heap.size w w' := by
  have hs0 : (s == 0) = false := by simp; omega
  go_enter Try.func11, Try.ntmps11
  go_wp2_with fail
  refine (of_any s h0 h1 _).mono ?_
  rintro e x1 ⟨⟨v1, rfl, hv1⟩, hb1⟩
  go_wp2_with fail
  refine (of_any 1 (by omega) (by omega) _).mono ?_
  rintro e x2 ⟨⟨v2, rfl, hv2⟩, hb2⟩
  have hbel2 := bl_tr hb1 hb2
  have hp := hv1.below hb2
  go_wp2_with fail
  refine (twice_any v1 _ 2 80 (by omega) (by omega) _ hp).mono ?_
  rintro e x3 ⟨⟨v3, rfl, hv3⟩, hb3⟩
  have hbel3 := bl_tr hbel2 hb3
  go_wp2_with fail
  refine (of_any 1 (by omega) (by omega) _).mono ?_
  rintro e x4 ⟨⟨v4, rfl, hv4⟩, hb4⟩
  have hbel4 := bl_tr hbel3 hb4
  go_wp2_with fail
  refine (plus_any v3 v4 _ _ 5 (by omega) _ ((hv3.below hb4).le (by omega)) (hv4.le (by omega)) (by simp)).mono ?_
  rintro e x5 ⟨⟨v5, rfl, hv5⟩, hb5⟩
  have hbel5 := bl_tr hbel4 hb5
  go_wp2_with fail
  refine (twice_any v2 _ 2 80 (by omega) (by omega) _ (hv2.below (bl_tr (bl_tr hb3 hb4) hb5))).mono ?_
  rintro e x6 ⟨⟨v6, rfl, hv6⟩, hb6⟩
  have hbel6 := bl_tr hbel5 hb6
  have hP := (hv5.below hb6).le (show 6 ≤ 6 by omega)
  have hQ := hv6.le (show 80 / 32 + 2 + 1 ≤ 6 by omega)
  have hbelP := hbel6
  go_wp2_with fail
  rw [show (-149 - exp : Int) = ((k : Nat) : Int) by omega]
  refine (twice_any v6 _ 6 k (by omega) (by omega) _ hQ).mono ?_
  rintro e x7 ⟨⟨v7, rfl, hv7⟩, hb7⟩
  have hbel7 := bl_tr hbelP hb7
  go_wp2_with fail
  refine (rounded_any way neg v5 v7 _ _ 40 (by omega) (by first | exact pow_pos_one _ | exact Nat.mul_pos (pow_pos_one _) (Nat.two_pow_pos _)) _ ((hP.below hb7).le (by omega)) (hv7.le (by omega))).mono ?_
  rintro e x8 ⟨⟨r, rfl, hr⟩, hb8⟩
  go_wp2_with fail
  go_ret
  exact ⟨⟨r, rfl, hr⟩, bl_tr hbel7 hb8⟩

set_option maxRecDepth 100000 in
set_option maxHeartbeats 400000 in
theorem rround_m_low (way : Int) (neg : Bool) (exp s : Int) (k : Nat) (h0 : 0 ≤ s) (h1 : s < 18446744073709551616) (hs : 1 ≤ s) (he : exp < -700) (hk : k = 551) (w : World) :
    Calls Try.prog 11 #[.int .i64 way, .bool neg, .int .i64 exp, .int .u64 s, .bool true] w fun e w' => (∃ r : Nat, e = .returned (.int .u32 (Flt.signBit neg + (r : Int))) ∧ Flt.RN way neg ((s.toNat * 2 ^ 80 + (1 : Int).toNat)) ((1 : Int).toNat * 2 ^ 80 * 2 ^ k) r) ∧ Below w.heap.size w w' := by
  have hs0 : (s == 0) = false := by simp; omega
  go_enter Try.func11, Try.ntmps11
  go_wp2_with fail
  refine (of_any s h0 h1 _).mono ?_
  rintro e x1 ⟨⟨v1, rfl, hv1⟩, hb1⟩
  go_wp2_with fail
  refine (of_any 1 (by omega) (by omega) _).mono ?_
  rintro e x2 ⟨⟨v2, rfl, hv2⟩, hb2⟩
  have hbel2 := bl_tr hb1 hb2
  have hp := hv1.below hb2
  go_wp2_with fail
  refine (twice_any v1 _ 2 80 (by omega) (by omega) _ hp).mono ?_
  rintro e x3 ⟨⟨v3, rfl, hv3⟩, hb3⟩
  have hbel3 := bl_tr hbel2 hb3
  go_wp2_with fail
  refine (of_any 1 (by omega) (by omega) _).mono ?_
  rintro e x4 ⟨⟨v4, rfl, hv4⟩, hb4⟩
  have hbel4 := bl_tr hbel3 hb4
  go_wp2_with fail
  refine (plus_any v3 v4 _ _ 5 (by omega) _ ((hv3.below hb4).le (by omega)) (hv4.le (by omega)) (by simp)).mono ?_
  rintro e x5 ⟨⟨v5, rfl, hv5⟩, hb5⟩
  have hbel5 := bl_tr hbel4 hb5
  go_wp2_with fail
  refine (twice_any v2 _ 2 80 (by omega) (by omega) _ (hv2.below (bl_tr (bl_tr hb3 hb4) hb5))).mono ?_
  rintro e x6 ⟨⟨v6, rfl, hv6⟩, hb6⟩
  have hbel6 := bl_tr hbel5 hb6
  have hP := (hv5.below hb6).le (show 6 ≤ 6 by omega)
  have hQ := hv6.le (show 80 / 32 + 2 + 1 ≤ 6 by omega)
  have hbelP := hbel6
  go_wp2_with fail
  rw [show (551 : Int) = ((k : Nat) : Int) by omega]
  refine (twice_any v6 _ 6 k (by omega) (by omega) _ hQ).mono ?_
  rintro e x7 ⟨⟨v7, rfl, hv7⟩, hb7⟩
  have hbel7 := bl_tr hbelP hb7
  go_wp2_with fail
  refine (rounded_any way neg v5 v7 _ _ 40 (by omega) (by first | exact pow_pos_one _ | exact Nat.mul_pos (pow_pos_one _) (Nat.two_pow_pos _)) _ ((hP.below hb7).le (by omega)) (hv7.le (by omega))).mono ?_
  rintro e x8 ⟨⟨r, rfl, hr⟩, hb8⟩
  go_wp2_with fail
  go_ret
  exact ⟨⟨r, rfl, hr⟩, bl_tr hbel7 hb8⟩

end Go.Proofs.Ytfgdgnbkjoafmaa
