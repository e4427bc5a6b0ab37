/-
  Walks of the document's answers to whole numbers, powers of two and roots.
-/
import Derived.Test.YtblfbopdphnmoaaWkT
import Derived.Test.YtblfbopdphnmoaaFltK
namespace Go.Proofs.Ytblfbopdphnmoaa
open Go.RowKit
set_option linter.unusedVariables false

set_option maxRecDepth 100000 in
set_option maxHeartbeats 1000000 in
theorem rfromInt_pos (way n : Int) (h0 : 0 < n) (h1 : n < 9223372036854775808) (w : World) :
    Calls Try.prog 19 #[.int .i64 way, .int .i64 n] w fun e w' => (∃ r : Nat, e = .returned (.int .u32 (Flt.signBit false + (r : Int))) ∧ Flt.RN way false (n.toNat * 2 ^ 149) 1 r) ∧ Below w.heap.size w w' := by
  have hz : (n == 0) = false := by simp; omega
  have hn : decide (n < 0) = false := by simp; omega
  go_enter Try.func19, Try.ntmps19
  go_wp2_with fail
  refine (of_any n (by omega) (by omega) _).mono ?_
  rintro e x1 ⟨⟨v1, rfl, hv1⟩, hb1⟩
  go_wp2_with fail
  refine (twice_any v1 _ 2 149 (by omega) (by omega) _ hv1).mono ?_
  rintro e x2 ⟨⟨v2, rfl, hv2⟩, hb2⟩
  have hbel2 := bl_tr hb1 hb2
  go_wp2_with fail
  refine (of_any 1 (by omega) (by omega) _).mono ?_
  rintro e x3 ⟨⟨v3, rfl, hv3⟩, hb3⟩
  have hbel3 := bl_tr hbel2 hb3
  go_wp2_with fail
  refine (rounded_any way false v2 v3 _ 1 12 (by omega) (by decide) _ ((hv2.below hb3).le (by omega)) ((hv3.cast (by simp)).le (by omega))).mono ?_
  rintro e x4 ⟨⟨r, rfl, hr⟩, hb4⟩
  go_wp2_with fail
  go_ret
  exact ⟨⟨r, rfl, hr⟩, bl_tr hbel3 hb4⟩

set_option maxRecDepth 100000 in
set_option maxHeartbeats 1000000 in
theorem rfromInt_neg (way n : Int) (h0 : n < 0) (h1 : -9223372036854775808 ≤ n) (w : World) :
    Calls Try.prog 19 #[.int .i64 way, .int .i64 n] w fun e w' => (∃ r : Nat, e = .returned (.int .u32 (Flt.signBit true + (r : Int))) ∧ Flt.RN way true ((-n).toNat * 2 ^ 149) 1 r) ∧ Below w.heap.size w w' := by
  have hz : (-(n + 1) + 1 == 0) = false := by simp; omega
  go_enter Try.func19, Try.ntmps19
  go_wp2_with fail
  refine (of_any _ (by omega) (by omega) _).mono ?_
  rintro e x1 ⟨⟨v1, rfl, hv1⟩, hb1⟩
  go_wp2_with fail
  refine (twice_any v1 _ 2 149 (by omega) (by omega) _ hv1).mono ?_
  rintro e x2 ⟨⟨v2, rfl, hv2⟩, hb2⟩
  have hbel2 := bl_tr hb1 hb2
  go_wp2_with fail
  refine (of_any 1 (by omega) (by omega) _).mono ?_
  rintro e x3 ⟨⟨v3, rfl, hv3⟩, hb3⟩
  have hbel3 := bl_tr hbel2 hb3
  go_wp2_with fail
  refine (rounded_any way true v2 v3 _ 1 12 (by omega) (by decide) _ ((hv2.below hb3).le (by omega)) ((hv3.cast (by simp)).le (by omega))).mono ?_
  rintro e x4 ⟨⟨r, rfl, hr⟩, hb4⟩
  go_wp2_with fail
  go_ret
  rw [show (-(n + 1) + 1).toNat = (-n).toNat by omega] at hr
  exact ⟨⟨r, rfl, hr⟩, bl_tr hbel3 hb4⟩

theorem rfromInt_zero (way : Int) (w : World) :
    Calls Try.prog 19 #[.int .i64 way, .int .i64 0] w fun e w' => e = .returned (.int .u32 0) ∧ w' = w := by
  go_enter Try.func19, Try.ntmps19
  go_wp2_with fail
  go_ret
  exact ⟨rfl, rfl⟩

set_option maxRecDepth 100000 in
set_option maxHeartbeats 1000000 in
theorem rscale_mid_up (a k : Int) (j : Nat) (h0 : 0 ≤ a) (h1 : a < 4294967296) (ha : Flt.mg a < 2139095040) (hz : Flt.mg a ≠ 0) (hk0 : 0 ≤ k) (hk1 : k ≤ 700) (hj : (j : Int) = k) (w : World) :
    Calls Try.prog 29 #[.int .u32 a, .int .i64 k] w fun e w' => (∃ r : Nat, e = .returned (.int .u32 (Flt.signBit (Flt.sgn a) + (r : Int))) ∧ Flt.RN 0 (Flt.sgn a) (Flt.A (Flt.mg a) * 2 ^ j) ((1 : Int).toNat) r) ∧ Below w.heap.size w w' := by
  obtain ⟨n1, n2⟩ := (Flt.fin_iff a).2 ha
  have ea := mg_cast a h0
  obtain ⟨ma, hma⟩ : ∃ ma, Flt.mg a = ma := ⟨_, rfl⟩
  rw [hma] at ea ha hz ⊢
  clear hma
  have i1 : ((ma : Int) == 2139095040) = false := by simp; omega
  have i2 : ((ma : Int) == 0) = false := by simp; omega
  go_enter Try.func29, Try.ntmps29
  go_wp2_with (first | (go_at_call 43; refine (risNone_any _ (by assumption) (by assumption) _).mono ?_; rintro e w' ⟨rfl, rfl⟩) | (go_at_call 42; refine (rabs_any _ (by assumption) (by assumption) _).mono ?_; rintro e w' ⟨rfl, rfl⟩) | (go_at_call 41; refine (rbelow_any _ (by assumption) (by assumption) _).mono ?_; rintro e w' ⟨rfl, rfl⟩))
  refine (amount_any ma (by omega) _).mono ?_
  rintro e x1 ⟨⟨v1, rfl, hv1⟩, hb1⟩
  go_wp2_with fail
  refine (of_any 1 (by omega) (by omega) _).mono ?_
  rintro e x2 ⟨⟨v2, rfl, hv2⟩, hb2⟩
  have hbel2 := bl_tr hb1 hb2
  have hv1' := hv1.below hb2
  go_wp2_with fail
  rw [show (k : Int) = (j : Int) by omega]
  refine (twice_any v1 _ 12 j (by omega) (by omega) _ hv1').mono ?_
  rintro e x3 ⟨⟨v3, rfl, hv3⟩, hb3⟩
  have hbel3 := bl_tr hbel2 hb3
  go_wp2_with (first | (go_at_call 43; refine (risNone_any _ (by assumption) (by assumption) _).mono ?_; rintro e w' ⟨rfl, rfl⟩) | (go_at_call 42; refine (rabs_any _ (by assumption) (by assumption) _).mono ?_; rintro e w' ⟨rfl, rfl⟩) | (go_at_call 41; refine (rbelow_any _ (by assumption) (by assumption) _).mono ?_; rintro e w' ⟨rfl, rfl⟩))
  refine (rounded_any 0 (Flt.sgn a) v3 v2 _ _ 40 (by omega) (by decide) _ (hv3.le (by omega)) ((hv2.below hb3).le (by omega))).mono ?_
  rintro e x4 ⟨⟨r, rfl, hr⟩, hb4⟩
  go_wp2_with fail
  go_ret
  exact ⟨⟨r, rfl, hr⟩, bl_tr hbel3 hb4⟩

set_option maxRecDepth 100000 in
set_option maxHeartbeats 1000000 in
theorem rscale_hi_up (a k : Int) (j : Nat) (h0 : 0 ≤ a) (h1 : a < 4294967296) (ha : Flt.mg a < 2139095040) (hz : Flt.mg a ≠ 0) (hk0 : 700 < k) (hj : (j : Int) = 700) (w : World) :
    Calls Try.prog 29 #[.int .u32 a, .int .i64 k] w fun e w' => (∃ r : Nat, e = .returned (.int .u32 (Flt.signBit (Flt.sgn a) + (r : Int))) ∧ Flt.RN 0 (Flt.sgn a) (Flt.A (Flt.mg a) * 2 ^ j) ((1 : Int).toNat) r) ∧ Below w.heap.size w w' := by
  obtain ⟨n1, n2⟩ := (Flt.fin_iff a).2 ha
  have ea := mg_cast a h0
  obtain ⟨ma, hma⟩ : ∃ ma, Flt.mg a = ma := ⟨_, rfl⟩
  rw [hma] at ea ha hz ⊢
  clear hma
  have i1 : ((ma : Int) == 2139095040) = false := by simp; omega
  have i2 : ((ma : Int) == 0) = false := by simp; omega
  go_enter Try.func29, Try.ntmps29
  go_wp2_with (first | (go_at_call 43; refine (risNone_any _ (by assumption) (by assumption) _).mono ?_; rintro e w' ⟨rfl, rfl⟩) | (go_at_call 42; refine (rabs_any _ (by assumption) (by assumption) _).mono ?_; rintro e w' ⟨rfl, rfl⟩) | (go_at_call 41; refine (rbelow_any _ (by assumption) (by assumption) _).mono ?_; rintro e w' ⟨rfl, rfl⟩))
  refine (amount_any ma (by omega) _).mono ?_
  rintro e x1 ⟨⟨v1, rfl, hv1⟩, hb1⟩
  go_wp2_with fail
  refine (of_any 1 (by omega) (by omega) _).mono ?_
  rintro e x2 ⟨⟨v2, rfl, hv2⟩, hb2⟩
  have hbel2 := bl_tr hb1 hb2
  have hv1' := hv1.below hb2
  go_wp2_with fail
  rw [show (700 : Int) = (j : Int) by omega]
  refine (twice_any v1 _ 12 j (by omega) (by omega) _ hv1').mono ?_
  rintro e x3 ⟨⟨v3, rfl, hv3⟩, hb3⟩
  have hbel3 := bl_tr hbel2 hb3
  go_wp2_with (first | (go_at_call 43; refine (risNone_any _ (by assumption) (by assumption) _).mono ?_; rintro e w' ⟨rfl, rfl⟩) | (go_at_call 42; refine (rabs_any _ (by assumption) (by assumption) _).mono ?_; rintro e w' ⟨rfl, rfl⟩) | (go_at_call 41; refine (rbelow_any _ (by assumption) (by assumption) _).mono ?_; rintro e w' ⟨rfl, rfl⟩))
  refine (rounded_any 0 (Flt.sgn a) v3 v2 _ _ 40 (by omega) (by decide) _ (hv3.le (by omega)) ((hv2.below hb3).le (by omega))).mono ?_
  rintro e x4 ⟨⟨r, rfl, hr⟩, hb4⟩
  go_wp2_with fail
  go_ret
  exact ⟨⟨r, rfl, hr⟩, bl_tr hbel3 hb4⟩

set_option maxRecDepth 100000 in
set_option maxHeartbeats 1000000 in
theorem rscale_mid_down (a k : Int) (j : Nat) (h0 : 0 ≤ a) (h1 : a < 4294967296) (ha : Flt.mg a < 2139095040) (hz : Flt.mg a ≠ 0) (hk0 : k < 0) (hk1 : -700 ≤ k) (hj : (j : Int) = -k) (w : World) :
    Calls Try.prog 29 #[.int .u32 a, .int .i64 k] w fun e w' => (∃ r : Nat, e = .returned (.int .u32 (Flt.signBit (Flt.sgn a) + (r : Int))) ∧ Flt.RN 0 (Flt.sgn a) (Flt.A (Flt.mg a)) ((1 : Int).toNat * 2 ^ j) r) ∧ Below w.heap.size w w' := by
  obtain ⟨n1, n2⟩ := (Flt.fin_iff a).2 ha
  have ea := mg_cast a h0
  obtain ⟨ma, hma⟩ : ∃ ma, Flt.mg a = ma := ⟨_, rfl⟩
  rw [hma] at ea ha hz ⊢
  clear hma
  have i1 : ((ma : Int) == 2139095040) = false := by simp; omega
  have i2 : ((ma : Int) == 0) = false := by simp; omega
  go_enter Try.func29, Try.ntmps29
  go_wp2_with (first | (go_at_call 43; refine (risNone_any _ (by assumption) (by assumption) _).mono ?_; rintro e w' ⟨rfl, rfl⟩) | (go_at_call 42; refine (rabs_any _ (by assumption) (by assumption) _).mono ?_; rintro e w' ⟨rfl, rfl⟩) | (go_at_call 41; refine (rbelow_any _ (by assumption) (by assumption) _).mono ?_; rintro e w' ⟨rfl, rfl⟩))
  refine (amount_any ma (by omega) _).mono ?_
  rintro e x1 ⟨⟨v1, rfl, hv1⟩, hb1⟩
  go_wp2_with fail
  refine (of_any 1 (by omega) (by omega) _).mono ?_
  rintro e x2 ⟨⟨v2, rfl, hv2⟩, hb2⟩
  have hbel2 := bl_tr hb1 hb2
  have hv1' := hv1.below hb2
  go_wp2_with fail
  rw [show (-k : Int) = (j : Int) by omega]
  refine (twice_any v2 _ 2 j (by omega) (by omega) _ hv2).mono ?_
  rintro e x3 ⟨⟨v3, rfl, hv3⟩, hb3⟩
  have hbel3 := bl_tr hbel2 hb3
  go_wp2_with (first | (go_at_call 43; refine (risNone_any _ (by assumption) (by assumption) _).mono ?_; rintro e w' ⟨rfl, rfl⟩) | (go_at_call 42; refine (rabs_any _ (by assumption) (by assumption) _).mono ?_; rintro e w' ⟨rfl, rfl⟩) | (go_at_call 41; refine (rbelow_any _ (by assumption) (by assumption) _).mono ?_; rintro e w' ⟨rfl, rfl⟩))
  refine (rounded_any 0 (Flt.sgn a) v1 v3 _ _ 40 (by omega) (Nat.mul_pos (by decide) (Nat.two_pow_pos _)) _ ((hv1'.below hb3).le (by omega)) (hv3.le (by omega))).mono ?_
  rintro e x4 ⟨⟨r, rfl, hr⟩, hb4⟩
  go_wp2_with fail
  go_ret
  exact ⟨⟨r, rfl, hr⟩, bl_tr hbel3 hb4⟩

set_option maxRecDepth 100000 in
set_option maxHeartbeats 1000000 in
theorem rscale_lo_down (a k : Int) (j : Nat) (h0 : 0 ≤ a) (h1 : a < 4294967296) (ha : Flt.mg a < 2139095040) (hz : Flt.mg a ≠ 0) (hk0 : k < -700) (hj : (j : Int) = 700) (w : World) :
    Calls Try.prog 29 #[.int .u32 a, .int .i64 k] w fun e w' => (∃ r : Nat, e = .returned (.int .u32 (Flt.signBit (Flt.sgn a) + (r : Int))) ∧ Flt.RN 0 (Flt.sgn a) (Flt.A (Flt.mg a)) ((1 : Int).toNat * 2 ^ j) r) ∧ Below w.heap.size w w' := by
  obtain ⟨n1, n2⟩ := (Flt.fin_iff a).2 ha
  have ea := mg_cast a h0
  obtain ⟨ma, hma⟩ : ∃ ma, Flt.mg a = ma := ⟨_, rfl⟩
  rw [hma] at ea ha hz ⊢
  clear hma
  have i1 : ((ma : Int) == 2139095040) = false := by simp; omega
  have i2 : ((ma : Int) == 0) = false := by simp; omega
  go_enter Try.func29, Try.ntmps29
  go_wp2_with (first | (go_at_call 43; refine (risNone_any _ (by assumption) (by assumption) _).mono ?_; rintro e w' ⟨rfl, rfl⟩) | (go_at_call 42; refine (rabs_any _ (by assumption) (by assumption) _).mono ?_; rintro e w' ⟨rfl, rfl⟩) | (go_at_call 41; refine (rbelow_any _ (by assumption) (by assumption) _).mono ?_; rintro e w' ⟨rfl, rfl⟩))
  refine (amount_any ma (by omega) _).mono ?_
  rintro e x1 ⟨⟨v1, rfl, hv1⟩, hb1⟩
  go_wp2_with fail
  refine (of_any 1 (by omega) (by omega) _).mono ?_
  rintro e x2 ⟨⟨v2, rfl, hv2⟩, hb2⟩
  have hbel2 := bl_tr hb1 hb2
  have hv1' := hv1.below hb2
  go_wp2_with fail
  rw [show (700 : Int) = (j : Int) by omega]
  refine (twice_any v2 _ 2 j (by omega) (by omega) _ hv2).mono ?_
  rintro e x3 ⟨⟨v3, rfl, hv3⟩, hb3⟩
  have hbel3 := bl_tr hbel2 hb3
  go_wp2_with (first | (go_at_call 43; refine (risNone_any _ (by assumption) (by assumption) _).mono ?_; rintro e w' ⟨rfl, rfl⟩) | (go_at_call 42; refine (rabs_any _ (by assumption) (by assumption) _).mono ?_; rintro e w' ⟨rfl, rfl⟩) | (go_at_call 41; refine (rbelow_any _ (by assumption) (by assumption) _).mono ?_; rintro e w' ⟨rfl, rfl⟩))
  refine (rounded_any 0 (Flt.sgn a) v1 v3 _ _ 40 (by omega) (Nat.mul_pos (by decide) (Nat.two_pow_pos _)) _ ((hv1'.below hb3).le (by omega)) (hv3.le (by omega))).mono ?_
  rintro e x4 ⟨⟨r, rfl, hr⟩, hb4⟩
  go_wp2_with fail
  go_ret
  exact ⟨⟨r, rfl, hr⟩, bl_tr hbel3 hb4⟩

end Go.Proofs.Ytblfbopdphnmoaa
