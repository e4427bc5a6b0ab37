/-
  Walks of package soft's sums, products and quotients.
-/
import Derived.Test.YtkbniebahledmaaWkC
import Derived.Test.YtkbniebahledmaaFltB
import Derived.Below
import Derived.Handy
import Derived.RegionTactic
import Derived.ChangeAlike
namespace Go.Proofs.Ytkbniebahledmaa
open Go.RowKit
set_option linter.unusedVariables false

theorem split_any (a : Int) (h0 : 0 ≤ a) (h1 : a < 4294967296) (w : World) :
    Calls Try.prog 43 #[.int .u32 a] w fun e w' => e = .returned (.agg #[.bool (Flt.sgn a), .int .i64 (Flt.expo a), .int .u64 (Flt.sig a)]) ∧ Below w.heap.size w w' := by
  have e1 := Flt.and23 a h0 h1
  have e2 := Flt.and8 (a / 8388608) (by omega) (by omega)
  have e3 := Flt.or23 (a % 8388608) (by omega) (by omega)
  go_enter Try.func43, Try.ntmps43
  go_wp2_with (go_at_call 44; refine (below_any _ h0 h1 _).mono ?_; rintro e w' ⟨rfl, rfl⟩)
  · have hz : a / 8388608 % 256 = 0 := WalkArith.int_eq ‹(_ == _) = true›
    refine bodyPost_ret (v := .agg #[.bool (Flt.sgn a), .int .i64 (Flt.expo a), .int .u64 (Flt.sig a)]) (by simp [results, Try.results43, go_sem, Flt.expo, Flt.sig, hz]) rfl ⟨rfl, ?_⟩
    exact (Below.refl _ _).alloc (Nat.le_refl _) _
  · have hz : ¬ a / 8388608 % 256 = 0 := WalkArith.int_ne ‹(_ == _) = false›
    refine bodyPost_ret (v := .agg #[.bool (Flt.sgn a), .int .i64 (Flt.expo a), .int .u64 (Flt.sig a)]) (by simp [results, Try.results43, go_sem, Flt.expo, Flt.sig, hz]; omega) rfl ⟨rfl, ?_⟩
    exact (Below.refl _ _).alloc (Nat.le_refl _) _

theorem shr_any (s d : Int) (h0 : 0 ≤ s) (h1 : s < 18446744073709551616) (hd : 0 ≤ d) :
    Op.shift .shr .u64 s .i64 d = pure (.int .u64 (s / 2 ^ d.toNat)) := by
  by_cases h : d ≤ 64
  · exact shift_shr .u64 .i64 s d hd h
  · rw [shift_shr_any .u64 .i64 s d (by omega)]
    have e : min d.toNat IntKind.u64.bits = 64 := by simp [IntKind.bits]; omega
    rw [e, div_zero s d h0 h1 (by omega)]
    have := div_zero s 64 h0 h1 (by omega)
    rw [show ((64 : Int).toNat) = 64 from rfl] at this
    rw [this]

theorem shl_back (s d : Int) (h0 : 0 ≤ s) (h1 : s < 18446744073709551616) (hd : 0 ≤ d) :
    Op.shift .shl .u64 (s / 2 ^ d.toNat) .i64 d = pure (.int .u64 (s / 2 ^ d.toNat * 2 ^ d.toNat)) := by
  by_cases h : d ≤ 64
  · rw [shift_shl .u64 .i64 _ d hd h]
    have hp : (0 : Int) < 2 ^ d.toNat := Int.pow_pos (by decide)
    have a1 := Int.ediv_nonneg h0 (Int.le_of_lt hp)
    have a2 : s / 2 ^ d.toNat * 2 ^ d.toNat ≤ s := by have := Int.emod_nonneg s (Int.ne_of_gt hp); have e := Int.ediv_mul_add_emod s (2 ^ d.toNat); omega
    have a3 := Int.mul_nonneg a1 (Int.le_of_lt hp)
    rw [wrap_u64_in _ a3 (by omega)]
  · rw [div_zero s d h0 h1 (by omega), shift_shl_any .u64 .i64 _ d hd]
    simp [IntKind.wrap_u64]

-- SUMS
theorem xsub (a b : Int) : a - (a - b) = b := by omega
theorem mul_pow_lt (x k : Int) (h0 : 0 ≤ x) (h1 : x < 16777216) (k0 : 0 ≤ k) (k1 : k ≤ 39) : 0 ≤ x * 2 ^ k.toNat ∧ x * 2 ^ k.toNat < 9223372036854775808 := by
  obtain ⟨n, rfl⟩ := Int.eq_ofNat_of_zero_le k0
  rw [Int.toNat_natCast]
  have hp : (0 : Int) < 2 ^ n := Int.pow_pos (by decide)
  have hq : (2 : Int) ^ n ≤ 2 ^ 39 := by exact_mod_cast (Nat.pow_le_pow_right (by decide) (by omega) : 2 ^ n ≤ 2 ^ 39)
  refine ⟨Int.mul_nonneg h0 (Int.le_of_lt hp), ?_⟩
  have h2 : x * 2 ^ n ≤ 16777215 * 2 ^ n := Int.mul_le_mul_of_nonneg_right (by omega) (Int.le_of_lt hp)
  have e : (2 : Int) ^ 39 = 549755813888 := by decide
  rw [e] at hq
  omega
theorem div_le_self2 (x k : Int) (h0 : 0 ≤ x) : 0 ≤ x / 2 ^ k.toNat ∧ x / 2 ^ k.toNat ≤ x :=
  ⟨Int.ediv_nonneg h0 (Int.pow_nonneg (by decide)), Int.ediv_le_self _ h0⟩
theorem bl_drewN {B : Nat} {a w : World} (h : Below B a w) (n : Nat) : Below B a (w.drewN n) := ⟨h.os, h.tape, h.output, h.size, h.block⟩
theorem eq_ff {a b : Bool} (h : ¬ a = b) : (a == b) = false := by cases a <;> cases b <;> simp_all

set_option maxRecDepth 100000 in
set_option maxHeartbeats 1000000 in
theorem sum_near (way : Int) (xn yn : Bool) (xe xs ye ys : Int) (hx0 : 0 ≤ xs) (hx1 : xs < 16777216) (hy0 : 0 ≤ ys) (hy1 : ys < 16777216)
    (ex0 : -149 ≤ xe) (ex1 : xe ≤ 105) (ey0 : -149 ≤ ye) (ey1 : ye ≤ 105) (hord : ye ≤ xe) (hgap : xe - ye ≤ 39) (w : World) :
    Calls Try.prog 42 #[.int .i64 way, .agg #[.bool xn, .int .i64 xe, .int .u64 xs], .agg #[.bool yn, .int .i64 ye, .int .u64 ys]] w fun e w' => e = .returned (.int .u32 (Flt.sumOrd way xn xe xs yn ye ys)) ∧ Below w.heap.size w w' := by
  obtain ⟨b0, b1⟩ := mul_pow_lt xs (xe - ye) hx0 hx1 (by omega) hgap
  have hsum : Flt.sumOrd way xn xe xs yn ye ys = if xn = yn then Flt.rnd way xn ye (xs * 2 ^ (xe - ye).toNat + ys) false
     else if ys < xs * 2 ^ (xe - ye).toNat then Flt.rnd way xn ye (xs * 2 ^ (xe - ye).toNat - ys) false
     else if xs * 2 ^ (xe - ye).toNat < ys then Flt.rnd way yn ye (ys - xs * 2 ^ (xe - ye).toNat) false
     else Flt.signBit (decide (way = 2)) := by unfold Flt.sumOrd; rw [if_pos hgap]
  rw [hsum]; clear hsum
  obtain ⟨B, hBe⟩ : ∃ B, B = xs * 2 ^ (xe - ye).toNat := ⟨_, rfl⟩
  rw [← hBe] at b0 b1 ⊢
  have hB : IntKind.u64.wrap (xs * 2 ^ (xe - ye).toNat) = B := by rw [← hBe]; exact wrap_u64_in _ b0 (by omega)
  clear hBe
  by_cases hs : xn = yn
  · subst hs
    go_enter Try.func42, Try.ntmps42
    go_wp2_with fail
    go_quiet (fail)
    go_wp2_with fail
    go_quiet (fail)
    go_wp2_with (first | (go_at_call 47; refine (round_any _ _ _ _ _ (by omega) (by omega) _).mono ?_; rintro e w' ⟨rfl, rfl⟩) | (go_at_call 46; refine (signBit_any _ _).mono ?_; rintro e w' ⟨rfl, rfl⟩))
    go_ret
    refine ⟨ret_int ?_, bl_drewN (((Below.refl _ _).alloc (Nat.le_refl _) _).alloc (by simp) _) _⟩
    rw [xsub]
  · have hs' := eq_ff hs
    rw [if_neg hs]
    by_cases h1 : ys < B
    · rw [if_pos h1]
      go_enter Try.func42, Try.ntmps42
      go_wp2_with fail
      go_quiet (fail)
      go_wp2_with fail
      go_quiet (fail)
      go_wp2_with (first | (go_at_call 47; refine (round_any _ _ _ _ _ (by omega) (by omega) _).mono ?_; rintro e w' ⟨rfl, rfl⟩) | (go_at_call 46; refine (signBit_any _ _).mono ?_; rintro e w' ⟨rfl, rfl⟩))
      go_ret
      refine ⟨ret_int ?_, bl_drewN (((Below.refl _ _).alloc (Nat.le_refl _) _).alloc (by simp) _) _⟩
      rw [xsub]
    by_cases h2 : B < ys
    · rw [if_neg h1, if_pos h2]
      go_enter Try.func42, Try.ntmps42
      go_wp2_with fail
      go_quiet (fail)
      go_wp2_with fail
      go_quiet (fail)
      go_wp2_with (first | (go_at_call 47; refine (round_any _ _ _ _ _ (by omega) (by omega) _).mono ?_; rintro e w' ⟨rfl, rfl⟩) | (go_at_call 46; refine (signBit_any _ _).mono ?_; rintro e w' ⟨rfl, rfl⟩))
      go_ret
      refine ⟨ret_int ?_, bl_drewN (((Below.refl _ _).alloc (Nat.le_refl _) _).alloc (by simp) _) _⟩
      rw [xsub]
    · rw [if_neg h1, if_neg h2]
      go_enter Try.func42, Try.ntmps42
      go_wp2_with fail
      go_quiet (fail)
      go_wp2_with fail
      go_quiet (fail)
      go_wp2_with (first | (go_at_call 47; refine (round_any _ _ _ _ _ (by omega) (by omega) _).mono ?_; rintro e w' ⟨rfl, rfl⟩) | (go_at_call 46; refine (signBit_any _ _).mono ?_; rintro e w' ⟨rfl, rfl⟩))
      go_ret
      refine ⟨ret_int ?_, bl_drewN (((Below.refl _ _).alloc (Nat.le_refl _) _).alloc (by simp) _) _⟩
      first | rfl | (congr 1; rw [Bool.eq_iff_iff]; simp)

set_option maxRecDepth 100000 in
set_option maxHeartbeats 1000000 in
theorem sum_far (way : Int) (xn yn : Bool) (xe xs ye ys : Int) (hx0 : 0 ≤ xs) (hx1 : xs < 16777216) (hy0 : 0 ≤ ys) (hy1 : ys < 16777216)
    (ex0 : -149 ≤ xe) (ex1 : xe ≤ 105) (ey0 : -149 ≤ ye) (ey1 : ye ≤ 105)  (hgap : 39 < xe - ye) (hxb : 8388608 ≤ xs) (w : World) :
    Calls Try.prog 42 #[.int .i64 way, .agg #[.bool xn, .int .i64 xe, .int .u64 xs], .agg #[.bool yn, .int .i64 ye, .int .u64 ys]] w fun e w' => e = .returned (.int .u32 (Flt.sumOrd way xn xe xs yn ye ys)) ∧ Below w.heap.size w w' := by
  have hs1 := shr_any ys (xe - ye - 39) hy0 (by omega) (by omega)
  have hs2 := shl_back ys (xe - ye - 39) hy0 (by omega) (by omega)
  have hB : IntKind.u64.wrap (xs * 549755813888) = xs * 549755813888 := wrap_u64_in _ (by omega) (by omega)
  obtain ⟨q0, q1⟩ := div_le_self2 ys (xe - ye - 39) hy0
  have hsum : Flt.sumOrd way xn xe xs yn ye ys = if xn = yn then Flt.rnd way xn (xe - 39) (xs * 549755813888 + ys / 2 ^ (xe - ye - 39).toNat) (decide (ys / 2 ^ (xe - ye - 39).toNat * 2 ^ (xe - ye - 39).toNat ≠ ys))
     else if ys / 2 ^ (xe - ye - 39).toNat * 2 ^ (xe - ye - 39).toNat ≠ ys then Flt.rnd way xn (xe - 39) (xs * 549755813888 - (ys / 2 ^ (xe - ye - 39).toNat + 1)) true
     else Flt.rnd way xn (xe - 39) (xs * 549755813888 - ys / 2 ^ (xe - ye - 39).toNat) false := by unfold Flt.sumOrd; rw [if_neg (by omega)]
  rw [hsum]; clear hsum
  generalize ys / 2 ^ (xe - ye - 39).toNat * 2 ^ (xe - ye - 39).toNat = T at *
  generalize ys / 2 ^ (xe - ye - 39).toNat = Q at *
  by_cases hT : T = ys
  · have hT' : (T != ys) = false := by rw [bne_eq_false_iff_eq]; exact hT
    have hT2 : decide (T ≠ ys) = false := by simp [hT]
    have HT := hide hT
    rw [hT2]
    by_cases hs : xn = yn
    · rw [if_pos hs]
      clear hT hT2
      subst hs
      go_enter Try.func42, Try.ntmps42
      go_wp2_with fail
      go_quiet (fail)
      go_wp2_with fail
      go_quiet (fail)
      go_wp2_with (first | (go_at_call 47; refine (round_any _ _ _ _ _ (by omega) (by omega) _).mono ?_; rintro e w' ⟨rfl, rfl⟩) | (go_at_call 46; refine (signBit_any _ _).mono ?_; rintro e w' ⟨rfl, rfl⟩))
      go_ret
      refine ⟨ret_int ?_, bl_drewN (((Below.refl _ _).alloc (Nat.le_refl _) _).alloc (by simp) _) _⟩
      rfl
    · have hs' := eq_ff hs
      rw [if_neg hs, if_neg (by simp [hT])]
      clear hT hT2
      go_enter Try.func42, Try.ntmps42
      go_wp2_with fail
      go_quiet (fail)
      go_wp2_with fail
      go_quiet (fail)
      go_wp2_with (first | (go_at_call 47; refine (round_any _ _ _ _ _ (by omega) (by omega) _).mono ?_; rintro e w' ⟨rfl, rfl⟩) | (go_at_call 46; refine (signBit_any _ _).mono ?_; rintro e w' ⟨rfl, rfl⟩))
      go_ret
      refine ⟨ret_int ?_, bl_drewN (((Below.refl _ _).alloc (Nat.le_refl _) _).alloc (by simp) _) _⟩
      rfl
  · have hT' : (T != ys) = true := by rw [bne_iff_ne]; exact hT
    have hT2 : decide (T ≠ ys) = true := by simp [hT]
    have HT := hide hT
    rw [hT2]
    by_cases hs : xn = yn
    · rw [if_pos hs]
      clear hT hT2
      subst hs
      go_enter Try.func42, Try.ntmps42
      go_wp2_with fail
      go_quiet (fail)
      go_wp2_with fail
      go_quiet (fail)
      go_wp2_with (first | (go_at_call 47; refine (round_any _ _ _ _ _ (by omega) (by omega) _).mono ?_; rintro e w' ⟨rfl, rfl⟩) | (go_at_call 46; refine (signBit_any _ _).mono ?_; rintro e w' ⟨rfl, rfl⟩))
      go_ret
      refine ⟨ret_int ?_, bl_drewN (((Below.refl _ _).alloc (Nat.le_refl _) _).alloc (by simp) _) _⟩
      rfl
    · have hs' := eq_ff hs
      rw [if_neg hs, if_pos hT]
      clear hT hT2
      go_enter Try.func42, Try.ntmps42
      go_wp2_with fail
      go_quiet (fail)
      go_wp2_with fail
      go_quiet (fail)
      go_wp2_with (first | (go_at_call 47; refine (round_any _ _ _ _ _ (by omega) (by omega) _).mono ?_; rintro e w' ⟨rfl, rfl⟩) | (go_at_call 46; refine (signBit_any _ _).mono ?_; rintro e w' ⟨rfl, rfl⟩))
      go_ret
      refine ⟨ret_int ?_, bl_drewN (((Below.refl _ _).alloc (Nat.le_refl _) _).alloc (by simp) _) _⟩
      rfl

set_option maxRecDepth 100000 in
set_option maxHeartbeats 1000000 in
theorem sum_near_sw (way : Int) (xn yn : Bool) (xe xs ye ys : Int) (hx0 : 0 ≤ xs) (hx1 : xs < 16777216) (hy0 : 0 ≤ ys) (hy1 : ys < 16777216)
    (ex0 : -149 ≤ xe) (ex1 : xe ≤ 105) (ey0 : -149 ≤ ye) (ey1 : ye ≤ 105) (hord : ye < xe) (hgap : xe - ye ≤ 39) (w : World) :
    Calls Try.prog 42 #[.int .i64 way, .agg #[.bool yn, .int .i64 ye, .int .u64 ys], .agg #[.bool xn, .int .i64 xe, .int .u64 xs]] w fun e w' => e = .returned (.int .u32 (Flt.sumOrd way xn xe xs yn ye ys)) ∧ Below w.heap.size w w' := by
  obtain ⟨b0, b1⟩ := mul_pow_lt xs (xe - ye) hx0 hx1 (by omega) hgap
  have hsum : Flt.sumOrd way xn xe xs yn ye ys = if xn = yn then Flt.rnd way xn ye (xs * 2 ^ (xe - ye).toNat + ys) false
     else if ys < xs * 2 ^ (xe - ye).toNat then Flt.rnd way xn ye (xs * 2 ^ (xe - ye).toNat - ys) false
     else if xs * 2 ^ (xe - ye).toNat < ys then Flt.rnd way yn ye (ys - xs * 2 ^ (xe - ye).toNat) false
     else Flt.signBit (decide (way = 2)) := by unfold Flt.sumOrd; rw [if_pos hgap]
  rw [hsum]; clear hsum
  obtain ⟨B, hBe⟩ : ∃ B, B = xs * 2 ^ (xe - ye).toNat := ⟨_, rfl⟩
  rw [← hBe] at b0 b1 ⊢
  have hB : IntKind.u64.wrap (xs * 2 ^ (xe - ye).toNat) = B := by rw [← hBe]; exact wrap_u64_in _ b0 (by omega)
  clear hBe
  by_cases hs : xn = yn
  · subst hs
    go_enter Try.func42, Try.ntmps42
    go_wp2_with fail
    go_quiet (fail)
    go_wp2_with fail
    go_quiet (fail)
    go_wp2_with (first | (go_at_call 47; refine (round_any _ _ _ _ _ (by omega) (by omega) _).mono ?_; rintro e w' ⟨rfl, rfl⟩) | (go_at_call 46; refine (signBit_any _ _).mono ?_; rintro e w' ⟨rfl, rfl⟩))
    go_ret
    refine ⟨ret_int ?_, bl_drewN (((Below.refl _ _).alloc (Nat.le_refl _) _).alloc (by simp) _) _⟩
    rw [xsub]
  · have hs' := eq_ff hs
    rw [if_neg hs]
    by_cases h1 : ys < B
    · rw [if_pos h1]
      go_enter Try.func42, Try.ntmps42
      go_wp2_with fail
      go_quiet (fail)
      go_wp2_with fail
      go_quiet (fail)
      go_wp2_with (first | (go_at_call 47; refine (round_any _ _ _ _ _ (by omega) (by omega) _).mono ?_; rintro e w' ⟨rfl, rfl⟩) | (go_at_call 46; refine (signBit_any _ _).mono ?_; rintro e w' ⟨rfl, rfl⟩))
      go_ret
      refine ⟨ret_int ?_, bl_drewN (((Below.refl _ _).alloc (Nat.le_refl _) _).alloc (by simp) _) _⟩
      rw [xsub]
    by_cases h2 : B < ys
    · rw [if_neg h1, if_pos h2]
      go_enter Try.func42, Try.ntmps42
      go_wp2_with fail
      go_quiet (fail)
      go_wp2_with fail
      go_quiet (fail)
      go_wp2_with (first | (go_at_call 47; refine (round_any _ _ _ _ _ (by omega) (by omega) _).mono ?_; rintro e w' ⟨rfl, rfl⟩) | (go_at_call 46; refine (signBit_any _ _).mono ?_; rintro e w' ⟨rfl, rfl⟩))
      go_ret
      refine ⟨ret_int ?_, bl_drewN (((Below.refl _ _).alloc (Nat.le_refl _) _).alloc (by simp) _) _⟩
      rw [xsub]
    · rw [if_neg h1, if_neg h2]
      go_enter Try.func42, Try.ntmps42
      go_wp2_with fail
      go_quiet (fail)
      go_wp2_with fail
      go_quiet (fail)
      go_wp2_with (first | (go_at_call 47; refine (round_any _ _ _ _ _ (by omega) (by omega) _).mono ?_; rintro e w' ⟨rfl, rfl⟩) | (go_at_call 46; refine (signBit_any _ _).mono ?_; rintro e w' ⟨rfl, rfl⟩))
      go_ret
      refine ⟨ret_int ?_, bl_drewN (((Below.refl _ _).alloc (Nat.le_refl _) _).alloc (by simp) _) _⟩
      first | rfl | (congr 1; rw [Bool.eq_iff_iff]; simp)

set_option maxRecDepth 100000 in
set_option maxHeartbeats 1000000 in
theorem sum_far_sw (way : Int) (xn yn : Bool) (xe xs ye ys : Int) (hx0 : 0 ≤ xs) (hx1 : xs < 16777216) (hy0 : 0 ≤ ys) (hy1 : ys < 16777216)
    (ex0 : -149 ≤ xe) (ex1 : xe ≤ 105) (ey0 : -149 ≤ ye) (ey1 : ye ≤ 105)  (hgap : 39 < xe - ye) (hxb : 8388608 ≤ xs) (w : World) :
    Calls Try.prog 42 #[.int .i64 way, .agg #[.bool yn, .int .i64 ye, .int .u64 ys], .agg #[.bool xn, .int .i64 xe, .int .u64 xs]] w fun e w' => e = .returned (.int .u32 (Flt.sumOrd way xn xe xs yn ye ys)) ∧ Below w.heap.size w w' := by
  have hs1 := shr_any ys (xe - ye - 39) hy0 (by omega) (by omega)
  have hs2 := shl_back ys (xe - ye - 39) hy0 (by omega) (by omega)
  have hB : IntKind.u64.wrap (xs * 549755813888) = xs * 549755813888 := wrap_u64_in _ (by omega) (by omega)
  obtain ⟨q0, q1⟩ := div_le_self2 ys (xe - ye - 39) hy0
  have hsum : Flt.sumOrd way xn xe xs yn ye ys = if xn = yn then Flt.rnd way xn (xe - 39) (xs * 549755813888 + ys / 2 ^ (xe - ye - 39).toNat) (decide (ys / 2 ^ (xe - ye - 39).toNat * 2 ^ (xe - ye - 39).toNat ≠ ys))
     else if ys / 2 ^ (xe - ye - 39).toNat * 2 ^ (xe - ye - 39).toNat ≠ ys then Flt.rnd way xn (xe - 39) (xs * 549755813888 - (ys / 2 ^ (xe - ye - 39).toNat + 1)) true
     else Flt.rnd way xn (xe - 39) (xs * 549755813888 - ys / 2 ^ (xe - ye - 39).toNat) false := by unfold Flt.sumOrd; rw [if_neg (by omega)]
  rw [hsum]; clear hsum
  generalize ys / 2 ^ (xe - ye - 39).toNat * 2 ^ (xe - ye - 39).toNat = T at *
  generalize ys / 2 ^ (xe - ye - 39).toNat = Q at *
  by_cases hT : T = ys
  · have hT' : (T != ys) = false := by rw [bne_eq_false_iff_eq]; exact hT
    have hT2 : decide (T ≠ ys) = false := by simp [hT]
    have HT := hide hT
    rw [hT2]
    by_cases hs : xn = yn
    · rw [if_pos hs]
      clear hT hT2
      subst hs
      go_enter Try.func42, Try.ntmps42
      go_wp2_with fail
      go_quiet (fail)
      go_wp2_with fail
      go_quiet (fail)
      go_wp2_with (first | (go_at_call 47; refine (round_any _ _ _ _ _ (by omega) (by omega) _).mono ?_; rintro e w' ⟨rfl, rfl⟩) | (go_at_call 46; refine (signBit_any _ _).mono ?_; rintro e w' ⟨rfl, rfl⟩))
      go_ret
      refine ⟨ret_int ?_, bl_drewN (((Below.refl _ _).alloc (Nat.le_refl _) _).alloc (by simp) _) _⟩
      rfl
    · have hs' := eq_ff hs
      rw [if_neg hs, if_neg (by simp [hT])]
      clear hT hT2
      go_enter Try.func42, Try.ntmps42
      go_wp2_with fail
      go_quiet (fail)
      go_wp2_with fail
      go_quiet (fail)
      go_wp2_with (first | (go_at_call 47; refine (round_any _ _ _ _ _ (by omega) (by omega) _).mono ?_; rintro e w' ⟨rfl, rfl⟩) | (go_at_call 46; refine (signBit_any _ _).mono ?_; rintro e w' ⟨rfl, rfl⟩))
      go_ret
      refine ⟨ret_int ?_, bl_drewN (((Below.refl _ _).alloc (Nat.le_refl _) _).alloc (by simp) _) _⟩
      rfl
  · have hT' : (T != ys) = true := by rw [bne_iff_ne]; exact hT
    have hT2 : decide (T ≠ ys) = true := by simp [hT]
    have HT := hide hT
    rw [hT2]
    by_cases hs : xn = yn
    · rw [if_pos hs]
      clear hT hT2
      subst hs
      go_enter Try.func42, Try.ntmps42
      go_wp2_with fail
      go_quiet (fail)
      go_wp2_with fail
      go_quiet (fail)
      go_wp2_with (first | (go_at_call 47; refine (round_any _ _ _ _ _ (by omega) (by omega) _).mono ?_; rintro e w' ⟨rfl, rfl⟩) | (go_at_call 46; refine (signBit_any _ _).mono ?_; rintro e w' ⟨rfl, rfl⟩))
      go_ret
      refine ⟨ret_int ?_, bl_drewN (((Below.refl _ _).alloc (Nat.le_refl _) _).alloc (by simp) _) _⟩
      rfl
    · have hs' := eq_ff hs
      rw [if_neg hs, if_pos hT]
      clear hT hT2
      go_enter Try.func42, Try.ntmps42
      go_wp2_with fail
      go_quiet (fail)
      go_wp2_with fail
      go_quiet (fail)
      go_wp2_with (first | (go_at_call 47; refine (round_any _ _ _ _ _ (by omega) (by omega) _).mono ?_; rintro e w' ⟨rfl, rfl⟩) | (go_at_call 46; refine (signBit_any _ _).mono ?_; rintro e w' ⟨rfl, rfl⟩))
      go_ret
      refine ⟨ret_int ?_, bl_drewN (((Below.refl _ _).alloc (Nat.le_refl _) _).alloc (by simp) _) _⟩
      rfl

end Go.Proofs.Ytkbniebahledmaa
