/-
  Walks of package round's words laid lower, of two words rounded, and of its sums.
-/
import Derived.Test.YtkbniebahledmaaWkZa
import Derived.Test.YtkbniebahledmaaFltM
namespace Go.Proofs.Ytkbniebahledmaa
open Go.RowKit
set_option linter.unusedVariables false

theorem ret_low {a b c d : Int} {m k : Bool} (h1 : a = c) (h2 : b = d) (h3 : m = k) :
    Ending.returned (.tuple #[.agg #[.int .u64 a, .int .u64 b], .bool m]) = .returned (.tuple #[.agg #[.int .u64 c, .int .u64 d], .bool k]) := by rw [h1, h2, h3]

theorem shl_any (s d R : Int) (h0 : 0 ≤ d) (h1 : d ≤ 64) (hR : s * 2 ^ d.toNat % 18446744073709551616 = R) : Op.shift .shl .u64 s .i64 d = pure (.int .u64 R) := by
  rw [shift_shl .u64 .i64 _ _ h0 (by simp [IntKind.bits]; omega), IntKind.wrap_u64, hR]

set_option maxRecDepth 100000 in
set_option maxHeartbeats 1000000 in
theorem lowered_lo (s n H R : Int) (h0 : 0 ≤ s) (h1 : s < 9223372036854775808) (n0 : 0 ≤ n) (n1 : n < 64) (hH : s / 2 ^ n.toNat = H) (hR : IntKind.u64.wrap (s * 2 ^ (64 - n).toNat) = R) (w : World) :
    Calls Try.prog 59 #[.int .u64 s, .int .i64 n] w
      fun e w' => e = .returned (.tuple #[.agg #[.int .u64 H, .int .u64 R], .bool false]) ∧ Below w.heap.size w w' := by
  go_enter Try.func59, Try.ntmps59
  go_wp2_with fail
  go_region
  go_wp2_with fail
  refine bodyPost_ret (v := .tuple #[.agg #[.int .u64 H, .int .u64 R], .bool false]) (by simp [results, Try.results59, go_sem]) rfl ⟨rfl, ?_⟩
  first | exact bl_drewN ((Below.refl _ _).alloc (Nat.le_refl _) _) 1 | exact bl_drewN (((Below.refl _ _).alloc (Nat.le_refl _) _).alloc (by simp) _) 1
set_option maxRecDepth 100000 in
set_option maxHeartbeats 1000000 in
theorem lowered_far (s n : Int) (h0 : 1 ≤ s) (h1 : s < 9223372036854775808) (n0 : 128 < n) (w : World) :
    Calls Try.prog 59 #[.int .u64 s, .int .i64 n] w
      fun e w' => e = .returned (.tuple #[.agg #[.int .u64 0, .int .u64 ((0 : Nat) : Int)], .bool true]) ∧ Below w.heap.size w w' := by
  have hz : s / 18446744073709551616 = 0 := by omega
  have hz2 : s % 18446744073709551616 = s := by omega
  have hne : (s != 0) = true := by simp; omega
  go_enter Try.func59, Try.ntmps59
  go_wp2_with fail
  go_region
  all_goals go_wp2_with fail
  all_goals refine bodyPost_ret (v := .tuple #[.agg #[.int .u64 0, .int .u64 ((0 : Nat) : Int)], .bool true]) (by simp [results, Try.results59, go_sem]) rfl ⟨rfl, ?_⟩
  all_goals first | exact bl_drewN ((Below.refl _ _).alloc (Nat.le_refl _) _) 1 | exact bl_drewN (((Below.refl _ _).alloc (Nat.le_refl _) _).alloc (by simp) _) 1
set_option maxRecDepth 100000 in
set_option maxHeartbeats 1000000 in
theorem lowered_mid (s n H R : Int) (h0 : 0 ≤ s) (h1 : s < 9223372036854775808) (n0 : 64 ≤ n) (n1 : n ≤ 128) (hH : s / 2 ^ (n - 64).toNat = H) (hR : IntKind.u64.wrap (s * 2 ^ (128 - n).toNat) = R) (w : World) :
    Calls Try.prog 59 #[.int .u64 s, .int .i64 n] w
      fun e w' => e = .returned (.tuple #[.agg #[.int .u64 0, .int .u64 H], .bool (R != 0)]) ∧ Below w.heap.size w w' := by
  go_enter Try.func59, Try.ntmps59
  go_wp2_with fail
  go_region
  all_goals go_wp2_with fail
  all_goals refine bodyPost_ret (v := .tuple #[.agg #[.int .u64 0, .int .u64 H], .bool (R != 0)]) (by simp [results, Try.results59, go_sem]) rfl ⟨rfl, ?_⟩
  all_goals first | exact bl_drewN ((Below.refl _ _).alloc (Nat.le_refl _) _) 1 | exact bl_drewN (((Below.refl _ _).alloc (Nat.le_refl _) _).alloc (by simp) _) 1

set_option maxRecDepth 100000 in
set_option maxHeartbeats 1000000 in
theorem narrow_walk (way : Int) (neg : Bool) (exp hi lo L H R S Q : Int) (more : Bool) (h0 : 0 ≤ hi) (h1 : hi < 18446744073709551616) (l0 : 0 ≤ lo) (l1 : lo < 18446744073709551616)
    (L0 : 0 ≤ L) (L1 : L ≤ 64) (S0 : 0 ≤ S) (S1 : S < 18446744073709551616) (e0 : -1000 ≤ exp) (e1 : exp ≤ 1000)
    (hL : Flt.lz hi = L) (hH : IntKind.u64.wrap (hi * 2 ^ L.toNat) = H) (hR : lo / 2 ^ (64 - L).toNat = R) (hS : bits .or .u64 H R = S) (hQ : IntKind.u64.wrap (lo * 2 ^ L.toNat) = Q) (w : World) :
    Calls Try.prog 60 #[.int .i64 way, .bool neg, .int .i64 exp, .agg #[.int .u64 hi, .int .u64 lo], .bool more] w
      fun e w' => e = .returned (.int .u32 (Flt.rnd way neg (exp - L) S (more || (Q != 0)))) ∧ Below w.heap.size w w' := by
  have hlead : ∀ w, Calls Try.prog 50 #[.int .u64 hi] w fun e w' => e = .returned (.int .i64 L) ∧ w' = w := by
    intro w; have := lead_any hi h0 h1 w; rw [hL] at this; exact this
  have HL := hide hlead
  clear hlead hL
  cases more
  all_goals
    go_enter Try.func60, Try.ntmps60
    go_wp2_with (go_at_call 50; refine (unhide HL _).mono ?_; rintro e w' ⟨rfl, rfl⟩)
    go_quiet (fail)
    go_wp2_with fail
    refine (round_any _ _ _ _ _ S0 S1 _).mono ?_
    rintro e w1 ⟨rfl, rfl⟩
    go_wp2_with fail
    go_ret
    refine ⟨ret_int (by simp), ?_⟩
    exact bl_drewN ((Below.refl _ _).alloc (Nat.le_refl _) _) _

theorem or_disj (x y : Int) (k : Nat) (hx : 0 ≤ x) (y0 : 0 ≤ y) (y1 : y < 2 ^ k) (hs : x * 2 ^ k + y < 18446744073709551616) : bits .or .u64 (x * 2 ^ k) y = x * 2 ^ k + y := by
  obtain ⟨X, rfl⟩ := Int.eq_ofNat_of_zero_le hx
  obtain ⟨Y, rfl⟩ := Int.eq_ofNat_of_zero_le y0
  have hc : (X : Int) * 2 ^ k = ((X * 2 ^ k : Nat) : Int) := by rw [Flt.pow_cast, ← Int.natCast_mul]
  have hY : Y < 2 ^ k := by rw [Flt.pow_cast] at y1; exact Int.ofNat_lt.1 y1
  rw [hc] at hs ⊢
  have key : (X * 2 ^ k) ||| Y = X * 2 ^ k + Y := by
    have := Nat.two_pow_add_eq_or_of_lt hY X
    rw [Nat.mul_comm X]; exact this.symm
  obtain ⟨Z, hZ⟩ : ∃ Z, X * 2 ^ k = Z := ⟨_, rfl⟩
  rw [hZ] at hs key ⊢
  clear hZ hc hx y0 y1
  go_bits2

theorem cast_lt64 (n : Nat) (h : n < 2 ^ 64) : (n : Int) < 18446744073709551616 := by
  have : (2 : Nat) ^ 64 = 18446744073709551616 := by decide
  omega
theorem bitLen_le64 (n : Nat) (h : n < 2 ^ 64) : bitLen n ≤ 64 := by
  have := len_le (n : Int) (cast_lt64 n h)
  rw [Int.toNat_natCast] at this
  exact this
theorem ofnat_eq (x : Int) (h : 0 ≤ x) : ∃ n : Nat, x = (n : Int) := ⟨x.toNat, by omega⟩
theorem bne_of (R : Int) (b : Bool) (h : b = true ↔ R ≠ 0) : b = (R != 0) := by
  rw [Bool.eq_iff_iff, h]; simp

theorem lowered_any (S N : Nat) (s n th tl : Int) (more : Bool) (hs : s = (S : Int)) (hn : n = (N : Int)) (h0 : 1 ≤ S) (h1 : S < 2 ^ 63)
    (hth : th = ((Flt.lowT S N / 2 ^ 64 : Nat) : Int)) (htl : tl = ((Flt.lowT S N % 2 ^ 64 : Nat) : Int)) (hm : more = Flt.lowM S N) (w : World) :
    Calls Try.prog 59 #[.int .u64 s, .int .i64 n] w
      fun e w' => e = .returned (.tuple #[.agg #[.int .u64 th, .int .u64 tl], .bool more]) ∧ Below w.heap.size w w' := by
  have h1' : s < 9223372036854775808 := by
    have : (2 : Nat) ^ 63 = 9223372036854775808 := by decide
    omega
  by_cases c1 : N < 64
  · obtain ⟨e1, e2, e3⟩ := Flt.low_lo S N c1
    rw [hm, e3]
    refine lowered_lo s n th tl (by omega) h1' (by omega) (by omega) ?_ ?_ w
    · rw [hs, hn, Int.toNat_natCast, hth, e1, Flt.div_cast]
    · rw [hs, hn, htl, e2, show (64 - (N : Int)).toNat = 64 - N by omega, Flt.pow_cast, ← Int.natCast_mul, IntKind.wrap_u64]
      rw [show (2 : Nat) ^ 64 = 18446744073709551616 by decide]
      generalize S * 2 ^ (64 - N) = z
      omega
  · obtain ⟨e1, e2, e3⟩ := Flt.low_hi S N h1 (by omega)
    rw [e1] at hth
    subst hth
    by_cases c2 : N ≤ 128
    · obtain ⟨R, hR⟩ : ∃ R, IntKind.u64.wrap (s * 2 ^ (128 - n).toNat) = R := ⟨_, rfl⟩
      have hb : more = (R != 0) := by
        refine bne_of R more ?_
        rw [hm, e3, ← hR, hs, hn, show (128 - (N : Int)).toNat = 64 - (N - 64) by omega, Flt.pow_cast, ← Int.natCast_mul, IntKind.wrap_u64]
        have := Flt.low_rest S (N - 64) (by omega)
        rw [show (2 : Nat) ^ 64 = 18446744073709551616 by decide] at this
        rw [ne_eq, ← not_congr this]
        generalize S * 2 ^ (64 - (N - 64)) = z
        omega
      rw [hb]
      refine lowered_mid s n tl R (by omega) h1' (by omega) (by omega) ?_ hR w
      rw [hs, hn, show ((N : Int) - 64).toNat = N - 64 by omega, htl, e2, Flt.div_cast]
    · have hlt : S < 2 ^ (N - 64) := by
        have : (2 : Nat) ^ 63 ≤ 2 ^ (N - 64) := Nat.pow_le_pow_right (by decide) (by omega)
        omega
      rw [Nat.div_eq_of_lt hlt] at e2
      rw [Nat.mod_eq_of_lt hlt] at e3
      have hb : more = true := by rw [hm, e3]; omega
      rw [e2] at htl
      rw [htl, hb]
      refine (lowered_far s n (by omega) h1' (by omega) w)

theorem narrow_any (way : Int) (neg : Bool) (exp hi lo : Int) (T : Nat) (more : Bool) (hT : T < 2 ^ 128) (e0 : -1000 ≤ exp) (e1 : exp ≤ 1000)
    (hhi : hi = ((T / 2 ^ 64 : Nat) : Int)) (hlo : lo = ((T % 2 ^ 64 : Nat) : Int)) (w : World) :
    Calls Try.prog 60 #[.int .i64 way, .bool neg, .int .i64 exp, .agg #[.int .u64 hi, .int .u64 lo], .bool more] w
      fun e w' => e = .returned (.int .u32 (Flt.narrowM way neg exp T more)) ∧ Below w.heap.size w w' := by
  have n64 : (2 : Nat) ^ 64 = 18446744073709551616 := by decide
  have hh : T / 2 ^ 64 < 2 ^ 64 := Nat.div_lt_of_lt_mul (by rw [← Nat.pow_add]; exact hT)
  have hl : T % 2 ^ 64 < 2 ^ 64 := Nat.mod_lt _ (Nat.two_pow_pos 64)
  have hB : bitLen (T / 2 ^ 64) ≤ 64 := bitLen_le64 _ hh
  obtain ⟨s1, s2⟩ := bitLen_spec (T / 2 ^ 64)
  obtain ⟨p1, p2⟩ := Flt.narrow_parts T (bitLen (T / 2 ^ 64)) hB
  have hlz : Flt.lz hi = 64 - (bitLen (T / 2 ^ 64) : Int) := by rw [hhi]; unfold Flt.lz; rw [Int.toNat_natCast]
  unfold Flt.narrowM
  generalize bitLen (T / 2 ^ 64) = B at *
  obtain ⟨Q, hQ⟩ : ∃ Q, IntKind.u64.wrap (lo * 2 ^ (64 - (B : Int)).toNat) = Q := ⟨_, rfl⟩
  have hLn : (64 - (B : Int)).toNat = 64 - B := by omega
  have hsum : T / 2 ^ 64 * 2 ^ (64 - B) < 2 ^ 64 := by
    have e : (2 : Nat) ^ 64 = 2 ^ B * 2 ^ (64 - B) := by rw [← Nat.pow_add]; congr 1; omega
    have h1 : T / 2 ^ 64 * 2 ^ (64 - B) < 2 ^ B * 2 ^ (64 - B) := Nat.mul_lt_mul_of_pos_right s1 (Nat.two_pow_pos _)
    rw [← e] at h1
    exact h1
  have hR : T % 2 ^ 64 / 2 ^ B < 2 ^ (64 - B) := by
    refine Nat.div_lt_of_lt_mul ?_
    rw [← Nat.pow_add, show B + (64 - B) = 64 by omega]; exact hl
  have hsum2 : T / 2 ^ 64 * 2 ^ (64 - B) + T % 2 ^ 64 / 2 ^ B < 2 ^ 64 := by
    have e : (2 : Nat) ^ 64 = 2 ^ B * 2 ^ (64 - B) := by rw [← Nat.pow_add]; congr 1; omega
    have h1 : (T / 2 ^ 64 + 1) * 2 ^ (64 - B) ≤ 2 ^ B * 2 ^ (64 - B) := Nat.mul_le_mul_right _ s1
    rw [Nat.add_mul, ← e] at h1
    omega
  have hm : (decide (T % 2 ^ B ≠ 0)) = (Q != 0) := by
    refine bne_of Q _ ?_
    rw [decide_eq_true_eq, ne_eq, ne_eq, p2, ← hQ, hLn, hlo, Flt.pow_cast, ← Int.natCast_mul, IntKind.wrap_u64, n64]
    generalize T % 18446744073709551616 * 2 ^ (64 - B) = z
    omega
  have hS : (((T / 2 ^ B : Nat)) : Int) = hi * 2 ^ (64 - B) + ((T % 2 ^ 64 / 2 ^ B : Nat) : Int) := by
    rw [p1, hhi, Int.natCast_add, Int.natCast_mul, Flt.pow_cast]
  have hS1 : hi * 2 ^ (64 - B) + ((T % 2 ^ 64 / 2 ^ B : Nat) : Int) < 18446744073709551616 := by
    rw [← hS, p1]; exact cast_lt64 _ hsum2
  have hlo1 : lo < 18446744073709551616 := by rw [hlo]; exact cast_lt64 _ hl
  have hhi1 : hi < 18446744073709551616 := by rw [hhi]; exact cast_lt64 _ hh
  have hH : hi * 2 ^ (64 - B) < 18446744073709551616 := by rw [hhi, Flt.pow_cast, ← Int.natCast_mul]; exact cast_lt64 _ hsum
  have hH0 : 0 ≤ hi * 2 ^ (64 - B) := by rw [hhi, Flt.pow_cast, ← Int.natCast_mul]; exact Int.natCast_nonneg _
  rw [hm, hS]
  refine narrow_walk way neg exp hi lo (64 - (B : Int)) (hi * 2 ^ (64 - B)) ((T % 2 ^ 64 / 2 ^ B : Nat) : Int) _ Q more (by rw [hhi]; exact Int.natCast_nonneg _) hhi1 (by rw [hlo]; exact Int.natCast_nonneg _) hlo1
    (by omega) (by omega) (Int.add_nonneg hH0 (Int.natCast_nonneg _)) hS1 e0 e1 hlz ?_ ?_ ?_ hQ w
  · rw [hLn, wrap_u64_in _ hH0 hH]
  · rw [hlo, show (64 - (64 - (B : Int))).toNat = B by omega, Flt.div_cast]
  · refine or_disj hi _ (64 - B) (by rw [hhi]; exact Int.natCast_nonneg _) (Int.natCast_nonneg _) ?_ hS1
    rw [Flt.pow_cast]; exact Int.ofNat_lt.2 hR
end Go.Proofs.Ytkbniebahledmaa
