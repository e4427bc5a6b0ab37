/-
  The walk of package soft's Round, for every input.
-/
import Derived.Test.YtkbniebahledmaaWkB
namespace Go.Proofs.Ytkbniebahledmaa
open Go.RowKit

theorem lz_range (x : Int) (h0 : 1 ≤ x) (h1 : x < 18446744073709551616) :
    0 ≤ Flt.lz x ∧ Flt.lz x ≤ 63 ∧ 9223372036854775808 ≤ x * 2 ^ (Flt.lz x).toNat ∧ x * 2 ^ (Flt.lz x).toNat < 18446744073709551616 := by
  obtain ⟨n, rfl⟩ := Int.eq_ofNat_of_zero_le (show 0 ≤ x by omega)
  have hb := len_le n h1
  obtain ⟨s1, s2⟩ := bitLen_spec n
  have s3 := s2 (by omega)
  unfold Flt.lz
  rw [Int.toNat_natCast] at *
  generalize bitLen n = B at *
  have hB : 1 ≤ B := by
    rcases Nat.eq_zero_or_pos B with h | h
    · rw [h] at s1; simp at s1; omega
    · exact h
  refine ⟨by omega, by omega, ?_⟩
  have e : (64 - (B : Int)).toNat = 64 - B := by omega
  rw [e]
  have p1 : (2 : Nat) ^ (B - 1) * 2 ^ (64 - B) = 9223372036854775808 := by
    rw [← Nat.pow_add, show B - 1 + (64 - B) = 63 by omega]
  have p2 : (2 : Nat) ^ B * 2 ^ (64 - B) = 18446744073709551616 := by
    rw [← Nat.pow_add, show B + (64 - B) = 64 by omega]
  have q1 : 2 ^ (B - 1) * 2 ^ (64 - B) ≤ n * 2 ^ (64 - B) := Nat.mul_le_mul_right _ s3
  have q2 : n * 2 ^ (64 - B) < 2 ^ B * 2 ^ (64 - B) := Nat.mul_lt_mul_of_pos_right s1 (Nat.two_pow_pos _)
  rw [p1] at q1
  rw [p2] at q2
  have c : ((n * 2 ^ (64 - B) : Nat) : Int) = (n : Int) * 2 ^ (64 - B) := by push_cast; rfl
  rw [← c]
  omega

theorem div_small (S d : Int) (h0 : 9223372036854775808 ≤ S) (h1 : S < 18446744073709551616) (hd : 41 ≤ d) : 0 ≤ S / 2 ^ d.toNat ∧ S / 2 ^ d.toNat < 8388608 := by
  obtain ⟨n, rfl⟩ := Int.eq_ofNat_of_zero_le (show 0 ≤ d by omega)
  rw [Int.toNat_natCast]
  have hp : (0 : Int) < 2 ^ n := Int.pow_pos (by decide)
  refine ⟨Int.ediv_nonneg (by omega) (by omega), Int.ediv_lt_of_lt_mul hp ?_⟩
  have e : (2 : Int) ^ n = 2 ^ 41 * 2 ^ (n - 41) := by rw [← Int.pow_add, show 41 + (n - 41) = n by omega]
  have h2 : (0 : Int) < 2 ^ (n - 41) := Int.pow_pos (by decide)
  rw [e]
  generalize (2 : Int) ^ (n - 41) = y at *
  have : (2 : Int) ^ 41 = 2199023255552 := by decide
  rw [this]
  omega

theorem div_zero (S d : Int) (h0 : 0 ≤ S) (h1 : S < 18446744073709551616) (hd : 64 ≤ d) : S / 2 ^ d.toNat = 0 := by
  refine Int.ediv_eq_zero_of_lt (by omega) ?_
  have e2 : (2 : Int) ^ d.toNat = 2 ^ 64 * 2 ^ (d.toNat - 64) := by rw [← Int.pow_add, show 64 + (d.toNat - 64) = d.toNat by omega]
  have h2 : (0 : Int) < 2 ^ (d.toNat - 64) := Int.pow_pos (by decide)
  rw [e2]
  generalize (2 : Int) ^ (d.toNat - 64) = y at *
  have : (2 : Int) ^ 64 = 18446744073709551616 := by decide
  rw [this]
  omega

theorem core_tiny (way : Int) (neg : Bool) : Flt.core way neg 9223372036854775808 (-873) true = if Flt.goesOn way neg 9223372036854775808 914 true = true then 1 else 0 := by
  unfold Flt.core
  rw [if_neg (by omega), if_pos (by omega), div_zero _ _ (by omega) (by omega) (by omega), Int.zero_add, show (41 - -873 : Int) = 914 by omega]

theorem shift_big (S d : Int) (h0 : 9223372036854775808 ≤ S) (h1 : S < 18446744073709551616) (hd : 41 ≤ d) :
    Op.shift .shr .u64 S .i64 d = pure (.int .u64 (S / 2 ^ d.toNat)) := by
  by_cases h : d ≤ 64
  · exact shift_shr .u64 .i64 S d (by omega) h
  · rw [shift_shr_any .u64 .i64 S d (by omega)]
    have e : min d.toNat IntKind.u64.bits = 64 := by simp [IntKind.bits]; omega
    rw [e]
    have a1 : S / 2 ^ 64 = 0 := Int.ediv_eq_zero_of_lt (by omega) (by rw [show (2 : Int) ^ 64 = 18446744073709551616 by decide]; omega)
    have a2 : S / 2 ^ d.toNat = 0 := div_zero S d (by omega) h1 (by omega)
    rw [a1, a2]

theorem sign_or (neg : Bool) (x : Int) (h0 : 0 ≤ x) (h1 : x < 2147483648) : bits .or .u32 (Flt.signBit neg) x = Flt.signBit neg + x := by
  cases neg
  · simp only [Flt.signBit]; exact (Flt.or0 x h0 (by omega)).trans (by simp)
  · simp only [Flt.signBit]; exact (Flt.or31 x h0 h1).trans (by simp; omega)

set_option maxHeartbeats 1000000 in
theorem round_norm (way : Int) (neg : Bool) (exp s : Int) (more : Bool) (L S E : Int) (h0 : 1 ≤ s) (h1 : s < 18446744073709551616)
    (hL : Flt.lz s = L) (L0 : 0 ≤ L) (L1 : L ≤ 63) (hS : IntKind.u64.wrap (s * 2 ^ L.toNat) = S) (S0 : 9223372036854775808 ≤ S) (S1 : S < 18446744073709551616)
    (hE : (exp ≤ -1000 ∧ E = -1000) ∨ (1000 ≤ exp ∧ E = 1000) ∨ (-1000 < exp ∧ exp < 1000 ∧ E = exp)) (w : World) :
    Calls Try.prog 47 #[.int .i64 way, .bool neg, .int .i64 exp, .int .u64 s, .bool more] w fun e w' => e = .returned (.int .u32 (Flt.signBit neg + Flt.core way neg S (E - L + 190) more)) ∧ w' = w := by
  have hlead : ∀ w, Calls Try.prog 50 #[.int .u64 s] w fun e w' => e = .returned (.int .i64 L) ∧ w' = w := by
    intro w; have := lead_any s (by omega) h1 w; rw [hL] at this; exact this
  clear hL
  have hs0 : (s == 0) = false := by simp; omega
  have HL := hide hlead
  clear hlead
  rcases hE with ⟨hE, rfl⟩ | ⟨hE, rfl⟩ | ⟨hE, hE', rfl⟩
  · skip
    have hq := div_small S (40 + (1 - (-1000 - L + 40 + 149 + 1))) S0 S1 (by omega)
    obtain ⟨q0, q1⟩ := hq
    have hsh : Op.shift .shr .u64 S .i64 (40 + (1 - (-1000 - L + 40 + 149 + 1))) = pure (.int .u64 (S / 2 ^ (40 + (1 - (-1000 - L + 40 + 149 + 1))).toNat)) := shift_big S _ S0 S1 (by omega)
    go_enter Try.func47, Try.ntmps47
    go_wp2_with (first | (go_at_call 46; refine (signBit_any _ _).mono ?_; rintro e w' ⟨rfl, rfl⟩) | (go_at_call 50; refine (unhide HL _).mono ?_; rintro e w' ⟨rfl, rfl⟩) | (go_at_call 63; refine (beyond_any _ _ _).mono ?_; rintro e w' ⟨rfl, rfl⟩) | (go_at_call 64; refine (goesOn_any _ _ _ _ _ (by omega) (by omega) (by omega) (by omega) _).mono ?_; rintro e w' ⟨rfl, rfl⟩))
    all_goals (have hgo := ‹Flt.goesOn _ _ _ _ _ = _›)
    all_goals go_ret
    all_goals refine ⟨ret_int ?_, rfl⟩
    all_goals clear hsh
    all_goals (have ed : (40 + (1 - (-1000 - L + 40 + 149 + 1))) = 41 - (-1000 - L + 190) := by omega)
    all_goals rw [ed] at hgo q0 q1 ⊢
    all_goals (rw [sign_or _ _ (by omega) (by omega)]; unfold Flt.core; rw [if_neg (by omega), if_pos (by omega), hgo]; simp)
  · have hb : 0 ≤ Flt.beyond way neg ∧ Flt.beyond way neg < 2147483648 := by unfold Flt.beyond; split <;> omega
    obtain ⟨b0, b1⟩ := hb
    go_enter Try.func47, Try.ntmps47
    go_wp2_with (first | (go_at_call 46; refine (signBit_any _ _).mono ?_; rintro e w' ⟨rfl, rfl⟩) | (go_at_call 50; refine (unhide HL _).mono ?_; rintro e w' ⟨rfl, rfl⟩) | (go_at_call 63; refine (beyond_any _ _ _).mono ?_; rintro e w' ⟨rfl, rfl⟩) | (go_at_call 64; refine (goesOn_any _ _ _ _ _ (by omega) (by omega) (by omega) (by omega) _).mono ?_; rintro e w' ⟨rfl, rfl⟩))
    go_ret
    exact ⟨ret_int (by rw [sign_or _ _ b0 b1]; unfold Flt.core; rw [if_pos (by omega)]), rfl⟩
  · have hb : 0 ≤ Flt.beyond way neg ∧ Flt.beyond way neg < 2147483648 := by unfold Flt.beyond; split <;> omega
    obtain ⟨b0, b1⟩ := hb
    by_cases f1 : 254 < E - L + 190
    · go_enter Try.func47, Try.ntmps47
      go_wp2_with (first | (go_at_call 46; refine (signBit_any _ _).mono ?_; rintro e w' ⟨rfl, rfl⟩) | (go_at_call 50; refine (unhide HL _).mono ?_; rintro e w' ⟨rfl, rfl⟩) | (go_at_call 63; refine (beyond_any _ _ _).mono ?_; rintro e w' ⟨rfl, rfl⟩) | (go_at_call 64; refine (goesOn_any _ _ _ _ _ (by omega) (by omega) (by omega) (by omega) _).mono ?_; rintro e w' ⟨rfl, rfl⟩))
      go_ret
      exact ⟨ret_int (by rw [sign_or _ _ b0 b1]; unfold Flt.core; rw [if_pos (by omega)]), rfl⟩
    by_cases f2 : E - L + 190 < 1
    · skip
      have hq := div_small S (40 + (1 - (E - L + 40 + 149 + 1))) S0 S1 (by omega)
      obtain ⟨q0, q1⟩ := hq
      have hsh : Op.shift .shr .u64 S .i64 (40 + (1 - (E - L + 40 + 149 + 1))) = pure (.int .u64 (S / 2 ^ (40 + (1 - (E - L + 40 + 149 + 1))).toNat)) := shift_big S _ S0 S1 (by omega)
      go_enter Try.func47, Try.ntmps47
      go_wp2_with (first | (go_at_call 46; refine (signBit_any _ _).mono ?_; rintro e w' ⟨rfl, rfl⟩) | (go_at_call 50; refine (unhide HL _).mono ?_; rintro e w' ⟨rfl, rfl⟩) | (go_at_call 63; refine (beyond_any _ _ _).mono ?_; rintro e w' ⟨rfl, rfl⟩) | (go_at_call 64; refine (goesOn_any _ _ _ _ _ (by omega) (by omega) (by omega) (by omega) _).mono ?_; rintro e w' ⟨rfl, rfl⟩))
      all_goals (have hgo := ‹Flt.goesOn _ _ _ _ _ = _›)
      all_goals go_ret
      all_goals refine ⟨ret_int ?_, rfl⟩
      all_goals clear hsh
      all_goals (have ed : (40 + (1 - (E - L + 40 + 149 + 1))) = 41 - (E - L + 190) := by omega)
      all_goals rw [ed] at hgo q0 q1 ⊢
      all_goals (rw [sign_or _ _ (by omega) (by omega)]; unfold Flt.core; rw [if_neg (by omega), if_pos (by omega), hgo]; simp)
    · go_enter Try.func47, Try.ntmps47
      go_wp2_with (first | (go_at_call 46; refine (signBit_any _ _).mono ?_; rintro e w' ⟨rfl, rfl⟩) | (go_at_call 50; refine (unhide HL _).mono ?_; rintro e w' ⟨rfl, rfl⟩) | (go_at_call 63; refine (beyond_any _ _ _).mono ?_; rintro e w' ⟨rfl, rfl⟩) | (go_at_call 64; refine (goesOn_any _ _ _ _ _ (by omega) (by omega) (by omega) (by omega) _).mono ?_; rintro e w' ⟨rfl, rfl⟩))
      all_goals (have hgo := ‹Flt.goesOn _ _ _ _ _ = _›)
      all_goals go_ret
      all_goals refine ⟨ret_int ?_, rfl⟩
      all_goals (rw [sign_or _ _ (by omega) (by omega)]; unfold Flt.core; rw [if_neg (by omega), if_neg (by omega), hgo]; simp; omega)

theorem wrap_u64_in (x : Int) (h0 : 0 ≤ x) (h1 : x < 18446744073709551616) : IntKind.u64.wrap x = x := by
  rw [IntKind.wrap_u64]; omega

theorem round_any (way : Int) (neg : Bool) (exp s : Int) (more : Bool) (h0 : 0 ≤ s) (h1 : s < 18446744073709551616) (w : World) :
    Calls Try.prog 47 #[.int .i64 way, .bool neg, .int .i64 exp, .int .u64 s, .bool more] w fun e w' => e = .returned (.int .u32 (Flt.rnd way neg exp s more)) ∧ w' = w := by
  by_cases hs : s = 0
  · subst hs
    cases more
    · go_enter Try.func47, Try.ntmps47
      go_wp2_with (first | (go_at_call 46; refine (signBit_any _ _).mono ?_; rintro e w' ⟨rfl, rfl⟩) | (go_at_call 63; refine (beyond_any _ _ _).mono ?_; rintro e w' ⟨rfl, rfl⟩) | (go_at_call 64; refine (goesOn_any _ _ _ _ _ (by omega) (by omega) (by omega) (by omega) _).mono ?_; rintro e w' ⟨rfl, rfl⟩))
      go_ret
      exact ⟨ret_int (by simp [Flt.rnd]), rfl⟩
    · have hlead : ∀ w, Calls Try.prog 50 #[.int .u64 1] w fun e w' => e = .returned (.int .i64 63) ∧ w' = w := by
        intro w; exact lead_any 1 (by omega) (by omega) w
      have HL := hide hlead
      clear hlead
      go_enter Try.func47, Try.ntmps47
      go_wp2_with (first | (go_at_call 46; refine (signBit_any _ _).mono ?_; rintro e w' ⟨rfl, rfl⟩) | (go_at_call 50; refine (unhide HL _).mono ?_; rintro e w' ⟨rfl, rfl⟩) | (go_at_call 63; refine (beyond_any _ _ _).mono ?_; rintro e w' ⟨rfl, rfl⟩) | (go_at_call 64; refine (goesOn_any _ _ _ _ _ (by omega) (by omega) (by omega) (by omega) _).mono ?_; rintro e w' ⟨rfl, rfl⟩))
      all_goals (have hgo := ‹Flt.goesOn _ _ _ _ _ = _›)
      all_goals go_ret
      all_goals refine ⟨ret_int ?_, rfl⟩
      all_goals (rw [sign_or _ _ (by omega) (by omega)]; simp [Flt.rnd, core_tiny, hgo])
  · obtain ⟨a1, a2, a3, a4⟩ := lz_range s (by omega) h1
    have := round_norm way neg exp s more (Flt.lz s) (s * 2 ^ (Flt.lz s).toNat) (if exp < -1000 then -1000 else if 1000 < exp then 1000 else exp) (by omega) h1 rfl a1 a2
      (wrap_u64_in _ (by omega) a4) a3 a4 (by (repeat' split) <;> omega) w
    unfold Flt.rnd
    rw [if_neg hs]
    exact this
end Go.Proofs.Ytkbniebahledmaa
