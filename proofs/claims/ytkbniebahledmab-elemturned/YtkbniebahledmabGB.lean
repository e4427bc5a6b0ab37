import Derived.Test.YtkbniebahledmabChecked
import Derived.Test.YtkbniebahledmabGA
import Derived.WalkKit
import Derived.ProofKit
import Derived.OpenShut
import Derived.Deep.QuietTactic
import Derived.BigQuiet
import Derived.Deep.RegionWith
import Derived.Below
import Derived.Handy
import Derived.RegionTactic
import Derived.ChangeAlike

/-
  Walks of package soft's small functions: what each returns, for every float.
-/
namespace Go.Proofs.Ytkbniebahledmab
open Go.RowKit

theorem hide {p : Prop} (h : p) : Hid p := h
theorem unhide {p : Prop} (h : Hid p) : p := h
theorem wf_u32_iff {n : Int} (h : (Lit.int .u32 n).wf = true) : 0 ≤ n ∧ n < 4294967296 := by
  simp [Lit.wf, IntKind.min, IntKind.max, IntKind.signed, IntKind.bits] at h; omega
theorem wf_u64_iff {n : Int} (h : (Lit.int .u64 n).wf = true) : 0 ≤ n ∧ n < 18446744073709551616 := by
  simp [Lit.wf, IntKind.min, IntKind.max, IntKind.signed, IntKind.bits] at h; omega
theorem wf_i64_iff {n : Int} (h : (Lit.int .i64 n).wf = true) : -9223372036854775808 ≤ n ∧ n < 9223372036854775808 := by
  simp [Lit.wf, IntKind.min, IntKind.max, IntKind.signed, IntKind.bits] at h; omega
theorem ret_int {k : IntKind} {a b : Int} (h : a = b) : Ending.returned (.int k a) = .returned (.int k b) := by rw [h]
theorem ret_bool {a b : Bool} (h : a = b) : Ending.returned (.bool a) = .returned (.bool b) := by rw [h]

theorem below_any (a : Int) (h0 : 0 ≤ a) (h1 : a < 4294967296) (w : World) :
    Calls Try.prog 63 #[.int .u32 a] w fun e w' => e = .returned (.bool (Flt.sgn a)) ∧ w' = w := by
  go_enter Try.func63, Try.ntmps63
  go_wp2
  go_ret
  refine ⟨ret_bool ?_, rfl⟩
  unfold Flt.sgn
  rw [Bool.eq_iff_iff]; simp; omega

theorem kind_any (a : Int) (h0 : 0 ≤ a) (h1 : a < 4294967296) (w : World) :
    Calls Try.prog 47 #[.int .u32 a] w fun e w' => e = .returned (.int .i64 (Flt.kind a)) ∧ w' = w := by
  have e1 := Flt.and23 a h0 h1
  have e2 := Flt.and8 (a / 8388608) (by omega) (by omega)
  go_enter Try.func47, Try.ntmps47
  go_wp2
  all_goals go_ret
  all_goals refine ⟨ret_int ?_, rfl⟩
  all_goals (simp only [bne_iff_ne, ne_eq, beq_iff_eq, bne_eq_false_iff_eq, beq_eq_false_iff_ne] at *)
  all_goals unfold Flt.kind
  all_goals (repeat' split) <;> omega

theorem nan_any (a : Int) (h0 : 0 ≤ a) (h1 : a < 4294967296) (w : World) :
    Calls Try.prog 22 #[.int .u32 a] w fun e w' => e = .returned (.bool (Flt.isNaN a)) ∧ w' = w := by
  go_enter Try.func22, Try.ntmps22
  go_wp2_with (go_at_call 47; refine (kind_any _ h0 h1 _).mono ?_; rintro e w' ⟨rfl, rfl⟩)
  go_ret
  refine ⟨ret_bool ?_, rfl⟩
  unfold Flt.isNaN Flt.kind
  rw [Bool.eq_iff_iff]; simp; (repeat' split) <;> omega

theorem inf_any (a : Int) (h0 : 0 ≤ a) (h1 : a < 4294967296) (w : World) :
    Calls Try.prog 39 #[.int .u32 a] w fun e w' => e = .returned (.bool (Flt.isInf a)) ∧ w' = w := by
  go_enter Try.func39, Try.ntmps39
  go_wp2_with (go_at_call 47; refine (kind_any _ h0 h1 _).mono ?_; rintro e w' ⟨rfl, rfl⟩)
  go_ret
  refine ⟨ret_bool ?_, rfl⟩
  unfold Flt.isInf Flt.kind
  rw [Bool.eq_iff_iff]; simp; (repeat' split) <;> omega

theorem neg_any (a : Int) (h0 : 0 ≤ a) (h1 : a < 4294967296) (w : World) :
    Calls Try.prog 34 #[.int .u32 a] w fun e w' => e = .returned (.int .u32 (Flt.negF a)) ∧ w' = w := by
  have e1 := Flt.xor31 a h0 h1
  go_enter Try.func34, Try.ntmps34
  go_wp2
  go_ret
  exact ⟨ret_int rfl, rfl⟩

theorem abs_any (a : Int) (h0 : 0 ≤ a) (h1 : a < 4294967296) (w : World) :
    Calls Try.prog 21 #[.int .u32 a] w fun e w' => e = .returned (.int .u32 (Flt.absF a)) ∧ w' = w := by
  have e1 := Flt.andNot31 a h0 h1
  go_enter Try.func21, Try.ntmps21
  go_wp2
  go_ret
  exact ⟨ret_int rfl, rfl⟩

theorem signBit_any (n : Bool) (w : World) :
    Calls Try.prog 64 #[.bool n] w fun e w' => e = .returned (.int .u32 (Flt.signBit n)) ∧ w' = w := by
  cases n
  all_goals
    go_enter Try.func64, Try.ntmps64
    go_wp2
    go_ret
    exact ⟨ret_int rfl, rfl⟩

theorem canon_any (a : Int) (h0 : 0 ≤ a) (h1 : a < 4294967296) (w : World) :
    Calls Try.prog 57 #[.int .u32 a] w fun e w' => e = .returned (.int .u32 (Flt.canon a)) ∧ w' = w := by
  cases hn : Flt.isNaN a
  all_goals
    go_enter Try.func57, Try.ntmps57
    go_wp2_with (go_at_call 22; refine (nan_any _ h0 h1 _).mono ?_; rintro e w' ⟨rfl, rfl⟩)
    go_ret
    exact ⟨ret_int (by simp [Flt.canon, hn]), rfl⟩

theorem place_any (a : Int) (h0 : 0 ≤ a) (h1 : a < 4294967296) (w : World) :
    Calls Try.prog 48 #[.int .u32 a] w fun e w' => e = .returned (.int .i64 (Flt.place a)) ∧ w' = w := by
  by_cases hs : 2147483648 ≤ a
  · have hn : Flt.sgn a = true := by simp [Flt.sgn, hs]
    have hb : 0 ≤ Flt.absF a ∧ Flt.absF a < 2147483648 := by unfold Flt.absF; omega
    obtain ⟨hb0, hb1⟩ := hb
    go_enter Try.func48, Try.ntmps48
    go_wp2_with (first | (go_at_call 63; refine (below_any _ h0 h1 _).mono ?_; rintro e w' ⟨rfl, rfl⟩) | (go_at_call 21; refine (abs_any _ h0 h1 _).mono ?_; rintro e w' ⟨rfl, rfl⟩))
    go_ret
    exact ⟨ret_int (by simp [Flt.place, hs, Flt.absF]), rfl⟩
  · have hn : Flt.sgn a = false := by simp [Flt.sgn]; omega
    go_enter Try.func48, Try.ntmps48
    go_wp2_with (first | (go_at_call 63; refine (below_any _ h0 h1 _).mono ?_; rintro e w' ⟨rfl, rfl⟩) | (go_at_call 21; refine (abs_any _ h0 h1 _).mono ?_; rintro e w' ⟨rfl, rfl⟩))
    go_ret
    exact ⟨ret_int (by unfold Flt.place; rw [if_neg (by omega)]), rfl⟩

theorem place_lo (a : Int) (h0 : 0 ≤ a) (h1 : a < 4294967296) : -2147483648 < Flt.place a ∧ Flt.place a < 2147483648 := by
  unfold Flt.place; split <;> omega

theorem less_any (a b : Int) (h0 : 0 ≤ a) (h1 : a < 4294967296) (g0 : 0 ≤ b) (g1 : b < 4294967296) (w : World) :
    Calls Try.prog 23 #[.int .u32 a, .int .u32 b] w fun e w' => e = .returned (.bool (Flt.lessF a b)) ∧ w' = w := by
  cases hn : Flt.isNaN a <;> cases hm : Flt.isNaN b
  all_goals
    go_enter Try.func23, Try.ntmps23
    go_wp2_with (first | (go_at_call 22; refine (nan_any _ (by assumption) (by assumption) _).mono ?_; rintro e w' ⟨rfl, rfl⟩) | (go_at_call 48; refine (place_any _ (by assumption) (by assumption) _).mono ?_; rintro e w' ⟨rfl, rfl⟩))
    go_ret
    exact ⟨ret_bool (by simp [Flt.lessF, hn, hm]), rfl⟩

theorem equal_any (a b : Int) (h0 : 0 ≤ a) (h1 : a < 4294967296) (g0 : 0 ≤ b) (g1 : b < 4294967296) (w : World) :
    Calls Try.prog 62 #[.int .u32 a, .int .u32 b] w fun e w' => e = .returned (.bool (Flt.equalF a b)) ∧ w' = w := by
  cases hn : Flt.isNaN a <;> cases hm : Flt.isNaN b
  all_goals
    go_enter Try.func62, Try.ntmps62
    go_wp2_with (first | (go_at_call 22; refine (nan_any _ (by assumption) (by assumption) _).mono ?_; rintro e w' ⟨rfl, rfl⟩) | (go_at_call 48; refine (place_any _ (by assumption) (by assumption) _).mono ?_; rintro e w' ⟨rfl, rfl⟩))
    go_ret
    exact ⟨ret_bool (by simp [Flt.equalF, hn, hm]), rfl⟩

end Go.Proofs.Ytkbniebahledmab

/-
  Walks of package soft's rounding: what Round returns, for every input.
-/
namespace Go.Proofs.Ytkbniebahledmab
open Go.RowKit

theorem len_close (x y k : Int) (K : Nat) (h0 : 0 ≤ x) (hK : K < 64) (hk : k = K) (hy : y = x / (2 ^ K : Nat)) (hy1 : 1 ≤ y) (hy2 : y < 256) :
    wrap64 (k + wrap64 (bitLen y.toNat)) = (bitLen x.toNat : Int) := by
  have hb := bitLen_le8 y.toNat (by omega)
  have hx : x.toNat / 2 ^ K = y.toNat := by
    obtain ⟨n, rfl⟩ := Int.eq_ofNat_of_zero_le h0
    rw [hy, ← Int.natCast_ediv, Int.toNat_natCast, Int.toNat_natCast]
  have hs := bitLen_shift x.toNat K (by rw [hx]; omega)
  rw [hx] at hs
  have hx64 : bitLen x.toNat = K + bitLen y.toNat := hs
  rw [IntWalk.wrap64_in (bitLen y.toNat) (by omega), IntWalk.wrap64_in _ (by omega), hx64]; omega
theorem len_close0 (x : Int) (h0 : 0 ≤ x) (h : x < 256) : wrap64 (wrap64 (bitLen x.toNat)) = (bitLen x.toNat : Int) := by
  have hb := bitLen_le8 x.toNat (by omega)
  rw [IntWalk.wrap64_in (bitLen x.toNat) (by omega), IntWalk.wrap64_in _ (by omega)]

set_option maxRecDepth 100000 in
set_option maxHeartbeats 400000 in
theorem len_any (x : Int) (h0 : 0 ≤ x) (h1 : x < 18446744073709551616) (w : World) :
    Calls Try.prog 80 #[.int .u64 x] w fun e w' => e = .returned (.int .i64 (bitLen x.toNat)) ∧ w' = w := by
  go_enter Try.func80, Try.ntmps80
  go_wp2
  all_goals go_ret
  all_goals refine ⟨ret_int ?_, rfl⟩
  all_goals simp only [len8tab_get]
  all_goals first
    | (refine len_close x _ _ 56 h0 (by decide) ?_ ?_ ?_ ?_ <;> omega)
    | (refine len_close x _ _ 48 h0 (by decide) ?_ ?_ ?_ ?_ <;> omega)
    | (refine len_close x _ _ 40 h0 (by decide) ?_ ?_ ?_ ?_ <;> omega)
    | (refine len_close x _ _ 32 h0 (by decide) ?_ ?_ ?_ ?_ <;> omega)
    | (refine len_close x _ _ 24 h0 (by decide) ?_ ?_ ?_ ?_ <;> omega)
    | (refine len_close x _ _ 16 h0 (by decide) ?_ ?_ ?_ ?_ <;> omega)
    | (refine len_close x _ _ 8 h0 (by decide) ?_ ?_ ?_ ?_ <;> omega)
    | (refine len_close0 x h0 ?_ <;> omega)

theorem len_le (x : Int) (h1 : x < 18446744073709551616) : bitLen x.toNat ≤ 64 := by
  unfold bitLen
  split
  · omega
  · rename_i h
    have := (Nat.log2_lt h).2 (show x.toNat < 2 ^ 64 by omega)
    omega

theorem lead_any (x : Int) (h0 : 0 ≤ x) (h1 : x < 18446744073709551616) (w : World) :
    Calls Try.prog 73 #[.int .u64 x] w fun e w' => e = .returned (.int .i64 (Flt.lz x)) ∧ w' = w := by
  have hb := len_le x h1
  go_enter Try.func73, Try.ntmps73
  go_wp2_with (go_at_call 80; refine (len_any _ h0 h1 _).mono ?_; rintro e w' ⟨rfl, rfl⟩)
  go_ret
  exact ⟨ret_int rfl, rfl⟩

set_option maxHeartbeats 400000 in
theorem goesOn_any (way : Int) (neg more : Bool) (s drop : Int) (h0 : 0 ≤ s) (h1 : s < 18446744073709551616) (d0 : 40 ≤ drop) (d1 : drop < 3000) (w : World) :
    Calls Try.prog 75 #[.int .i64 way, .bool neg, .int .u64 s, .int .i64 drop, .bool more] w fun e w' => e = .returned (.bool (Flt.goesOn way neg s drop more)) ∧ w' = w := by
  by_cases hd : drop ≤ 64
  · have hR : IntKind.u64.wrap (s * 2 ^ (64 - drop).toNat) = Flt.restOf s drop := by
      rw [IntKind.wrap_u64]; simp [Flt.restOf, hd]
    have hb : 0 ≤ s / 2 ^ drop.toNat ∧ s / 2 ^ drop.toNat < 18446744073709551616 := by
      refine ⟨Int.ediv_nonneg h0 (Int.pow_nonneg (by decide)), ?_⟩
      have := Int.ediv_le_self (2 ^ drop.toNat) h0
      omega
    have ha := Flt.and1 _ hb.1 hb.2
    go_enter Try.func75, Try.ntmps75
    go_wp2
    all_goals go_ret
    all_goals refine ⟨ret_bool ?_, rfl⟩
    all_goals clear hR ha hb
    all_goals (cases more <;> cases neg <;> simp_all [Flt.goesOn])
    all_goals (rw [Bool.eq_iff_iff]; simp)
  · have hR : Flt.restOf s drop = 0 := by simp [Flt.restOf, hd]
    go_enter Try.func75, Try.ntmps75
    go_wp2
    all_goals go_ret
    all_goals refine ⟨ret_bool ?_, rfl⟩
    all_goals (have hd' : ¬ drop ≤ 64 := by omega)
    all_goals (simp_all [Flt.goesOn])

theorem beyond_any (way : Int) (neg : Bool) (w : World) :
    Calls Try.prog 74 #[.int .i64 way, .bool neg] w fun e w' => e = .returned (.int .u32 (Flt.beyond way neg)) ∧ w' = w := by
  go_enter Try.func74, Try.ntmps74
  go_wp2
  all_goals go_ret
  all_goals refine ⟨ret_int ?_, rfl⟩
  all_goals (simp_all [Flt.beyond])
end Go.Proofs.Ytkbniebahledmab

/-
  The walk of package soft's Round, for every input.
-/
namespace Go.Proofs.Ytkbniebahledmab
open Go.RowKit

theorem lz_range (x : Int) (h0 : 1 ≤ x) (h1 : x < 18446744073709551616) :
    0 ≤ Flt.lz x ∧ Flt.lz x ≤ 63 ∧ 9223372036854775808 ≤ x * 2 ^ (Flt.lz x).toNat ∧ x * 2 ^ (Flt.lz x).toNat < 18446744073709551616 := by
  obtain ⟨n, rfl⟩ := Int.eq_ofNat_of_zero_le (show 0 ≤ x by omega)
  have hb := len_le n h1
  obtain ⟨s1, s2⟩ := bitLen_spec n
  have s3 := s2 (by omega)
  unfold Flt.lz
  rw [Int.toNat_natCast] at *
  generalize bitLen n = B at *
  have hB : 1 ≤ B := by
    rcases Nat.eq_zero_or_pos B with h | h
    · rw [h] at s1; simp at s1; omega
    · exact h
  refine ⟨by omega, by omega, ?_⟩
  have e : (64 - (B : Int)).toNat = 64 - B := by omega
  rw [e]
  have p1 : (2 : Nat) ^ (B - 1) * 2 ^ (64 - B) = 9223372036854775808 := by
    rw [← Nat.pow_add, show B - 1 + (64 - B) = 63 by omega]
  have p2 : (2 : Nat) ^ B * 2 ^ (64 - B) = 18446744073709551616 := by
    rw [← Nat.pow_add, show B + (64 - B) = 64 by omega]
  have q1 : 2 ^ (B - 1) * 2 ^ (64 - B) ≤ n * 2 ^ (64 - B) := Nat.mul_le_mul_right _ s3
  have q2 : n * 2 ^ (64 - B) < 2 ^ B * 2 ^ (64 - B) := Nat.mul_lt_mul_of_pos_right s1 (Nat.two_pow_pos _)
  rw [p1] at q1
  rw [p2] at q2
  have c : ((n * 2 ^ (64 - B) : Nat) : Int) = (n : Int) * 2 ^ (64 - B) := by push_cast; rfl
  rw [← c]
  omega

theorem div_small (S d : Int) (h0 : 9223372036854775808 ≤ S) (h1 : S < 18446744073709551616) (hd : 41 ≤ d) : 0 ≤ S / 2 ^ d.toNat ∧ S / 2 ^ d.toNat < 8388608 := by
  obtain ⟨n, rfl⟩ := Int.eq_ofNat_of_zero_le (show 0 ≤ d by omega)
  rw [Int.toNat_natCast]
  have hp : (0 : Int) < 2 ^ n := Int.pow_pos (by decide)
  refine ⟨Int.ediv_nonneg (by omega) (by omega), Int.ediv_lt_of_lt_mul hp ?_⟩
  have e : (2 : Int) ^ n = 2 ^ 41 * 2 ^ (n - 41) := by rw [← Int.pow_add, show 41 + (n - 41) = n by omega]
  have h2 : (0 : Int) < 2 ^ (n - 41) := Int.pow_pos (by decide)
  rw [e]
  generalize (2 : Int) ^ (n - 41) = y at *
  have : (2 : Int) ^ 41 = 2199023255552 := by decide
  rw [this]
  omega

theorem div_zero (S d : Int) (h0 : 0 ≤ S) (h1 : S < 18446744073709551616) (hd : 64 ≤ d) : S / 2 ^ d.toNat = 0 := by
  refine Int.ediv_eq_zero_of_lt (by omega) ?_
  have e2 : (2 : Int) ^ d.toNat = 2 ^ 64 * 2 ^ (d.toNat - 64) := by rw [← Int.pow_add, show 64 + (d.toNat - 64) = d.toNat by omega]
  have h2 : (0 : Int) < 2 ^ (d.toNat - 64) := Int.pow_pos (by decide)
  rw [e2]
  generalize (2 : Int) ^ (d.toNat - 64) = y at *
  have : (2 : Int) ^ 64 = 18446744073709551616 := by decide
  rw [this]
  omega

theorem core_tiny (way : Int) (neg : Bool) : Flt.core way neg 9223372036854775808 (-873) true = if Flt.goesOn way neg 9223372036854775808 914 true = true then 1 else 0 := by
  unfold Flt.core
  rw [if_neg (by omega), if_pos (by omega), div_zero _ _ (by omega) (by omega) (by omega), Int.zero_add, show (41 - -873 : Int) = 914 by omega]

theorem shift_big (S d : Int) (h0 : 9223372036854775808 ≤ S) (h1 : S < 18446744073709551616) (hd : 41 ≤ d) :
    Op.shift .shr .u64 S .i64 d = pure (.int .u64 (S / 2 ^ d.toNat)) := by
  by_cases h : d ≤ 64
  · exact shift_shr .u64 .i64 S d (by omega) h
  · rw [shift_shr_any .u64 .i64 S d (by omega)]
    have e : min d.toNat IntKind.u64.bits = 64 := by simp [IntKind.bits]; omega
    rw [e]
    have a1 : S / 2 ^ 64 = 0 := Int.ediv_eq_zero_of_lt (by omega) (by rw [show (2 : Int) ^ 64 = 18446744073709551616 by decide]; omega)
    have a2 : S / 2 ^ d.toNat = 0 := div_zero S d (by omega) h1 (by omega)
    rw [a1, a2]

theorem sign_or (neg : Bool) (x : Int) (h0 : 0 ≤ x) (h1 : x < 2147483648) : bits .or .u32 (Flt.signBit neg) x = Flt.signBit neg + x := by
  cases neg
  · simp only [Flt.signBit]; exact (Flt.or0 x h0 (by omega)).trans (by simp)
  · simp only [Flt.signBit]; exact (Flt.or31 x h0 h1).trans (by simp; omega)

set_option maxHeartbeats 1000000 in
theorem round_norm (way : Int) (neg : Bool) (exp s : Int) (more : Bool) (L S E : Int) (h0 : 1 ≤ s) (h1 : s < 18446744073709551616)
    (hL : Flt.lz s = L) (L0 : 0 ≤ L) (L1 : L ≤ 63) (hS : IntKind.u64.wrap (s * 2 ^ L.toNat) = S) (S0 : 9223372036854775808 ≤ S) (S1 : S < 18446744073709551616)
    (hE : (exp ≤ -1000 ∧ E = -1000) ∨ (1000 ≤ exp ∧ E = 1000) ∨ (-1000 < exp ∧ exp < 1000 ∧ E = exp)) (w : World) :
    Calls Try.prog 59 #[.int .i64 way, .bool neg, .int .i64 exp, .int .u64 s, .bool more] w fun e w' => e = .returned (.int .u32 (Flt.signBit neg + Flt.core way neg S (E - L + 190) more)) ∧ w' = w := by
  have hlead : ∀ w, Calls Try.prog 73 #[.int .u64 s] w fun e w' => e = .returned (.int .i64 L) ∧ w' = w := by
    intro w; have := lead_any s (by omega) h1 w; rw [hL] at this; exact this
  clear hL
  have hs0 : (s == 0) = false := by simp; omega
  have HL := hide hlead
  clear hlead
  rcases hE with ⟨hE, rfl⟩ | ⟨hE, rfl⟩ | ⟨hE, hE', rfl⟩
  · skip
    have hq := div_small S (40 + (1 - (-1000 - L + 40 + 149 + 1))) S0 S1 (by omega)
    obtain ⟨q0, q1⟩ := hq
    have hsh : Op.shift .shr .u64 S .i64 (40 + (1 - (-1000 - L + 40 + 149 + 1))) = pure (.int .u64 (S / 2 ^ (40 + (1 - (-1000 - L + 40 + 149 + 1))).toNat)) := shift_big S _ S0 S1 (by omega)
    go_enter Try.func59, Try.ntmps59
    go_wp2_with (first | (go_at_call 64; refine (signBit_any _ _).mono ?_; rintro e w' ⟨rfl, rfl⟩) | (go_at_call 73; refine (unhide HL _).mono ?_; rintro e w' ⟨rfl, rfl⟩) | (go_at_call 74; refine (beyond_any _ _ _).mono ?_; rintro e w' ⟨rfl, rfl⟩) | (go_at_call 75; refine (goesOn_any _ _ _ _ _ (by omega) (by omega) (by omega) (by omega) _).mono ?_; rintro e w' ⟨rfl, rfl⟩))
    all_goals (have hgo := ‹Flt.goesOn _ _ _ _ _ = _›)
    all_goals go_ret
    all_goals refine ⟨ret_int ?_, rfl⟩
    all_goals clear hsh
    all_goals (have ed : (40 + (1 - (-1000 - L + 40 + 149 + 1))) = 41 - (-1000 - L + 190) := by omega)
    all_goals rw [ed] at hgo q0 q1 ⊢
    all_goals (rw [sign_or _ _ (by omega) (by omega)]; unfold Flt.core; rw [if_neg (by omega), if_pos (by omega), hgo]; simp)
  · have hb : 0 ≤ Flt.beyond way neg ∧ Flt.beyond way neg < 2147483648 := by unfold Flt.beyond; split <;> omega
    obtain ⟨b0, b1⟩ := hb
    go_enter Try.func59, Try.ntmps59
    go_wp2_with (first | (go_at_call 64; refine (signBit_any _ _).mono ?_; rintro e w' ⟨rfl, rfl⟩) | (go_at_call 73; refine (unhide HL _).mono ?_; rintro e w' ⟨rfl, rfl⟩) | (go_at_call 74; refine (beyond_any _ _ _).mono ?_; rintro e w' ⟨rfl, rfl⟩) | (go_at_call 75; refine (goesOn_any _ _ _ _ _ (by omega) (by omega) (by omega) (by omega) _).mono ?_; rintro e w' ⟨rfl, rfl⟩))
    go_ret
    exact ⟨ret_int (by rw [sign_or _ _ b0 b1]; unfold Flt.core; rw [if_pos (by omega)]), rfl⟩
  · have hb : 0 ≤ Flt.beyond way neg ∧ Flt.beyond way neg < 2147483648 := by unfold Flt.beyond; split <;> omega
    obtain ⟨b0, b1⟩ := hb
    by_cases f1 : 254 < E - L + 190
    · go_enter Try.func59, Try.ntmps59
      go_wp2_with (first | (go_at_call 64; refine (signBit_any _ _).mono ?_; rintro e w' ⟨rfl, rfl⟩) | (go_at_call 73; refine (unhide HL _).mono ?_; rintro e w' ⟨rfl, rfl⟩) | (go_at_call 74; refine (beyond_any _ _ _).mono ?_; rintro e w' ⟨rfl, rfl⟩) | (go_at_call 75; refine (goesOn_any _ _ _ _ _ (by omega) (by omega) (by omega) (by omega) _).mono ?_; rintro e w' ⟨rfl, rfl⟩))
      go_ret
      exact ⟨ret_int (by rw [sign_or _ _ b0 b1]; unfold Flt.core; rw [if_pos (by omega)]), rfl⟩
    by_cases f2 : E - L + 190 < 1
    · skip
      have hq := div_small S (40 + (1 - (E - L + 40 + 149 + 1))) S0 S1 (by omega)
      obtain ⟨q0, q1⟩ := hq
      have hsh : Op.shift .shr .u64 S .i64 (40 + (1 - (E - L + 40 + 149 + 1))) = pure (.int .u64 (S / 2 ^ (40 + (1 - (E - L + 40 + 149 + 1))).toNat)) := shift_big S _ S0 S1 (by omega)
      go_enter Try.func59, Try.ntmps59
      go_wp2_with (first | (go_at_call 64; refine (signBit_any _ _).mono ?_; rintro e w' ⟨rfl, rfl⟩) | (go_at_call 73; refine (unhide HL _).mono ?_; rintro e w' ⟨rfl, rfl⟩) | (go_at_call 74; refine (beyond_any _ _ _).mono ?_; rintro e w' ⟨rfl, rfl⟩) | (go_at_call 75; refine (goesOn_any _ _ _ _ _ (by omega) (by omega) (by omega) (by omega) _).mono ?_; rintro e w' ⟨rfl, rfl⟩))
      all_goals (have hgo := ‹Flt.goesOn _ _ _ _ _ = _›)
      all_goals go_ret
      all_goals refine ⟨ret_int ?_, rfl⟩
      all_goals clear hsh
      all_goals (have ed : (40 + (1 - (E - L + 40 + 149 + 1))) = 41 - (E - L + 190) := by omega)
      all_goals rw [ed] at hgo q0 q1 ⊢
      all_goals (rw [sign_or _ _ (by omega) (by omega)]; unfold Flt.core; rw [if_neg (by omega), if_pos (by omega), hgo]; simp)
    · go_enter Try.func59, Try.ntmps59
      go_wp2_with (first | (go_at_call 64; refine (signBit_any _ _).mono ?_; rintro e w' ⟨rfl, rfl⟩) | (go_at_call 73; refine (unhide HL _).mono ?_; rintro e w' ⟨rfl, rfl⟩) | (go_at_call 74; refine (beyond_any _ _ _).mono ?_; rintro e w' ⟨rfl, rfl⟩) | (go_at_call 75; refine (goesOn_any _ _ _ _ _ (by omega) (by omega) (by omega) (by omega) _).mono ?_; rintro e w' ⟨rfl, rfl⟩))
      all_goals (have hgo := ‹Flt.goesOn _ _ _ _ _ = _›)
      all_goals go_ret
      all_goals refine ⟨ret_int ?_, rfl⟩
      all_goals (rw [sign_or _ _ (by omega) (by omega)]; unfold Flt.core; rw [if_neg (by omega), if_neg (by omega), hgo]; simp; omega)

theorem wrap_u64_in (x : Int) (h0 : 0 ≤ x) (h1 : x < 18446744073709551616) : IntKind.u64.wrap x = x := by
  rw [IntKind.wrap_u64]; omega

theorem round_any (way : Int) (neg : Bool) (exp s : Int) (more : Bool) (h0 : 0 ≤ s) (h1 : s < 18446744073709551616) (w : World) :
    Calls Try.prog 59 #[.int .i64 way, .bool neg, .int .i64 exp, .int .u64 s, .bool more] w fun e w' => e = .returned (.int .u32 (Flt.rnd way neg exp s more)) ∧ w' = w := by
  by_cases hs : s = 0
  · subst hs
    cases more
    · go_enter Try.func59, Try.ntmps59
      go_wp2_with (first | (go_at_call 64; refine (signBit_any _ _).mono ?_; rintro e w' ⟨rfl, rfl⟩) | (go_at_call 74; refine (beyond_any _ _ _).mono ?_; rintro e w' ⟨rfl, rfl⟩) | (go_at_call 75; refine (goesOn_any _ _ _ _ _ (by omega) (by omega) (by omega) (by omega) _).mono ?_; rintro e w' ⟨rfl, rfl⟩))
      go_ret
      exact ⟨ret_int (by simp [Flt.rnd]), rfl⟩
    · have hlead : ∀ w, Calls Try.prog 73 #[.int .u64 1] w fun e w' => e = .returned (.int .i64 63) ∧ w' = w := by
        intro w; exact lead_any 1 (by omega) (by omega) w
      have HL := hide hlead
      clear hlead
      go_enter Try.func59, Try.ntmps59
      go_wp2_with (first | (go_at_call 64; refine (signBit_any _ _).mono ?_; rintro e w' ⟨rfl, rfl⟩) | (go_at_call 73; refine (unhide HL _).mono ?_; rintro e w' ⟨rfl, rfl⟩) | (go_at_call 74; refine (beyond_any _ _ _).mono ?_; rintro e w' ⟨rfl, rfl⟩) | (go_at_call 75; refine (goesOn_any _ _ _ _ _ (by omega) (by omega) (by omega) (by omega) _).mono ?_; rintro e w' ⟨rfl, rfl⟩))
      all_goals (have hgo := ‹Flt.goesOn _ _ _ _ _ = _›)
      all_goals go_ret
      all_goals refine ⟨ret_int ?_, rfl⟩
      all_goals (rw [sign_or _ _ (by omega) (by omega)]; simp [Flt.rnd, core_tiny, hgo])
  · obtain ⟨a1, a2, a3, a4⟩ := lz_range s (by omega) h1
    have := round_norm way neg exp s more (Flt.lz s) (s * 2 ^ (Flt.lz s).toNat) (if exp < -1000 then -1000 else if 1000 < exp then 1000 else exp) (by omega) h1 rfl a1 a2
      (wrap_u64_in _ (by omega) a4) a3 a4 (by (repeat' split) <;> omega) w
    unfold Flt.rnd
    rw [if_neg hs]
    exact this
end Go.Proofs.Ytkbniebahledmab

/-
  Walks of package soft's sums, products and quotients.
-/
namespace Go.Proofs.Ytkbniebahledmab
open Go.RowKit
set_option linter.unusedVariables false

theorem split_any (a : Int) (h0 : 0 ≤ a) (h1 : a < 4294967296) (w : World) :
    Calls Try.prog 66 #[.int .u32 a] w fun e w' => e = .returned (.agg #[.bool (Flt.sgn a), .int .i64 (Flt.expo a), .int .u64 (Flt.sig a)]) ∧ Below w.heap.size w w' := by
  have e1 := Flt.and23 a h0 h1
  have e2 := Flt.and8 (a / 8388608) (by omega) (by omega)
  have e3 := Flt.or23 (a % 8388608) (by omega) (by omega)
  go_enter Try.func66, Try.ntmps66
  go_wp2_with (go_at_call 63; refine (below_any _ h0 h1 _).mono ?_; rintro e w' ⟨rfl, rfl⟩)
  · have hz : a / 8388608 % 256 = 0 := WalkArith.int_eq ‹(_ == _) = true›
    refine bodyPost_ret (v := .agg #[.bool (Flt.sgn a), .int .i64 (Flt.expo a), .int .u64 (Flt.sig a)]) (by simp [results, Try.results66, go_sem, Flt.expo, Flt.sig, hz]) rfl ⟨rfl, ?_⟩
    exact (Below.refl _ _).alloc (Nat.le_refl _) _
  · have hz : ¬ a / 8388608 % 256 = 0 := WalkArith.int_ne ‹(_ == _) = false›
    refine bodyPost_ret (v := .agg #[.bool (Flt.sgn a), .int .i64 (Flt.expo a), .int .u64 (Flt.sig a)]) (by simp [results, Try.results66, go_sem, Flt.expo, Flt.sig, hz]; omega) rfl ⟨rfl, ?_⟩
    exact (Below.refl _ _).alloc (Nat.le_refl _) _

theorem shr_any (s d : Int) (h0 : 0 ≤ s) (h1 : s < 18446744073709551616) (hd : 0 ≤ d) :
    Op.shift .shr .u64 s .i64 d = pure (.int .u64 (s / 2 ^ d.toNat)) := by
  by_cases h : d ≤ 64
  · exact shift_shr .u64 .i64 s d hd h
  · rw [shift_shr_any .u64 .i64 s d (by omega)]
    have e : min d.toNat IntKind.u64.bits = 64 := by simp [IntKind.bits]; omega
    rw [e, div_zero s d h0 h1 (by omega)]
    have := div_zero s 64 h0 h1 (by omega)
    rw [show ((64 : Int).toNat) = 64 from rfl] at this
    rw [this]

theorem shl_back (s d : Int) (h0 : 0 ≤ s) (h1 : s < 18446744073709551616) (hd : 0 ≤ d) :
    Op.shift .shl .u64 (s / 2 ^ d.toNat) .i64 d = pure (.int .u64 (s / 2 ^ d.toNat * 2 ^ d.toNat)) := by
  by_cases h : d ≤ 64
  · rw [shift_shl .u64 .i64 _ d hd h]
    have hp : (0 : Int) < 2 ^ d.toNat := Int.pow_pos (by decide)
    have a1 := Int.ediv_nonneg h0 (Int.le_of_lt hp)
    have a2 : s / 2 ^ d.toNat * 2 ^ d.toNat ≤ s := by have := Int.emod_nonneg s (Int.ne_of_gt hp); have e := Int.ediv_mul_add_emod s (2 ^ d.toNat); omega
    have a3 := Int.mul_nonneg a1 (Int.le_of_lt hp)
    rw [wrap_u64_in _ a3 (by omega)]
  · rw [div_zero s d h0 h1 (by omega), shift_shl_any .u64 .i64 _ d hd]
    simp [IntKind.wrap_u64]

-- SUMS
theorem xsub (a b : Int) : a - (a - b) = b := by omega
theorem mul_pow_lt (x k : Int) (h0 : 0 ≤ x) (h1 : x < 16777216) (k0 : 0 ≤ k) (k1 : k ≤ 39) : 0 ≤ x * 2 ^ k.toNat ∧ x * 2 ^ k.toNat < 9223372036854775808 := by
  obtain ⟨n, rfl⟩ := Int.eq_ofNat_of_zero_le k0
  rw [Int.toNat_natCast]
  have hp : (0 : Int) < 2 ^ n := Int.pow_pos (by decide)
  have hq : (2 : Int) ^ n ≤ 2 ^ 39 := by exact_mod_cast (Nat.pow_le_pow_right (by decide) (by omega) : 2 ^ n ≤ 2 ^ 39)
  refine ⟨Int.mul_nonneg h0 (Int.le_of_lt hp), ?_⟩
  have h2 : x * 2 ^ n ≤ 16777215 * 2 ^ n := Int.mul_le_mul_of_nonneg_right (by omega) (Int.le_of_lt hp)
  have e : (2 : Int) ^ 39 = 549755813888 := by decide
  rw [e] at hq
  omega
theorem div_le_self2 (x k : Int) (h0 : 0 ≤ x) : 0 ≤ x / 2 ^ k.toNat ∧ x / 2 ^ k.toNat ≤ x :=
  ⟨Int.ediv_nonneg h0 (Int.pow_nonneg (by decide)), Int.ediv_le_self _ h0⟩
theorem bl_drewN {B : Nat} {a w : World} (h : Below B a w) (n : Nat) : Below B a (w.drewN n) := ⟨h.os, h.tape, h.output, h.size, h.block⟩
theorem eq_ff {a b : Bool} (h : ¬ a = b) : (a == b) = false := by cases a <;> cases b <;> simp_all

set_option maxRecDepth 100000 in
set_option maxHeartbeats 1000000 in
theorem sum_near (way : Int) (xn yn : Bool) (xe xs ye ys : Int) (hx0 : 0 ≤ xs) (hx1 : xs < 16777216) (hy0 : 0 ≤ ys) (hy1 : ys < 16777216)
    (ex0 : -149 ≤ xe) (ex1 : xe ≤ 105) (ey0 : -149 ≤ ye) (ey1 : ye ≤ 105) (hord : ye ≤ xe) (hgap : xe - ye ≤ 39) (w : World) :
    Calls Try.prog 67 #[.int .i64 way, .agg #[.bool xn, .int .i64 xe, .int .u64 xs], .agg #[.bool yn, .int .i64 ye, .int .u64 ys]] w fun e w' => e = .returned (.int .u32 (Flt.sumOrd way xn xe xs yn ye ys)) ∧ Below w.heap.size w w' := by
  obtain ⟨b0, b1⟩ := mul_pow_lt xs (xe - ye) hx0 hx1 (by omega) hgap
  have hsum : Flt.sumOrd way xn xe xs yn ye ys = if xn = yn then Flt.rnd way xn ye (xs * 2 ^ (xe - ye).toNat + ys) false
     else if ys < xs * 2 ^ (xe - ye).toNat then Flt.rnd way xn ye (xs * 2 ^ (xe - ye).toNat - ys) false
     else if xs * 2 ^ (xe - ye).toNat < ys then Flt.rnd way yn ye (ys - xs * 2 ^ (xe - ye).toNat) false
     else Flt.signBit (decide (way = 2)) := by unfold Flt.sumOrd; rw [if_pos hgap]
  rw [hsum]; clear hsum
  obtain ⟨B, hBe⟩ : ∃ B, B = xs * 2 ^ (xe - ye).toNat := ⟨_, rfl⟩
  rw [← hBe] at b0 b1 ⊢
  have hB : IntKind.u64.wrap (xs * 2 ^ (xe - ye).toNat) = B := by rw [← hBe]; exact wrap_u64_in _ b0 (by omega)
  clear hBe
  by_cases hs : xn = yn
  · subst hs
    go_enter Try.func67, Try.ntmps67
    go_wp2_with fail
    go_quiet (fail)
    go_wp2_with fail
    go_quiet (fail)
    go_wp2_with (first | (go_at_call 59; refine (round_any _ _ _ _ _ (by omega) (by omega) _).mono ?_; rintro e w' ⟨rfl, rfl⟩) | (go_at_call 64; refine (signBit_any _ _).mono ?_; rintro e w' ⟨rfl, rfl⟩))
    go_ret
    refine ⟨ret_int ?_, bl_drewN (((Below.refl _ _).alloc (Nat.le_refl _) _).alloc (by simp) _) _⟩
    rw [xsub]
  · have hs' := eq_ff hs
    rw [if_neg hs]
    by_cases h1 : ys < B
    · rw [if_pos h1]
      go_enter Try.func67, Try.ntmps67
      go_wp2_with fail
      go_quiet (fail)
      go_wp2_with fail
      go_quiet (fail)
      go_wp2_with (first | (go_at_call 59; refine (round_any _ _ _ _ _ (by omega) (by omega) _).mono ?_; rintro e w' ⟨rfl, rfl⟩) | (go_at_call 64; refine (signBit_any _ _).mono ?_; rintro e w' ⟨rfl, rfl⟩))
      go_ret
      refine ⟨ret_int ?_, bl_drewN (((Below.refl _ _).alloc (Nat.le_refl _) _).alloc (by simp) _) _⟩
      rw [xsub]
    by_cases h2 : B < ys
    · rw [if_neg h1, if_pos h2]
      go_enter Try.func67, Try.ntmps67
      go_wp2_with fail
      go_quiet (fail)
      go_wp2_with fail
      go_quiet (fail)
      go_wp2_with (first | (go_at_call 59; refine (round_any _ _ _ _ _ (by omega) (by omega) _).mono ?_; rintro e w' ⟨rfl, rfl⟩) | (go_at_call 64; refine (signBit_any _ _).mono ?_; rintro e w' ⟨rfl, rfl⟩))
      go_ret
      refine ⟨ret_int ?_, bl_drewN (((Below.refl _ _).alloc (Nat.le_refl _) _).alloc (by simp) _) _⟩
      rw [xsub]
    · rw [if_neg h1, if_neg h2]
      go_enter Try.func67, Try.ntmps67
      go_wp2_with fail
      go_quiet (fail)
      go_wp2_with fail
      go_quiet (fail)
      go_wp2_with (first | (go_at_call 59; refine (round_any _ _ _ _ _ (by omega) (by omega) _).mono ?_; rintro e w' ⟨rfl, rfl⟩) | (go_at_call 64; refine (signBit_any _ _).mono ?_; rintro e w' ⟨rfl, rfl⟩))
      go_ret
      refine ⟨ret_int ?_, bl_drewN (((Below.refl _ _).alloc (Nat.le_refl _) _).alloc (by simp) _) _⟩
      first | rfl | (congr 1; rw [Bool.eq_iff_iff]; simp)

set_option maxRecDepth 100000 in
set_option maxHeartbeats 1000000 in
theorem sum_far (way : Int) (xn yn : Bool) (xe xs ye ys : Int) (hx0 : 0 ≤ xs) (hx1 : xs < 16777216) (hy0 : 0 ≤ ys) (hy1 : ys < 16777216)
    (ex0 : -149 ≤ xe) (ex1 : xe ≤ 105) (ey0 : -149 ≤ ye) (ey1 : ye ≤ 105)  (hgap : 39 < xe - ye) (hxb : 8388608 ≤ xs) (w : World) :
    Calls Try.prog 67 #[.int .i64 way, .agg #[.bool xn, .int .i64 xe, .int .u64 xs], .agg #[.bool yn, .int .i64 ye, .int .u64 ys]] w fun e w' => e = .returned (.int .u32 (Flt.sumOrd way xn xe xs yn ye ys)) ∧ Below w.heap.size w w' := by
  have hs1 := shr_any ys (xe - ye - 39) hy0 (by omega) (by omega)
  have hs2 := shl_back ys (xe - ye - 39) hy0 (by omega) (by omega)
  have hB : IntKind.u64.wrap (xs * 549755813888) = xs * 549755813888 := wrap_u64_in _ (by omega) (by omega)
  obtain ⟨q0, q1⟩ := div_le_self2 ys (xe - ye - 39) hy0
  have hsum : Flt.sumOrd way xn xe xs yn ye ys = if xn = yn then Flt.rnd way xn (xe - 39) (xs * 549755813888 + ys / 2 ^ (xe - ye - 39).toNat) (decide (ys / 2 ^ (xe - ye - 39).toNat * 2 ^ (xe - ye - 39).toNat ≠ ys))
     else if ys / 2 ^ (xe - ye - 39).toNat * 2 ^ (xe - ye - 39).toNat ≠ ys then Flt.rnd way xn (xe - 39) (xs * 549755813888 - (ys / 2 ^ (xe - ye - 39).toNat + 1)) true
     else Flt.rnd way xn (xe - 39) (xs * 549755813888 - ys / 2 ^ (xe - ye - 39).toNat) false := by unfold Flt.sumOrd; rw [if_neg (by omega)]
  rw [hsum]; clear hsum
  generalize ys / 2 ^ (xe - ye - 39).toNat * 2 ^ (xe - ye - 39).toNat = T at *
  generalize ys / 2 ^ (xe - ye - 39).toNat = Q at *
  by_cases hT : T = ys
  · have hT' : (T != ys) = false := by rw [bne_eq_false_iff_eq]; exact hT
    have hT2 : decide (T ≠ ys) = false := by simp [hT]
    have HT := hide hT
    rw [hT2]
    by_cases hs : xn = yn
    · rw [if_pos hs]
      clear hT hT2
      subst hs
      go_enter Try.func67, Try.ntmps67
      go_wp2_with fail
      go_quiet (fail)
      go_wp2_with fail
      go_quiet (fail)
      go_wp2_with (first | (go_at_call 59; refine (round_any _ _ _ _ _ (by omega) (by omega) _).mono ?_; rintro e w' ⟨rfl, rfl⟩) | (go_at_call 64; refine (signBit_any _ _).mono ?_; rintro e w' ⟨rfl, rfl⟩))
      go_ret
      refine ⟨ret_int ?_, bl_drewN (((Below.refl _ _).alloc (Nat.le_refl _) _).alloc (by simp) _) _⟩
      rfl
    · have hs' := eq_ff hs
      rw [if_neg hs, if_neg (by simp [hT])]
      clear hT hT2
      go_enter Try.func67, Try.ntmps67
      go_wp2_with fail
      go_quiet (fail)
      go_wp2_with fail
      go_quiet (fail)
      go_wp2_with (first | (go_at_call 59; refine (round_any _ _ _ _ _ (by omega) (by omega) _).mono ?_; rintro e w' ⟨rfl, rfl⟩) | (go_at_call 64; refine (signBit_any _ _).mono ?_; rintro e w' ⟨rfl, rfl⟩))
      go_ret
      refine ⟨ret_int ?_, bl_drewN (((Below.refl _ _).alloc (Nat.le_refl _) _).alloc (by simp) _) _⟩
      rfl
  · have hT' : (T != ys) = true := by rw [bne_iff_ne]; exact hT
    have hT2 : decide (T ≠ ys) = true := by simp [hT]
    have HT := hide hT
    rw [hT2]
    by_cases hs : xn = yn
    · rw [if_pos hs]
      clear hT hT2
      subst hs
      go_enter Try.func67, Try.ntmps67
      go_wp2_with fail
      go_quiet (fail)
      go_wp2_with fail
      go_quiet (fail)
      go_wp2_with (first | (go_at_call 59; refine (round_any _ _ _ _ _ (by omega) (by omega) _).mono ?_; rintro e w' ⟨rfl, rfl⟩) | (go_at_call 64; refine (signBit_any _ _).mono ?_; rintro e w' ⟨rfl, rfl⟩))
      go_ret
      refine ⟨ret_int ?_, bl_drewN (((Below.refl _ _).alloc (Nat.le_refl _) _).alloc (by simp) _) _⟩
      rfl
    · have hs' := eq_ff hs
      rw [if_neg hs, if_pos hT]
      clear hT hT2
      go_enter Try.func67, Try.ntmps67
      go_wp2_with fail
      go_quiet (fail)
      go_wp2_with fail
      go_quiet (fail)
      go_wp2_with (first | (go_at_call 59; refine (round_any _ _ _ _ _ (by omega) (by omega) _).mono ?_; rintro e w' ⟨rfl, rfl⟩) | (go_at_call 64; refine (signBit_any _ _).mono ?_; rintro e w' ⟨rfl, rfl⟩))
      go_ret
      refine ⟨ret_int ?_, bl_drewN (((Below.refl _ _).alloc (Nat.le_refl _) _).alloc (by simp) _) _⟩
      rfl

set_option maxRecDepth 100000 in
set_option maxHeartbeats 1000000 in
theorem sum_near_sw (way : Int) (xn yn : Bool) (xe xs ye ys : Int) (hx0 : 0 ≤ xs) (hx1 : xs < 16777216) (hy0 : 0 ≤ ys) (hy1 : ys < 16777216)
    (ex0 : -149 ≤ xe) (ex1 : xe ≤ 105) (ey0 : -149 ≤ ye) (ey1 : ye ≤ 105) (hord : ye < xe) (hgap : xe - ye ≤ 39) (w : World) :
    Calls Try.prog 67 #[.int .i64 way, .agg #[.bool yn, .int .i64 ye, .int .u64 ys], .agg #[.bool xn, .int .i64 xe, .int .u64 xs]] w fun e w' => e = .returned (.int .u32 (Flt.sumOrd way xn xe xs yn ye ys)) ∧ Below w.heap.size w w' := by
  obtain ⟨b0, b1⟩ := mul_pow_lt xs (xe - ye) hx0 hx1 (by omega) hgap
  have hsum : Flt.sumOrd way xn xe xs yn ye ys = if xn = yn then Flt.rnd way xn ye (xs * 2 ^ (xe - ye).toNat + ys) false
     else if ys < xs * 2 ^ (xe - ye).toNat then Flt.rnd way xn ye (xs * 2 ^ (xe - ye).toNat - ys) false
     else if xs * 2 ^ (xe - ye).toNat < ys then Flt.rnd way yn ye (ys - xs * 2 ^ (xe - ye).toNat) false
     else Flt.signBit (decide (way = 2)) := by unfold Flt.sumOrd; rw [if_pos hgap]
  rw [hsum]; clear hsum
  obtain ⟨B, hBe⟩ : ∃ B, B = xs * 2 ^ (xe - ye).toNat := ⟨_, rfl⟩
  rw [← hBe] at b0 b1 ⊢
  have hB : IntKind.u64.wrap (xs * 2 ^ (xe - ye).toNat) = B := by rw [← hBe]; exact wrap_u64_in _ b0 (by omega)
  clear hBe
  by_cases hs : xn = yn
  · subst hs
    go_enter Try.func67, Try.ntmps67
    go_wp2_with fail
    go_quiet (fail)
    go_wp2_with fail
    go_quiet (fail)
    go_wp2_with (first | (go_at_call 59; refine (round_any _ _ _ _ _ (by omega) (by omega) _).mono ?_; rintro e w' ⟨rfl, rfl⟩) | (go_at_call 64; refine (signBit_any _ _).mono ?_; rintro e w' ⟨rfl, rfl⟩))
    go_ret
    refine ⟨ret_int ?_, bl_drewN (((Below.refl _ _).alloc (Nat.le_refl _) _).alloc (by simp) _) _⟩
    rw [xsub]
  · have hs' := eq_ff hs
    rw [if_neg hs]
    by_cases h1 : ys < B
    · rw [if_pos h1]
      go_enter Try.func67, Try.ntmps67
      go_wp2_with fail
      go_quiet (fail)
      go_wp2_with fail
      go_quiet (fail)
      go_wp2_with (first | (go_at_call 59; refine (round_any _ _ _ _ _ (by omega) (by omega) _).mono ?_; rintro e w' ⟨rfl, rfl⟩) | (go_at_call 64; refine (signBit_any _ _).mono ?_; rintro e w' ⟨rfl, rfl⟩))
      go_ret
      refine ⟨ret_int ?_, bl_drewN (((Below.refl _ _).alloc (Nat.le_refl _) _).alloc (by simp) _) _⟩
      rw [xsub]
    by_cases h2 : B < ys
    · rw [if_neg h1, if_pos h2]
      go_enter Try.func67, Try.ntmps67
      go_wp2_with fail
      go_quiet (fail)
      go_wp2_with fail
      go_quiet (fail)
      go_wp2_with (first | (go_at_call 59; refine (round_any _ _ _ _ _ (by omega) (by omega) _).mono ?_; rintro e w' ⟨rfl, rfl⟩) | (go_at_call 64; refine (signBit_any _ _).mono ?_; rintro e w' ⟨rfl, rfl⟩))
      go_ret
      refine ⟨ret_int ?_, bl_drewN (((Below.refl _ _).alloc (Nat.le_refl _) _).alloc (by simp) _) _⟩
      rw [xsub]
    · rw [if_neg h1, if_neg h2]
      go_enter Try.func67, Try.ntmps67
      go_wp2_with fail
      go_quiet (fail)
      go_wp2_with fail
      go_quiet (fail)
      go_wp2_with (first | (go_at_call 59; refine (round_any _ _ _ _ _ (by omega) (by omega) _).mono ?_; rintro e w' ⟨rfl, rfl⟩) | (go_at_call 64; refine (signBit_any _ _).mono ?_; rintro e w' ⟨rfl, rfl⟩))
      go_ret
      refine ⟨ret_int ?_, bl_drewN (((Below.refl _ _).alloc (Nat.le_refl _) _).alloc (by simp) _) _⟩
      first | rfl | (congr 1; rw [Bool.eq_iff_iff]; simp)

set_option maxRecDepth 100000 in
set_option maxHeartbeats 1000000 in
theorem sum_far_sw (way : Int) (xn yn : Bool) (xe xs ye ys : Int) (hx0 : 0 ≤ xs) (hx1 : xs < 16777216) (hy0 : 0 ≤ ys) (hy1 : ys < 16777216)
    (ex0 : -149 ≤ xe) (ex1 : xe ≤ 105) (ey0 : -149 ≤ ye) (ey1 : ye ≤ 105)  (hgap : 39 < xe - ye) (hxb : 8388608 ≤ xs) (w : World) :
    Calls Try.prog 67 #[.int .i64 way, .agg #[.bool yn, .int .i64 ye, .int .u64 ys], .agg #[.bool xn, .int .i64 xe, .int .u64 xs]] w fun e w' => e = .returned (.int .u32 (Flt.sumOrd way xn xe xs yn ye ys)) ∧ Below w.heap.size w w' := by
  have hs1 := shr_any ys (xe - ye - 39) hy0 (by omega) (by omega)
  have hs2 := shl_back ys (xe - ye - 39) hy0 (by omega) (by omega)
  have hB : IntKind.u64.wrap (xs * 549755813888) = xs * 549755813888 := wrap_u64_in _ (by omega) (by omega)
  obtain ⟨q0, q1⟩ := div_le_self2 ys (xe - ye - 39) hy0
  have hsum : Flt.sumOrd way xn xe xs yn ye ys = if xn = yn then Flt.rnd way xn (xe - 39) (xs * 549755813888 + ys / 2 ^ (xe - ye - 39).toNat) (decide (ys / 2 ^ (xe - ye - 39).toNat * 2 ^ (xe - ye - 39).toNat ≠ ys))
     else if ys / 2 ^ (xe - ye - 39).toNat * 2 ^ (xe - ye - 39).toNat ≠ ys then Flt.rnd way xn (xe - 39) (xs * 549755813888 - (ys / 2 ^ (xe - ye - 39).toNat + 1)) true
     else Flt.rnd way xn (xe - 39) (xs * 549755813888 - ys / 2 ^ (xe - ye - 39).toNat) false := by unfold Flt.sumOrd; rw [if_neg (by omega)]
  rw [hsum]; clear hsum
  generalize ys / 2 ^ (xe - ye - 39).toNat * 2 ^ (xe - ye - 39).toNat = T at *
  generalize ys / 2 ^ (xe - ye - 39).toNat = Q at *
  by_cases hT : T = ys
  · have hT' : (T != ys) = false := by rw [bne_eq_false_iff_eq]; exact hT
    have hT2 : decide (T ≠ ys) = false := by simp [hT]
    have HT := hide hT
    rw [hT2]
    by_cases hs : xn = yn
    · rw [if_pos hs]
      clear hT hT2
      subst hs
      go_enter Try.func67, Try.ntmps67
      go_wp2_with fail
      go_quiet (fail)
      go_wp2_with fail
      go_quiet (fail)
      go_wp2_with (first | (go_at_call 59; refine (round_any _ _ _ _ _ (by omega) (by omega) _).mono ?_; rintro e w' ⟨rfl, rfl⟩) | (go_at_call 64; refine (signBit_any _ _).mono ?_; rintro e w' ⟨rfl, rfl⟩))
      go_ret
      refine ⟨ret_int ?_, bl_drewN (((Below.refl _ _).alloc (Nat.le_refl _) _).alloc (by simp) _) _⟩
      rfl
    · have hs' := eq_ff hs
      rw [if_neg hs, if_neg (by simp [hT])]
      clear hT hT2
      go_enter Try.func67, Try.ntmps67
      go_wp2_with fail
      go_quiet (fail)
      go_wp2_with fail
      go_quiet (fail)
      go_wp2_with (first | (go_at_call 59; refine (round_any _ _ _ _ _ (by omega) (by omega) _).mono ?_; rintro e w' ⟨rfl, rfl⟩) | (go_at_call 64; refine (signBit_any _ _).mono ?_; rintro e w' ⟨rfl, rfl⟩))
      go_ret
      refine ⟨ret_int ?_, bl_drewN (((Below.refl _ _).alloc (Nat.le_refl _) _).alloc (by simp) _) _⟩
      rfl
  · have hT' : (T != ys) = true := by rw [bne_iff_ne]; exact hT
    have hT2 : decide (T ≠ ys) = true := by simp [hT]
    have HT := hide hT
    rw [hT2]
    by_cases hs : xn = yn
    · rw [if_pos hs]
      clear hT hT2
      subst hs
      go_enter Try.func67, Try.ntmps67
      go_wp2_with fail
      go_quiet (fail)
      go_wp2_with fail
      go_quiet (fail)
      go_wp2_with (first | (go_at_call 59; refine (round_any _ _ _ _ _ (by omega) (by omega) _).mono ?_; rintro e w' ⟨rfl, rfl⟩) | (go_at_call 64; refine (signBit_any _ _).mono ?_; rintro e w' ⟨rfl, rfl⟩))
      go_ret
      refine ⟨ret_int ?_, bl_drewN (((Below.refl _ _).alloc (Nat.le_refl _) _).alloc (by simp) _) _⟩
      rfl
    · have hs' := eq_ff hs
      rw [if_neg hs, if_pos hT]
      clear hT hT2
      go_enter Try.func67, Try.ntmps67
      go_wp2_with fail
      go_quiet (fail)
      go_wp2_with fail
      go_quiet (fail)
      go_wp2_with (first | (go_at_call 59; refine (round_any _ _ _ _ _ (by omega) (by omega) _).mono ?_; rintro e w' ⟨rfl, rfl⟩) | (go_at_call 64; refine (signBit_any _ _).mono ?_; rintro e w' ⟨rfl, rfl⟩))
      go_ret
      refine ⟨ret_int ?_, bl_drewN (((Below.refl _ _).alloc (Nat.le_refl _) _).alloc (by simp) _) _⟩
      rfl

end Go.Proofs.Ytkbniebahledmab

/-
  Walks of package soft's AddBy, MulBy, DivBy and their nearest fellows.
-/
namespace Go.Proofs.Ytkbniebahledmab
open Go.RowKit
set_option linter.unusedVariables false

theorem sum_any (way a b : Int) (w : World) :
    Calls Try.prog 67 #[.int .i64 way, .agg #[.bool (Flt.sgn a), .int .i64 (Flt.expo a), .int .u64 (Flt.sig a)], .agg #[.bool (Flt.sgn b), .int .i64 (Flt.expo b), .int .u64 (Flt.sig b)]] w
      fun e w' => e = .returned (.int .u32 (Flt.sumM way (Flt.sgn a) (Flt.expo a) (Flt.sig a) (Flt.sgn b) (Flt.expo b) (Flt.sig b))) ∧ Below w.heap.size w w' := by
  obtain ⟨s0, s1⟩ := Flt.sig_range a
  obtain ⟨t0, t1⟩ := Flt.sig_range b
  obtain ⟨e0, e1⟩ := Flt.expo_range a
  obtain ⟨f0, f1⟩ := Flt.expo_range b
  unfold Flt.sumM
  by_cases ho : Flt.expo a < Flt.expo b
  · rw [if_pos ho]
    by_cases hg : Flt.expo b - Flt.expo a ≤ 39
    · exact sum_near_sw way _ _ _ _ _ _ t0 t1 s0 s1 f0 f1 e0 e1 ho hg w
    · exact sum_far_sw way _ _ _ _ _ _ t0 t1 s0 s1 f0 f1 e0 e1 (by omega) (Flt.sig_big b (by omega)) w
  · rw [if_neg ho]
    by_cases hg : Flt.expo a - Flt.expo b ≤ 39
    · exact sum_near way _ _ _ _ _ _ s0 s1 t0 t1 e0 e1 f0 f1 (by omega) hg w
    · exact sum_far way _ _ _ _ _ _ s0 s1 t0 t1 e0 e1 f0 f1 (by omega) (Flt.sig_big a (by omega)) w

set_option maxRecDepth 100000 in
set_option maxHeartbeats 1000000 in
theorem quotient_any (way : Int) (neg xn yn : Bool) (xe xs ye ys : Int) (hx0 : 1 ≤ xs) (hx1 : xs < 16777216) (hy0 : 1 ≤ ys) (hy1 : ys < 16777216)
    (ex0 : -149 ≤ xe) (ex1 : xe ≤ 105) (ey0 : -149 ≤ ye) (ey1 : ye ≤ 105) (w : World) :
    Calls Try.prog 65 #[.int .i64 way, .bool neg, .agg #[.bool xn, .int .i64 xe, .int .u64 xs], .agg #[.bool yn, .int .i64 ye, .int .u64 ys]] w
      fun e w' => e = .returned (.int .u32 (Flt.quoM way neg xe xs ye ys)) ∧ Below w.heap.size w w' := by
  obtain ⟨L0, L1, S0, S1⟩ := lz_range xs hx0 (by omega)
  have hlead : ∀ w, Calls Try.prog 73 #[.int .u64 xs] w fun e w' => e = .returned (.int .i64 (Flt.lz xs)) ∧ w' = w := fun w => lead_any xs (by omega) (by omega) w
  unfold Flt.quoM
  generalize hL : Flt.lz xs = L at *
  obtain ⟨S, hSe⟩ : ∃ S, S = xs * 2 ^ L.toNat := ⟨_, rfl⟩
  rw [← hSe] at S0 S1 ⊢
  have hS : IntKind.u64.wrap (xs * 2 ^ L.toNat) = S := by rw [← hSe]; exact wrap_u64_in _ (by omega) S1
  clear hSe hL
  have HL := hide hlead
  clear hlead
  have hq : 0 ≤ S / ys ∧ S / ys ≤ S := ⟨Int.ediv_nonneg (by omega) (by omega), Int.ediv_le_self _ (by omega)⟩
  obtain ⟨q0, q1⟩ := hq
  go_enter Try.func65, Try.ntmps65
  go_wp2_with (go_at_call 73; refine (unhide HL _).mono ?_; rintro e w' ⟨rfl, rfl⟩)
  go_quiet ((go_at_call 59; exact Calls.quiet_of_same (round_any _ _ _ _ _ (by omega) (by omega) _)))
  go_wp2_with fail
  go_ret
  refine ⟨ret_int ?_, bl_drewN (((Below.refl _ _).alloc (Nat.le_refl _) _).alloc (by simp) _) _⟩
  first | rfl | (congr 1; rw [Bool.eq_iff_iff]; simp)

set_option maxRecDepth 100000 in
set_option maxHeartbeats 1000000 in
theorem addBy_any (way a b : Int) (h0 : 0 ≤ a) (h1 : a < 4294967296) (g0 : 0 ≤ b) (g1 : b < 4294967296) (w : World) :
    Calls Try.prog 50 #[.int .i64 way, .int .u32 a, .int .u32 b] w fun e w' => e = .returned (.int .u32 (Flt.addBy way a b)) ∧ Below w.heap.size w w' := by
  cases hn : Flt.isNaN a <;> cases hm : Flt.isNaN b <;> cases hi : Flt.isInf a <;> cases hj : Flt.isInf b
  case false.false.false.false =>
    go_enter Try.func50, Try.ntmps50
    go_wp2_with (first | (go_at_call 22; refine (nan_any _ (by assumption) (by assumption) _).mono ?_; rintro e w' ⟨rfl, rfl⟩) | (go_at_call 39; refine (inf_any _ (by assumption) (by assumption) _).mono ?_; rintro e w' ⟨rfl, rfl⟩) | (go_at_call 63; refine (below_any _ (by assumption) (by assumption) _).mono ?_; rintro e w' ⟨rfl, rfl⟩) | (go_at_call 47; refine (kind_any _ (by assumption) (by assumption) _).mono ?_; rintro e w' ⟨rfl, rfl⟩) | (go_at_call 64; refine (signBit_any _ _).mono ?_; rintro e w' ⟨rfl, rfl⟩))
    refine (split_any a h0 h1 _).mono ?_
    rintro e w1 ⟨rfl, hb1⟩
    go_wp2_with fail
    refine (split_any b g0 g1 _).mono ?_
    rintro e w2 ⟨rfl, hb2⟩
    go_wp2_with fail
    refine (sum_any way a b _).mono ?_
    rintro e w3 ⟨rfl, hb3⟩
    go_wp2_with fail
    go_ret
    exact ⟨ret_int (by simp [Flt.addBy, hn, hm, hi, hj]), (hb1.trans (hb2.mono hb1.size)).trans (hb3.mono (Nat.le_trans hb1.size hb2.size))⟩
  all_goals
    go_enter Try.func50, Try.ntmps50
    go_wp2_with (first | (go_at_call 22; refine (nan_any _ (by assumption) (by assumption) _).mono ?_; rintro e w' ⟨rfl, rfl⟩) | (go_at_call 39; refine (inf_any _ (by assumption) (by assumption) _).mono ?_; rintro e w' ⟨rfl, rfl⟩) | (go_at_call 63; refine (below_any _ (by assumption) (by assumption) _).mono ?_; rintro e w' ⟨rfl, rfl⟩) | (go_at_call 47; refine (kind_any _ (by assumption) (by assumption) _).mono ?_; rintro e w' ⟨rfl, rfl⟩) | (go_at_call 64; refine (signBit_any _ _).mono ?_; rintro e w' ⟨rfl, rfl⟩))
  all_goals go_ret
  all_goals refine ⟨ret_int ?_, Below.refl _ _⟩
  all_goals simp_all [Flt.addBy]

theorem kind_of (a : Int) : (Flt.kind a = 3 ↔ Flt.isNaN a = true) ∧ (Flt.kind a = 2 ↔ Flt.isInf a = true) ∧ (Flt.kind a = 0 ↔ a % 2147483648 = 0) := by
  unfold Flt.kind Flt.isNaN Flt.isInf
  simp only [decide_eq_true_eq]
  (repeat' split) <;> omega

theorem sig_pos (a : Int) (h : Flt.kind a = 1) : 1 ≤ Flt.sig a := by
  unfold Flt.kind at h; unfold Flt.sig
  split at h; · omega
  split at h; · omega
  split at h; · omega
  split <;> omega
theorem kind_cases (a : Int) : Flt.kind a = 0 ∨ Flt.kind a = 1 ∨ Flt.kind a = 2 ∨ Flt.kind a = 3 := by
  unfold Flt.kind; (repeat' split) <;> omega

theorem bcell {W w1 : World} (hb : Below W.heap.size W w1) : (∀ b o, b < W.heap.size → w1.cell? ⟨b, o, none⟩ = W.cell? ⟨b, o, none⟩) ∧ (∀ b o, b < W.heap.size → w1.frozen? ⟨b, o, none⟩ = W.frozen? ⟨b, o, none⟩) :=
  ⟨fun b o h => hb.cell (p := ⟨b, o, none⟩) h, fun b o h => hb.frozen (p := ⟨b, o, none⟩) h⟩

set_option maxRecDepth 100000 in
set_option maxHeartbeats 1000000 in
theorem mulBy_fin (way a b : Int) (h0 : 0 ≤ a) (h1 : a < 4294967296) (g0 : 0 ≤ b) (g1 : b < 4294967296) (ka : Flt.kind a = 0 ∨ Flt.kind a = 1) (kb : Flt.kind b = 0 ∨ Flt.kind b = 1) (w : World) :
    Calls Try.prog 51 #[.int .i64 way, .int .u32 a, .int .u32 b] w fun e w' => e = .returned (.int .u32 (Flt.rnd way (Flt.sgn a != Flt.sgn b) (Flt.expo a + Flt.expo b) (Flt.sig a * Flt.sig b) false)) ∧ Below w.heap.size w w' := by
  obtain ⟨s0, s1⟩ := Flt.sig_range a
  obtain ⟨t0, t1⟩ := Flt.sig_range b
  obtain ⟨e0, e1⟩ := Flt.expo_range a
  obtain ⟨f0, f1⟩ := Flt.expo_range b
  have p0 : 0 ≤ Flt.sig a * Flt.sig b := Int.mul_nonneg s0 t0
  have p1 : Flt.sig a * Flt.sig b ≤ 16777216 * 16777216 := Int.mul_le_mul (by omega) (by omega) t0 (by omega)
  rcases ka with ka | ka <;> rcases kb with kb | kb
  all_goals
    go_enter Try.func51, Try.ntmps51
    go_wp2_with (first | (go_at_call 22; refine (nan_any _ (by assumption) (by assumption) _).mono ?_; rintro e w' ⟨rfl, rfl⟩) | (go_at_call 39; refine (inf_any _ (by assumption) (by assumption) _).mono ?_; rintro e w' ⟨rfl, rfl⟩) | (go_at_call 63; refine (below_any _ (by assumption) (by assumption) _).mono ?_; rintro e w' ⟨rfl, rfl⟩) | (go_at_call 47; refine (kind_any _ (by assumption) (by assumption) _).mono ?_; rintro e w' ⟨rfl, rfl⟩) | (go_at_call 64; refine (signBit_any _ _).mono ?_; rintro e w' ⟨rfl, rfl⟩))
    refine (split_any a h0 h1 _).mono ?_
    rintro e w1 ⟨rfl, hb1⟩
    go_wp2_with fail
    refine (split_any b g0 g1 _).mono ?_
    rintro e w2 ⟨rfl, hb2⟩
    go_wp2_with fail
    refine (round_any _ _ _ _ _ p0 (by omega) _).mono ?_
    rintro e w3 ⟨rfl, rfl⟩
    go_wp2_with fail
    go_ret
    exact ⟨ret_int rfl, ((((hb1.trans (hb2.mono hb1.size)).alloc (Nat.le_trans hb1.size hb2.size) _).alloc (by simp; exact Nat.le_succ_of_le (Nat.le_trans hb1.size hb2.size)) _))⟩

set_option maxRecDepth 100000 in
set_option maxHeartbeats 1000000 in
theorem mulBy_any (way a b : Int) (h0 : 0 ≤ a) (h1 : a < 4294967296) (g0 : 0 ≤ b) (g1 : b < 4294967296) (w : World) :
    Calls Try.prog 51 #[.int .i64 way, .int .u32 a, .int .u32 b] w fun e w' => e = .returned (.int .u32 (Flt.mulBy way a b)) ∧ Below w.heap.size w w' := by
  obtain ⟨a3, a2, a0⟩ := kind_of a
  obtain ⟨b3, b2, b0⟩ := kind_of b
  unfold Flt.mulBy
  simp only [← a3, ← b3, ← a2, ← b2, ← a0, ← b0]
  clear a3 a2 a0 b3 b2 b0
  by_cases hfin : (Flt.kind a = 0 ∨ Flt.kind a = 1) ∧ (Flt.kind b = 0 ∨ Flt.kind b = 1)
  · rw [if_neg (by omega), if_neg (by omega), if_neg (by omega)]
    exact mulBy_fin way a b h0 h1 g0 g1 hfin.1 hfin.2 w
  · rcases kind_cases a with ka | ka | ka | ka <;> rcases kind_cases b with kb | kb | kb | kb <;> rw [ka, kb] at hfin <;> first | (exfalso; omega) | skip
    all_goals clear hfin
    all_goals rw [ka, kb]
    all_goals simp only [Int.reduceEq, or_true, or_false, and_true, and_false, if_true, if_false, or_self, and_self]
    all_goals
      go_enter Try.func51, Try.ntmps51
      go_wp2_with (first | (go_at_call 22; refine (nan_any _ (by assumption) (by assumption) _).mono ?_; rintro e w' ⟨rfl, rfl⟩) | (go_at_call 39; refine (inf_any _ (by assumption) (by assumption) _).mono ?_; rintro e w' ⟨rfl, rfl⟩) | (go_at_call 63; refine (below_any _ (by assumption) (by assumption) _).mono ?_; rintro e w' ⟨rfl, rfl⟩) | (go_at_call 47; refine (kind_any _ (by assumption) (by assumption) _).mono ?_; rintro e w' ⟨rfl, rfl⟩) | (go_at_call 64; refine (signBit_any _ _).mono ?_; rintro e w' ⟨rfl, rfl⟩))
    all_goals go_ret
    all_goals refine ⟨ret_int ?_, Below.refl _ _⟩
    all_goals first | rfl | (exact sign_or _ _ (by omega) (by omega))

set_option maxRecDepth 100000 in
set_option maxHeartbeats 1000000 in
theorem divBy_fin (way a b : Int) (h0 : 0 ≤ a) (h1 : a < 4294967296) (g0 : 0 ≤ b) (g1 : b < 4294967296) (ka : Flt.kind a = 1) (kb : Flt.kind b = 1) (w : World) :
    Calls Try.prog 49 #[.int .i64 way, .int .u32 a, .int .u32 b] w fun e w' => e = .returned (.int .u32 (Flt.quoM way (Flt.sgn a != Flt.sgn b) (Flt.expo a) (Flt.sig a) (Flt.expo b) (Flt.sig b))) ∧ Below w.heap.size w w' := by
  obtain ⟨s0, s1⟩ := Flt.sig_range a
  obtain ⟨t0, t1⟩ := Flt.sig_range b
  obtain ⟨e0, e1⟩ := Flt.expo_range a
  obtain ⟨f0, f1⟩ := Flt.expo_range b
  have s2 := sig_pos a ka
  have t2 := sig_pos b kb
  go_enter Try.func49, Try.ntmps49
  go_wp2_with (first | (go_at_call 22; refine (nan_any _ (by assumption) (by assumption) _).mono ?_; rintro e w' ⟨rfl, rfl⟩) | (go_at_call 39; refine (inf_any _ (by assumption) (by assumption) _).mono ?_; rintro e w' ⟨rfl, rfl⟩) | (go_at_call 63; refine (below_any _ (by assumption) (by assumption) _).mono ?_; rintro e w' ⟨rfl, rfl⟩) | (go_at_call 47; refine (kind_any _ (by assumption) (by assumption) _).mono ?_; rintro e w' ⟨rfl, rfl⟩) | (go_at_call 64; refine (signBit_any _ _).mono ?_; rintro e w' ⟨rfl, rfl⟩))
  refine (split_any a h0 h1 _).mono ?_
  rintro e w1 ⟨rfl, hb1⟩
  go_wp2_with fail
  refine (split_any b g0 g1 _).mono ?_
  rintro e w2 ⟨rfl, hb2⟩
  go_wp2_with fail
  refine (quotient_any way _ _ _ _ _ _ _ s2 s1 t2 t1 e0 e1 f0 f1 _).mono ?_
  rintro e w3 ⟨rfl, hb3⟩
  go_wp2_with fail
  go_ret
  exact ⟨ret_int rfl, (hb1.trans (hb2.mono hb1.size)).trans (hb3.mono (Nat.le_trans hb1.size hb2.size))⟩

set_option maxRecDepth 100000 in
set_option maxHeartbeats 1000000 in
theorem divBy_any (way a b : Int) (h0 : 0 ≤ a) (h1 : a < 4294967296) (g0 : 0 ≤ b) (g1 : b < 4294967296) (w : World) :
    Calls Try.prog 49 #[.int .i64 way, .int .u32 a, .int .u32 b] w fun e w' => e = .returned (.int .u32 (Flt.divBy way a b)) ∧ Below w.heap.size w w' := by
  obtain ⟨a3, a2, a0⟩ := kind_of a
  obtain ⟨b3, b2, b0⟩ := kind_of b
  unfold Flt.divBy
  simp only [← a3, ← b3, ← a2, ← b2, ← a0, ← b0]
  clear a3 a2 a0 b3 b2 b0
  by_cases hfin : Flt.kind a = 1 ∧ Flt.kind b = 1
  · rw [if_neg (by omega), if_neg (by omega), if_neg (by omega), if_neg (by omega)]
    exact divBy_fin way a b h0 h1 g0 g1 hfin.1 hfin.2 w
  · rcases kind_cases a with ka | ka | ka | ka <;> rcases kind_cases b with kb | kb | kb | kb <;> rw [ka, kb] at hfin <;> first | (exfalso; omega) | skip
    all_goals clear hfin
    all_goals rw [ka, kb]
    all_goals simp only [Int.reduceEq, or_true, or_false, and_true, and_false, if_true, if_false, or_self, and_self]
    all_goals
      go_enter Try.func49, Try.ntmps49
      go_wp2_with (first | (go_at_call 22; refine (nan_any _ (by assumption) (by assumption) _).mono ?_; rintro e w' ⟨rfl, rfl⟩) | (go_at_call 39; refine (inf_any _ (by assumption) (by assumption) _).mono ?_; rintro e w' ⟨rfl, rfl⟩) | (go_at_call 63; refine (below_any _ (by assumption) (by assumption) _).mono ?_; rintro e w' ⟨rfl, rfl⟩) | (go_at_call 47; refine (kind_any _ (by assumption) (by assumption) _).mono ?_; rintro e w' ⟨rfl, rfl⟩) | (go_at_call 64; refine (signBit_any _ _).mono ?_; rintro e w' ⟨rfl, rfl⟩))
    all_goals go_ret
    all_goals refine ⟨ret_int ?_, Below.refl _ _⟩
    all_goals first | rfl | (exact sign_or _ _ (by omega) (by omega))

theorem add_any (a b : Int) (h0 : 0 ≤ a) (h1 : a < 4294967296) (g0 : 0 ≤ b) (g1 : b < 4294967296) (w : World) :
    Calls Try.prog 26 #[.int .u32 a, .int .u32 b] w fun e w' => e = .returned (.int .u32 (Flt.addBy 0 a b)) ∧ Below w.heap.size w w' := by
  go_enter Try.func26, Try.ntmps26
  go_wp2_with fail
  refine (addBy_any 0 a b h0 h1 g0 g1 _).mono ?_
  rintro e w1 ⟨rfl, hb1⟩
  go_wp2_with fail
  go_ret
  exact ⟨ret_int rfl, hb1⟩

theorem mul_any (a b : Int) (h0 : 0 ≤ a) (h1 : a < 4294967296) (g0 : 0 ≤ b) (g1 : b < 4294967296) (w : World) :
    Calls Try.prog 27 #[.int .u32 a, .int .u32 b] w fun e w' => e = .returned (.int .u32 (Flt.mulBy 0 a b)) ∧ Below w.heap.size w w' := by
  go_enter Try.func27, Try.ntmps27
  go_wp2_with fail
  refine (mulBy_any 0 a b h0 h1 g0 g1 _).mono ?_
  rintro e w1 ⟨rfl, hb1⟩
  go_wp2_with fail
  go_ret
  exact ⟨ret_int rfl, hb1⟩

theorem div_any (a b : Int) (h0 : 0 ≤ a) (h1 : a < 4294967296) (g0 : 0 ≤ b) (g1 : b < 4294967296) (w : World) :
    Calls Try.prog 25 #[.int .u32 a, .int .u32 b] w fun e w' => e = .returned (.int .u32 (Flt.divBy 0 a b)) ∧ Below w.heap.size w w' := by
  go_enter Try.func25, Try.ntmps25
  go_wp2_with fail
  refine (divBy_any 0 a b h0 h1 g0 g1 _).mono ?_
  rintro e w1 ⟨rfl, hb1⟩
  go_wp2_with fail
  go_ret
  exact ⟨ret_int rfl, hb1⟩

theorem negF_range (a : Int) : 0 ≤ Flt.negF a ∧ Flt.negF a < 4294967296 := by unfold Flt.negF; omega

theorem sub_any (a b : Int) (h0 : 0 ≤ a) (h1 : a < 4294967296) (g0 : 0 ≤ b) (g1 : b < 4294967296) (w : World) :
    Calls Try.prog 24 #[.int .u32 a, .int .u32 b] w fun e w' => e = .returned (.int .u32 (Flt.addBy 0 a (Flt.negF b))) ∧ Below w.heap.size w w' := by
  obtain ⟨n0, n1⟩ := negF_range b
  go_enter Try.func24, Try.ntmps24
  go_wp2_with (go_at_call 34; refine (neg_any _ g0 g1 _).mono ?_; rintro e w' ⟨rfl, rfl⟩)
  refine (add_any a _ h0 h1 n0 n1 _).mono ?_
  rintro e w1 ⟨rfl, hb1⟩
  go_wp2_with fail
  go_ret
  exact ⟨ret_int rfl, hb1⟩
end Go.Proofs.Ytkbniebahledmab

/-
  The walk of the statements' common head: the document's rows of examples come out.
-/
namespace Go.Proofs.Ytkbniebahledmab
open Go.RowKit
set_option linter.unusedVariables false

theorem bl_tr {w v u : World} (h : Below w.heap.size w v) (k : Below v.heap.size v u) : Below w.heap.size w u := h.trans (k.mono h.size)

theorem ex_a : Flt.addBy 0 1065353217 864026624 = 1065353218 := by decide +kernel
theorem ex_b : Flt.addBy 2 1065353216 2147483649 = 1065353215 := by decide +kernel
theorem ex_c : Flt.divBy 0 1065353216 1077936128 = 1051372203 := by decide +kernel
theorem ex_d : Flt.mulBy 1 1 1056964608 = 1 := by decide +kernel
theorem ex_e : Flt.rnd 0 false 0 16777217 true = 1266679809 := by decide +kernel
theorem ex_f : Flt.lessF 3212836864 1 = true := by decide +kernel

end Go.Proofs.Ytkbniebahledmab

/-
  Walks of package soft's Min and Max, and of the document's answers to looks and comparisons.
-/
namespace Go.Proofs.Ytkbniebahledmab
open Go.RowKit
set_option linter.unusedVariables false

theorem rabs_any (a : Int) (h0 : 0 ≤ a) (h1 : a < 4294967296) (w : World) :
    Calls Try.prog 12 #[.int .u32 a] w fun e w' => e = .returned (.int .u32 (Flt.absF a)) ∧ w' = w := by
  go_enter Try.func12, Try.ntmps12
  go_wp2
  go_ret
  exact ⟨ret_int rfl, rfl⟩

theorem risNone_any (a : Int) (h0 : 0 ≤ a) (h1 : a < 4294967296) (w : World) :
    Calls Try.prog 7 #[.int .u32 a] w fun e w' => e = .returned (.bool (Flt.isNaN a)) ∧ w' = w := by
  go_enter Try.func7, Try.ntmps7
  go_wp2_with (go_at_call 12; refine (rabs_any _ h0 h1 _).mono ?_; rintro e w' ⟨rfl, rfl⟩)
  go_ret
  exact ⟨ret_bool rfl, rfl⟩

theorem rbelow_any (a : Int) (h0 : 0 ≤ a) (h1 : a < 4294967296) (w : World) :
    Calls Try.prog 55 #[.int .u32 a] w fun e w' => e = .returned (.bool (Flt.sgn a)) ∧ w' = w := by
  go_enter Try.func55, Try.ntmps55
  go_wp2
  go_ret
  exact ⟨ret_bool rfl, rfl⟩

theorem rcanon_any (a : Int) (h0 : 0 ≤ a) (h1 : a < 4294967296) (w : World) :
    Calls Try.prog 20 #[.int .u32 a] w fun e w' => e = .returned (.int .u32 (Flt.canon a)) ∧ w' = w := by
  cases hn : Flt.isNaN a
  all_goals
    go_enter Try.func20, Try.ntmps20
    go_wp2_with (go_at_call 7; refine (risNone_any _ h0 h1 _).mono ?_; rintro e w' ⟨rfl, rfl⟩)
    go_ret
    exact ⟨ret_int (by simp [Flt.canon, hn]), rfl⟩

theorem rneg_any (a : Int) (h0 : 0 ≤ a) (h1 : a < 4294967296) (w : World) :
    Calls Try.prog 6 #[.int .u32 a] w fun e w' => e = .returned (.int .u32 (Flt.negF a)) ∧ w' = w := by
  go_enter Try.func6, Try.ntmps6
  go_wp2
  all_goals go_ret
  all_goals exact ⟨ret_int (by unfold Flt.negF; omega), rfl⟩

/-- The document's comparison. -/
def cmpF (a b : Int) : Int := if Flt.place a < Flt.place b then -1 else if Flt.place b < Flt.place a then 1 else 0

def cmpR (a b : Int) : Int := if Flt.isNaN a = true ∨ Flt.isNaN b = true then 0 else cmpF a b
theorem lessF_iff (a b : Int) (hn : Flt.isNaN a = false) (hm : Flt.isNaN b = false) : Flt.lessF a b = decide (Flt.place a < Flt.place b) := by simp [Flt.lessF, hn, hm]
theorem place_one (a b : Int) (h0 : 0 ≤ a) (h1 : a < 4294967296) (g0 : 0 ≤ b) (g1 : b < 4294967296) (h : Flt.place a = Flt.place b) : a = b ∨ (a = 0 ∧ b = 2147483648) ∨ (a = 2147483648 ∧ b = 0) := by
  unfold Flt.place at h
  split at h <;> split at h <;> omega
theorem or_same (a : Int) (h0 : 0 ≤ a) (h1 : a < 4294967296) : bits .or .u32 a a = a := by
  go_bits2
  rw [Nat.or_self]; omega
theorem and_same (a : Int) (h0 : 0 ≤ a) (h1 : a < 4294967296) : bits .and .u32 a a = a := by
  go_bits2
  rw [Nat.and_self]; omega
theorem min_or (a b : Int) (h0 : 0 ≤ a) (h1 : a < 4294967296) (g0 : 0 ≤ b) (g1 : b < 4294967296) (h : Flt.place a = Flt.place b) : bits .or .u32 a b = if 2147483648 ≤ a then a else b := by
  rcases place_one a b h0 h1 g0 g1 h with rfl | ⟨rfl, rfl⟩ | ⟨rfl, rfl⟩
  · rw [or_same a h0 h1]; split <;> rfl
  · decide +kernel
  · decide +kernel
theorem max_and (a b : Int) (h0 : 0 ≤ a) (h1 : a < 4294967296) (g0 : 0 ≤ b) (g1 : b < 4294967296) (h : Flt.place a = Flt.place b) : bits .and .u32 a b = if 2147483648 ≤ a then b else a := by
  rcases place_one a b h0 h1 g0 g1 h with rfl | ⟨rfl, rfl⟩ | ⟨rfl, rfl⟩
  · rw [and_same a h0 h1]; split <;> rfl
  · decide +kernel
  · decide +kernel
theorem ret_tup {a a' : Int} {b b' : Bool} (h : a = a') (g : b = b') : Ending.returned (.tuple #[.int .i64 a, .bool b]) = .returned (.tuple #[.int .i64 a', .bool b']) := by rw [h, g]

theorem place_eq (a : Int) (h0 : 0 ≤ a) : Flt.place a = if Flt.sgn a = true then -(Flt.absF a) else Flt.absF a := by
  unfold Flt.place Flt.sgn Flt.absF
  by_cases h : 2147483648 ≤ a
  · simp [h]
  · rw [if_neg h, if_neg (by simp; omega)]; omega

set_option maxRecDepth 100000 in
set_option maxHeartbeats 1000000 in
theorem rcompared_any (a b : Int) (h0 : 0 ≤ a) (h1 : a < 4294967296) (g0 : 0 ≤ b) (g1 : b < 4294967296) (w : World) :
    Calls Try.prog 35 #[.int .u32 a, .int .u32 b] w fun e w' => e = .returned (.tuple #[.int .i64 (cmpR a b), .bool (!Flt.isNaN a && !Flt.isNaN b)]) ∧ w' = w := by
  have ra : 0 ≤ Flt.absF a ∧ Flt.absF a < 2147483648 := by unfold Flt.absF; omega
  have rb : 0 ≤ Flt.absF b ∧ Flt.absF b < 2147483648 := by unfold Flt.absF; omega
  obtain ⟨ra0, ra1⟩ := ra
  obtain ⟨rb0, rb1⟩ := rb
  have pa := hide (place_eq a h0)
  have pb := hide (place_eq b g0)
  cases hn : Flt.isNaN a <;> cases hm : Flt.isNaN b <;> cases hs : Flt.sgn a <;> cases ht : Flt.sgn b
  all_goals
    go_enter Try.func35, Try.ntmps35
    go_wp2_with (first | (go_at_call 7; refine (risNone_any _ (by assumption) (by assumption) _).mono ?_; rintro e w' ⟨rfl, rfl⟩) | (go_at_call 12; refine (rabs_any _ (by assumption) (by assumption) _).mono ?_; rintro e w' ⟨rfl, rfl⟩) | (go_at_call 55; refine (rbelow_any _ (by assumption) (by assumption) _).mono ?_; rintro e w' ⟨rfl, rfl⟩))
  all_goals go_ret2
  all_goals refine ⟨ret_tup ?_ rfl, rfl⟩
  all_goals simp only [cmpR, cmpF, hn, hm, unhide pa, unhide pb, hs, ht]
  all_goals simp
  all_goals (repeat' split) <;> omega

set_option maxRecDepth 100000 in
set_option maxHeartbeats 1000000 in
theorem min_any (a b : Int) (h0 : 0 ≤ a) (h1 : a < 4294967296) (g0 : 0 ≤ b) (g1 : b < 4294967296) (w : World) :
    Calls Try.prog 52 #[.int .u32 a, .int .u32 b] w fun e w' => e = .returned (.int .u32 (Flt.minF a b)) ∧ w' = w := by
  cases hn : Flt.isNaN a <;> cases hm : Flt.isNaN b <;> cases hl : Flt.lessF a b <;> cases hk : Flt.lessF b a
  all_goals
    go_enter Try.func52, Try.ntmps52
    go_wp2_with (first | (go_at_call 22; refine (nan_any _ (by assumption) (by assumption) _).mono ?_; rintro e w' ⟨rfl, rfl⟩) | (go_at_call 23; refine (less_any _ _ (by assumption) (by assumption) (by assumption) (by assumption) _).mono ?_; rintro e w' ⟨rfl, rfl⟩))
  all_goals go_ret
  all_goals refine ⟨ret_int ?_, rfl⟩
  all_goals unfold Flt.minF
  all_goals simp only [hn, hm]
  all_goals try rw [lessF_iff _ _ hn hm] at hl
  all_goals try rw [lessF_iff _ _ hm hn] at hk
  all_goals try simp only [decide_eq_true_eq, decide_eq_false_iff_not] at hl hk
  all_goals simp only [Bool.false_eq_true, or_self, or_true, or_false, if_true, if_false]
  all_goals first | done | (rw [min_or a b h0 h1 g0 g1 (Int.le_antisymm (Int.not_lt.1 hk) (Int.not_lt.1 hl)), if_neg hl, if_neg hk]) | (rw [if_pos hl]) | (rw [if_neg hl, if_pos hk])

set_option maxRecDepth 100000 in
set_option maxHeartbeats 1000000 in
theorem max_any (a b : Int) (h0 : 0 ≤ a) (h1 : a < 4294967296) (g0 : 0 ≤ b) (g1 : b < 4294967296) (w : World) :
    Calls Try.prog 42 #[.int .u32 a, .int .u32 b] w fun e w' => e = .returned (.int .u32 (Flt.maxF a b)) ∧ w' = w := by
  cases hn : Flt.isNaN a <;> cases hm : Flt.isNaN b <;> cases hl : Flt.lessF a b <;> cases hk : Flt.lessF b a
  all_goals
    go_enter Try.func42, Try.ntmps42
    go_wp2_with (first | (go_at_call 22; refine (nan_any _ (by assumption) (by assumption) _).mono ?_; rintro e w' ⟨rfl, rfl⟩) | (go_at_call 23; refine (less_any _ _ (by assumption) (by assumption) (by assumption) (by assumption) _).mono ?_; rintro e w' ⟨rfl, rfl⟩))
  all_goals go_ret
  all_goals refine ⟨ret_int ?_, rfl⟩
  all_goals unfold Flt.maxF
  all_goals simp only [hn, hm]
  all_goals try rw [lessF_iff _ _ hn hm] at hl
  all_goals try rw [lessF_iff _ _ hm hn] at hk
  all_goals try simp only [decide_eq_true_eq, decide_eq_false_iff_not] at hl hk
  all_goals simp only [Bool.false_eq_true, or_self, or_true, or_false, if_true, if_false]
  all_goals first | done | (rw [max_and a b h0 h1 g0 g1 (Int.le_antisymm (Int.not_lt.1 hk) (Int.not_lt.1 hl)), if_neg hl, if_neg hk]) | (rw [if_pos hl]) | (rw [if_neg hl, if_pos hk])

end Go.Proofs.Ytkbniebahledmab
