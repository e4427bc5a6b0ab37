import Derived.Test.YtbcmfgohbppndaaChecked
import Derived.Test.YtbcmfgohbppndaaGA
import Derived.WalkKit
import Derived.ProofKit
import Derived.OpenShut
import Derived.Deep.QuietTactic
import Derived.BigQuiet
import Derived.Deep.RegionWith
import Derived.Below
import Derived.Handy
import Derived.RegionTactic
import Derived.ChangeAlike

/-
  Walks of package soft's small functions: what each returns, for every float.
-/
namespace Go.Proofs.Ytbcmfgohbppndaa
open Go.RowKit

theorem hide {p : Prop} (h : p) : Hid p := h
theorem unhide {p : Prop} (h : Hid p) : p := h
theorem wf_u32_iff {n : Int} (h : (Lit.int .u32 n).wf = true) : 0 ≤ n ∧ n < 4294967296 := by
  simp [Lit.wf, IntKind.min, IntKind.max, IntKind.signed, IntKind.bits] at h; omega
theorem wf_u64_iff {n : Int} (h : (Lit.int .u64 n).wf = true) : 0 ≤ n ∧ n < 18446744073709551616 := by
  simp [Lit.wf, IntKind.min, IntKind.max, IntKind.signed, IntKind.bits] at h; omega
theorem wf_i64_iff {n : Int} (h : (Lit.int .i64 n).wf = true) : -9223372036854775808 ≤ n ∧ n < 9223372036854775808 := by
  simp [Lit.wf, IntKind.min, IntKind.max, IntKind.signed, IntKind.bits] at h; omega
theorem ret_int {k : IntKind} {a b : Int} (h : a = b) : Ending.returned (.int k a) = .returned (.int k b) := by rw [h]
theorem ret_bool {a b : Bool} (h : a = b) : Ending.returned (.bool a) = .returned (.bool b) := by rw [h]

theorem place_lo (a : Int) (h0 : 0 ≤ a) (h1 : a < 4294967296) : -2147483648 < Flt.place a ∧ Flt.place a < 2147483648 := by
  unfold Flt.place; split <;> omega

end Go.Proofs.Ytbcmfgohbppndaa

/-
  Walks of package soft's rounding: what Round returns, for every input.
-/
namespace Go.Proofs.Ytbcmfgohbppndaa
open Go.RowKit

theorem len_close (x y k : Int) (K : Nat) (h0 : 0 ≤ x) (hK : K < 64) (hk : k = K) (hy : y = x / (2 ^ K : Nat)) (hy1 : 1 ≤ y) (hy2 : y < 256) :
    wrap64 (k + wrap64 (bitLen y.toNat)) = (bitLen x.toNat : Int) := by
  have hb := bitLen_le8 y.toNat (by omega)
  have hx : x.toNat / 2 ^ K = y.toNat := by
    obtain ⟨n, rfl⟩ := Int.eq_ofNat_of_zero_le h0
    rw [hy, ← Int.natCast_ediv, Int.toNat_natCast, Int.toNat_natCast]
  have hs := bitLen_shift x.toNat K (by rw [hx]; omega)
  rw [hx] at hs
  have hx64 : bitLen x.toNat = K + bitLen y.toNat := hs
  rw [IntWalk.wrap64_in (bitLen y.toNat) (by omega), IntWalk.wrap64_in _ (by omega), hx64]; omega
theorem len_close0 (x : Int) (h0 : 0 ≤ x) (h : x < 256) : wrap64 (wrap64 (bitLen x.toNat)) = (bitLen x.toNat : Int) := by
  have hb := bitLen_le8 x.toNat (by omega)
  rw [IntWalk.wrap64_in (bitLen x.toNat) (by omega), IntWalk.wrap64_in _ (by omega)]

theorem len_le (x : Int) (h1 : x < 18446744073709551616) : bitLen x.toNat ≤ 64 := by
  unfold bitLen
  split
  · omega
  · rename_i h
    have := (Nat.log2_lt h).2 (show x.toNat < 2 ^ 64 by omega)
    omega

end Go.Proofs.Ytbcmfgohbppndaa

/-
  The walk of package soft's Round, for every input.
-/
namespace Go.Proofs.Ytbcmfgohbppndaa
open Go.RowKit

theorem lz_range (x : Int) (h0 : 1 ≤ x) (h1 : x < 18446744073709551616) :
    0 ≤ Flt.lz x ∧ Flt.lz x ≤ 63 ∧ 9223372036854775808 ≤ x * 2 ^ (Flt.lz x).toNat ∧ x * 2 ^ (Flt.lz x).toNat < 18446744073709551616 := by
  obtain ⟨n, rfl⟩ := Int.eq_ofNat_of_zero_le (show 0 ≤ x by omega)
  have hb := len_le n h1
  obtain ⟨s1, s2⟩ := bitLen_spec n
  have s3 := s2 (by omega)
  unfold Flt.lz
  rw [Int.toNat_natCast] at *
  generalize bitLen n = B at *
  have hB : 1 ≤ B := by
    rcases Nat.eq_zero_or_pos B with h | h
    · rw [h] at s1; simp at s1; omega
    · exact h
  refine ⟨by omega, by omega, ?_⟩
  have e : (64 - (B : Int)).toNat = 64 - B := by omega
  rw [e]
  have p1 : (2 : Nat) ^ (B - 1) * 2 ^ (64 - B) = 9223372036854775808 := by
    rw [← Nat.pow_add, show B - 1 + (64 - B) = 63 by omega]
  have p2 : (2 : Nat) ^ B * 2 ^ (64 - B) = 18446744073709551616 := by
    rw [← Nat.pow_add, show B + (64 - B) = 64 by omega]
  have q1 : 2 ^ (B - 1) * 2 ^ (64 - B) ≤ n * 2 ^ (64 - B) := Nat.mul_le_mul_right _ s3
  have q2 : n * 2 ^ (64 - B) < 2 ^ B * 2 ^ (64 - B) := Nat.mul_lt_mul_of_pos_right s1 (Nat.two_pow_pos _)
  rw [p1] at q1
  rw [p2] at q2
  have c : ((n * 2 ^ (64 - B) : Nat) : Int) = (n : Int) * 2 ^ (64 - B) := by push_cast; rfl
  rw [← c]
  omega

theorem div_small (S d : Int) (h0 : 9223372036854775808 ≤ S) (h1 : S < 18446744073709551616) (hd : 41 ≤ d) : 0 ≤ S / 2 ^ d.toNat ∧ S / 2 ^ d.toNat < 8388608 := by
  obtain ⟨n, rfl⟩ := Int.eq_ofNat_of_zero_le (show 0 ≤ d by omega)
  rw [Int.toNat_natCast]
  have hp : (0 : Int) < 2 ^ n := Int.pow_pos (by decide)
  refine ⟨Int.ediv_nonneg (by omega) (by omega), Int.ediv_lt_of_lt_mul hp ?_⟩
  have e : (2 : Int) ^ n = 2 ^ 41 * 2 ^ (n - 41) := by rw [← Int.pow_add, show 41 + (n - 41) = n by omega]
  have h2 : (0 : Int) < 2 ^ (n - 41) := Int.pow_pos (by decide)
  rw [e]
  generalize (2 : Int) ^ (n - 41) = y at *
  have : (2 : Int) ^ 41 = 2199023255552 := by decide
  rw [this]
  omega

theorem div_zero (S d : Int) (h0 : 0 ≤ S) (h1 : S < 18446744073709551616) (hd : 64 ≤ d) : S / 2 ^ d.toNat = 0 := by
  refine Int.ediv_eq_zero_of_lt (by omega) ?_
  have e2 : (2 : Int) ^ d.toNat = 2 ^ 64 * 2 ^ (d.toNat - 64) := by rw [← Int.pow_add, show 64 + (d.toNat - 64) = d.toNat by omega]
  have h2 : (0 : Int) < 2 ^ (d.toNat - 64) := Int.pow_pos (by decide)
  rw [e2]
  generalize (2 : Int) ^ (d.toNat - 64) = y at *
  have : (2 : Int) ^ 64 = 18446744073709551616 := by decide
  rw [this]
  omega

theorem core_tiny (way : Int) (neg : Bool) : Flt.core way neg 9223372036854775808 (-873) true = if Flt.goesOn way neg 9223372036854775808 914 true = true then 1 else 0 := by
  unfold Flt.core
  rw [if_neg (by omega), if_pos (by omega), div_zero _ _ (by omega) (by omega) (by omega), Int.zero_add, show (41 - -873 : Int) = 914 by omega]

theorem shift_big (S d : Int) (h0 : 9223372036854775808 ≤ S) (h1 : S < 18446744073709551616) (hd : 41 ≤ d) :
    Op.shift .shr .u64 S .i64 d = pure (.int .u64 (S / 2 ^ d.toNat)) := by
  by_cases h : d ≤ 64
  · exact shift_shr .u64 .i64 S d (by omega) h
  · rw [shift_shr_any .u64 .i64 S d (by omega)]
    have e : min d.toNat IntKind.u64.bits = 64 := by simp [IntKind.bits]; omega
    rw [e]
    have a1 : S / 2 ^ 64 = 0 := Int.ediv_eq_zero_of_lt (by omega) (by rw [show (2 : Int) ^ 64 = 18446744073709551616 by decide]; omega)
    have a2 : S / 2 ^ d.toNat = 0 := div_zero S d (by omega) h1 (by omega)
    rw [a1, a2]

theorem sign_or (neg : Bool) (x : Int) (h0 : 0 ≤ x) (h1 : x < 2147483648) : bits .or .u32 (Flt.signBit neg) x = Flt.signBit neg + x := by
  cases neg
  · simp only [Flt.signBit]; exact (Flt.or0 x h0 (by omega)).trans (by simp)
  · simp only [Flt.signBit]; exact (Flt.or31 x h0 h1).trans (by simp; omega)

theorem wrap_u64_in (x : Int) (h0 : 0 ≤ x) (h1 : x < 18446744073709551616) : IntKind.u64.wrap x = x := by
  rw [IntKind.wrap_u64]; omega

end Go.Proofs.Ytbcmfgohbppndaa

/-
  Walks of package soft's sums, products and quotients.
-/
namespace Go.Proofs.Ytbcmfgohbppndaa
open Go.RowKit
set_option linter.unusedVariables false

theorem shr_any (s d : Int) (h0 : 0 ≤ s) (h1 : s < 18446744073709551616) (hd : 0 ≤ d) :
    Op.shift .shr .u64 s .i64 d = pure (.int .u64 (s / 2 ^ d.toNat)) := by
  by_cases h : d ≤ 64
  · exact shift_shr .u64 .i64 s d hd h
  · rw [shift_shr_any .u64 .i64 s d (by omega)]
    have e : min d.toNat IntKind.u64.bits = 64 := by simp [IntKind.bits]; omega
    rw [e, div_zero s d h0 h1 (by omega)]
    have := div_zero s 64 h0 h1 (by omega)
    rw [show ((64 : Int).toNat) = 64 from rfl] at this
    rw [this]

theorem shl_back (s d : Int) (h0 : 0 ≤ s) (h1 : s < 18446744073709551616) (hd : 0 ≤ d) :
    Op.shift .shl .u64 (s / 2 ^ d.toNat) .i64 d = pure (.int .u64 (s / 2 ^ d.toNat * 2 ^ d.toNat)) := by
  by_cases h : d ≤ 64
  · rw [shift_shl .u64 .i64 _ d hd h]
    have hp : (0 : Int) < 2 ^ d.toNat := Int.pow_pos (by decide)
    have a1 := Int.ediv_nonneg h0 (Int.le_of_lt hp)
    have a2 : s / 2 ^ d.toNat * 2 ^ d.toNat ≤ s := by have := Int.emod_nonneg s (Int.ne_of_gt hp); have e := Int.ediv_mul_add_emod s (2 ^ d.toNat); omega
    have a3 := Int.mul_nonneg a1 (Int.le_of_lt hp)
    rw [wrap_u64_in _ a3 (by omega)]
  · rw [div_zero s d h0 h1 (by omega), shift_shl_any .u64 .i64 _ d hd]
    simp [IntKind.wrap_u64]

-- SUMS
theorem xsub (a b : Int) : a - (a - b) = b := by omega
theorem mul_pow_lt (x k : Int) (h0 : 0 ≤ x) (h1 : x < 16777216) (k0 : 0 ≤ k) (k1 : k ≤ 39) : 0 ≤ x * 2 ^ k.toNat ∧ x * 2 ^ k.toNat < 9223372036854775808 := by
  obtain ⟨n, rfl⟩ := Int.eq_ofNat_of_zero_le k0
  rw [Int.toNat_natCast]
  have hp : (0 : Int) < 2 ^ n := Int.pow_pos (by decide)
  have hq : (2 : Int) ^ n ≤ 2 ^ 39 := by exact_mod_cast (Nat.pow_le_pow_right (by decide) (by omega) : 2 ^ n ≤ 2 ^ 39)
  refine ⟨Int.mul_nonneg h0 (Int.le_of_lt hp), ?_⟩
  have h2 : x * 2 ^ n ≤ 16777215 * 2 ^ n := Int.mul_le_mul_of_nonneg_right (by omega) (Int.le_of_lt hp)
  have e : (2 : Int) ^ 39 = 549755813888 := by decide
  rw [e] at hq
  omega
theorem div_le_self2 (x k : Int) (h0 : 0 ≤ x) : 0 ≤ x / 2 ^ k.toNat ∧ x / 2 ^ k.toNat ≤ x :=
  ⟨Int.ediv_nonneg h0 (Int.pow_nonneg (by decide)), Int.ediv_le_self _ h0⟩
theorem bl_drewN {B : Nat} {a w : World} (h : Below B a w) (n : Nat) : Below B a (w.drewN n) := ⟨h.os, h.tape, h.output, h.size, h.block⟩
theorem eq_ff {a b : Bool} (h : ¬ a = b) : (a == b) = false := by cases a <;> cases b <;> simp_all

end Go.Proofs.Ytbcmfgohbppndaa

/-
  Walks of package soft's AddBy, MulBy, DivBy and their nearest fellows.
-/
namespace Go.Proofs.Ytbcmfgohbppndaa
open Go.RowKit
set_option linter.unusedVariables false

theorem kind_of (a : Int) : (Flt.kind a = 3 ↔ Flt.isNaN a = true) ∧ (Flt.kind a = 2 ↔ Flt.isInf a = true) ∧ (Flt.kind a = 0 ↔ a % 2147483648 = 0) := by
  unfold Flt.kind Flt.isNaN Flt.isInf
  simp only [decide_eq_true_eq]
  (repeat' split) <;> omega

theorem sig_pos (a : Int) (h : Flt.kind a = 1) : 1 ≤ Flt.sig a := by
  unfold Flt.kind at h; unfold Flt.sig
  split at h; · omega
  split at h; · omega
  split at h; · omega
  split <;> omega
theorem kind_cases (a : Int) : Flt.kind a = 0 ∨ Flt.kind a = 1 ∨ Flt.kind a = 2 ∨ Flt.kind a = 3 := by
  unfold Flt.kind; (repeat' split) <;> omega

theorem bcell {W w1 : World} (hb : Below W.heap.size W w1) : (∀ b o, b < W.heap.size → w1.cell? ⟨b, o, none⟩ = W.cell? ⟨b, o, none⟩) ∧ (∀ b o, b < W.heap.size → w1.frozen? ⟨b, o, none⟩ = W.frozen? ⟨b, o, none⟩) :=
  ⟨fun b o h => hb.cell (p := ⟨b, o, none⟩) h, fun b o h => hb.frozen (p := ⟨b, o, none⟩) h⟩

theorem negF_range (a : Int) : 0 ≤ Flt.negF a ∧ Flt.negF a < 4294967296 := by unfold Flt.negF; omega

end Go.Proofs.Ytbcmfgohbppndaa

/-
  The walk of the statements' common head: the document's rows of examples come out.
-/
namespace Go.Proofs.Ytbcmfgohbppndaa
open Go.RowKit
set_option linter.unusedVariables false

theorem bl_tr {w v u : World} (h : Below w.heap.size w v) (k : Below v.heap.size v u) : Below w.heap.size w u := h.trans (k.mono h.size)

theorem ex_a : Flt.addBy 0 1065353217 864026624 = 1065353218 := by decide +kernel
theorem ex_b : Flt.addBy 2 1065353216 2147483649 = 1065353215 := by decide +kernel
theorem ex_c : Flt.divBy 0 1065353216 1077936128 = 1051372203 := by decide +kernel
theorem ex_d : Flt.mulBy 1 1 1056964608 = 1 := by decide +kernel
theorem ex_e : Flt.rnd 0 false 0 16777217 true = 1266679809 := by decide +kernel
theorem ex_f : Flt.lessF 3212836864 1 = true := by decide +kernel

end Go.Proofs.Ytbcmfgohbppndaa

/-
  Walks of package soft's Min and Max, and of the document's answers to looks and comparisons.
-/
namespace Go.Proofs.Ytbcmfgohbppndaa
open Go.RowKit
set_option linter.unusedVariables false

/-- The document's comparison. -/
def cmpF (a b : Int) : Int := if Flt.place a < Flt.place b then -1 else if Flt.place b < Flt.place a then 1 else 0

def cmpR (a b : Int) : Int := if Flt.isNaN a = true ∨ Flt.isNaN b = true then 0 else cmpF a b
theorem lessF_iff (a b : Int) (hn : Flt.isNaN a = false) (hm : Flt.isNaN b = false) : Flt.lessF a b = decide (Flt.place a < Flt.place b) := by simp [Flt.lessF, hn, hm]
theorem place_one (a b : Int) (h0 : 0 ≤ a) (h1 : a < 4294967296) (g0 : 0 ≤ b) (g1 : b < 4294967296) (h : Flt.place a = Flt.place b) : a = b ∨ (a = 0 ∧ b = 2147483648) ∨ (a = 2147483648 ∧ b = 0) := by
  unfold Flt.place at h
  split at h <;> split at h <;> omega
theorem or_same (a : Int) (h0 : 0 ≤ a) (h1 : a < 4294967296) : bits .or .u32 a a = a := by
  go_bits2
  rw [Nat.or_self]; omega
theorem and_same (a : Int) (h0 : 0 ≤ a) (h1 : a < 4294967296) : bits .and .u32 a a = a := by
  go_bits2
  rw [Nat.and_self]; omega
theorem min_or (a b : Int) (h0 : 0 ≤ a) (h1 : a < 4294967296) (g0 : 0 ≤ b) (g1 : b < 4294967296) (h : Flt.place a = Flt.place b) : bits .or .u32 a b = if 2147483648 ≤ a then a else b := by
  rcases place_one a b h0 h1 g0 g1 h with rfl | ⟨rfl, rfl⟩ | ⟨rfl, rfl⟩
  · rw [or_same a h0 h1]; split <;> rfl
  · decide +kernel
  · decide +kernel
theorem max_and (a b : Int) (h0 : 0 ≤ a) (h1 : a < 4294967296) (g0 : 0 ≤ b) (g1 : b < 4294967296) (h : Flt.place a = Flt.place b) : bits .and .u32 a b = if 2147483648 ≤ a then b else a := by
  rcases place_one a b h0 h1 g0 g1 h with rfl | ⟨rfl, rfl⟩ | ⟨rfl, rfl⟩
  · rw [and_same a h0 h1]; split <;> rfl
  · decide +kernel
  · decide +kernel
theorem ret_tup {a a' : Int} {b b' : Bool} (h : a = a') (g : b = b') : Ending.returned (.tuple #[.int .i64 a, .bool b]) = .returned (.tuple #[.int .i64 a', .bool b']) := by rw [h, g]

theorem place_eq (a : Int) (h0 : 0 ≤ a) : Flt.place a = if Flt.sgn a = true then -(Flt.absF a) else Flt.absF a := by
  unfold Flt.place Flt.sgn Flt.absF
  by_cases h : 2147483648 ≤ a
  · simp [h]
  · rw [if_neg h, if_neg (by simp; omega)]; omega

end Go.Proofs.Ytbcmfgohbppndaa
