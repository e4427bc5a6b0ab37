/-
  Walks of package soft's small functions: what each returns, for every float.
-/
import Derived.Test.YtkbniebahledmaaChecked
import Derived.Test.YtkbniebahledmaaFltA
import Derived.WalkKit
import Derived.ProofKit
import Derived.OpenShut
import Derived.Deep.QuietTactic
import Derived.BigQuiet
import Derived.Deep.RegionWith
namespace Go.Proofs.Ytkbniebahledmaa
open Go.RowKit

theorem hide {p : Prop} (h : p) : Hid p := h
theorem unhide {p : Prop} (h : Hid p) : p := h
theorem wf_u32_iff {n : Int} (h : (Lit.int .u32 n).wf = true) : 0 ≤ n ∧ n < 4294967296 := by
  simp [Lit.wf, IntKind.min, IntKind.max, IntKind.signed, IntKind.bits] at h; omega
theorem wf_u64_iff {n : Int} (h : (Lit.int .u64 n).wf = true) : 0 ≤ n ∧ n < 18446744073709551616 := by
  simp [Lit.wf, IntKind.min, IntKind.max, IntKind.signed, IntKind.bits] at h; omega
theorem wf_i64_iff {n : Int} (h : (Lit.int .i64 n).wf = true) : -9223372036854775808 ≤ n ∧ n < 9223372036854775808 := by
  simp [Lit.wf, IntKind.min, IntKind.max, IntKind.signed, IntKind.bits] at h; omega
theorem ret_int {k : IntKind} {a b : Int} (h : a = b) : Ending.returned (.int k a) = .returned (.int k b) := by rw [h]
theorem ret_bool {a b : Bool} (h : a = b) : Ending.returned (.bool a) = .returned (.bool b) := by rw [h]

theorem below_any (a : Int) (h0 : 0 ≤ a) (h1 : a < 4294967296) (w : World) :
    Calls Try.prog 44 #[.int .u32 a] w fun e w' => e = .returned (.bool (Flt.sgn a)) ∧ w' = w := by
  go_enter Try.func44, Try.ntmps44
  go_wp2
  go_ret
  refine ⟨ret_bool ?_, rfl⟩
  unfold Flt.sgn
  rw [Bool.eq_iff_iff]; simp; omega

theorem kind_any (a : Int) (h0 : 0 ≤ a) (h1 : a < 4294967296) (w : World) :
    Calls Try.prog 45 #[.int .u32 a] w fun e w' => e = .returned (.int .i64 (Flt.kind a)) ∧ w' = w := by
  have e1 := Flt.and23 a h0 h1
  have e2 := Flt.and8 (a / 8388608) (by omega) (by omega)
  go_enter Try.func45, Try.ntmps45
  go_wp2
  all_goals go_ret
  all_goals refine ⟨ret_int ?_, rfl⟩
  all_goals (simp only [bne_iff_ne, ne_eq, beq_iff_eq, bne_eq_false_iff_eq, beq_eq_false_iff_ne] at *)
  all_goals unfold Flt.kind
  all_goals (repeat' split) <;> omega

theorem nan_any (a : Int) (h0 : 0 ≤ a) (h1 : a < 4294967296) (w : World) :
    Calls Try.prog 20 #[.int .u32 a] w fun e w' => e = .returned (.bool (Flt.isNaN a)) ∧ w' = w := by
  go_enter Try.func20, Try.ntmps20
  go_wp2_with (go_at_call 45; refine (kind_any _ h0 h1 _).mono ?_; rintro e w' ⟨rfl, rfl⟩)
  go_ret
  refine ⟨ret_bool ?_, rfl⟩
  unfold Flt.isNaN Flt.kind
  rw [Bool.eq_iff_iff]; simp; (repeat' split) <;> omega

theorem inf_any (a : Int) (h0 : 0 ≤ a) (h1 : a < 4294967296) (w : World) :
    Calls Try.prog 21 #[.int .u32 a] w fun e w' => e = .returned (.bool (Flt.isInf a)) ∧ w' = w := by
  go_enter Try.func21, Try.ntmps21
  go_wp2_with (go_at_call 45; refine (kind_any _ h0 h1 _).mono ?_; rintro e w' ⟨rfl, rfl⟩)
  go_ret
  refine ⟨ret_bool ?_, rfl⟩
  unfold Flt.isInf Flt.kind
  rw [Bool.eq_iff_iff]; simp; (repeat' split) <;> omega

theorem abs_any (a : Int) (h0 : 0 ≤ a) (h1 : a < 4294967296) (w : World) :
    Calls Try.prog 48 #[.int .u32 a] w fun e w' => e = .returned (.int .u32 (Flt.absF a)) ∧ w' = w := by
  have e1 := Flt.andNot31 a h0 h1
  go_enter Try.func48, Try.ntmps48
  go_wp2
  go_ret
  exact ⟨ret_int rfl, rfl⟩

theorem signBit_any (n : Bool) (w : World) :
    Calls Try.prog 46 #[.bool n] w fun e w' => e = .returned (.int .u32 (Flt.signBit n)) ∧ w' = w := by
  cases n
  all_goals
    go_enter Try.func46, Try.ntmps46
    go_wp2
    go_ret
    exact ⟨ret_int rfl, rfl⟩

theorem canon_any (a : Int) (h0 : 0 ≤ a) (h1 : a < 4294967296) (w : World) :
    Calls Try.prog 17 #[.int .u32 a] w fun e w' => e = .returned (.int .u32 (Flt.canon a)) ∧ w' = w := by
  cases hn : Flt.isNaN a
  all_goals
    go_enter Try.func17, Try.ntmps17
    go_wp2_with (go_at_call 20; refine (nan_any _ h0 h1 _).mono ?_; rintro e w' ⟨rfl, rfl⟩)
    go_ret
    exact ⟨ret_int (by simp [Flt.canon, hn]), rfl⟩

theorem place_any (a : Int) (h0 : 0 ≤ a) (h1 : a < 4294967296) (w : World) :
    Calls Try.prog 53 #[.int .u32 a] w fun e w' => e = .returned (.int .i64 (Flt.place a)) ∧ w' = w := by
  by_cases hs : 2147483648 ≤ a
  · have hn : Flt.sgn a = true := by simp [Flt.sgn, hs]
    have hb : 0 ≤ Flt.absF a ∧ Flt.absF a < 2147483648 := by unfold Flt.absF; omega
    obtain ⟨hb0, hb1⟩ := hb
    go_enter Try.func53, Try.ntmps53
    go_wp2_with (first | (go_at_call 44; refine (below_any _ h0 h1 _).mono ?_; rintro e w' ⟨rfl, rfl⟩) | (go_at_call 48; refine (abs_any _ h0 h1 _).mono ?_; rintro e w' ⟨rfl, rfl⟩))
    go_ret
    exact ⟨ret_int (by simp [Flt.place, hs, Flt.absF]), rfl⟩
  · have hn : Flt.sgn a = false := by simp [Flt.sgn]; omega
    go_enter Try.func53, Try.ntmps53
    go_wp2_with (first | (go_at_call 44; refine (below_any _ h0 h1 _).mono ?_; rintro e w' ⟨rfl, rfl⟩) | (go_at_call 48; refine (abs_any _ h0 h1 _).mono ?_; rintro e w' ⟨rfl, rfl⟩))
    go_ret
    exact ⟨ret_int (by unfold Flt.place; rw [if_neg (by omega)]), rfl⟩

theorem place_lo (a : Int) (h0 : 0 ≤ a) (h1 : a < 4294967296) : -2147483648 < Flt.place a ∧ Flt.place a < 2147483648 := by
  unfold Flt.place; split <;> omega

theorem less_any (a b : Int) (h0 : 0 ≤ a) (h1 : a < 4294967296) (g0 : 0 ≤ b) (g1 : b < 4294967296) (w : World) :
    Calls Try.prog 22 #[.int .u32 a, .int .u32 b] w fun e w' => e = .returned (.bool (Flt.lessF a b)) ∧ w' = w := by
  cases hn : Flt.isNaN a <;> cases hm : Flt.isNaN b
  all_goals
    go_enter Try.func22, Try.ntmps22
    go_wp2_with (first | (go_at_call 20; refine (nan_any _ (by assumption) (by assumption) _).mono ?_; rintro e w' ⟨rfl, rfl⟩) | (go_at_call 53; refine (place_any _ (by assumption) (by assumption) _).mono ?_; rintro e w' ⟨rfl, rfl⟩))
    go_ret
    exact ⟨ret_bool (by simp [Flt.lessF, hn, hm]), rfl⟩

theorem equal_any (a b : Int) (h0 : 0 ≤ a) (h1 : a < 4294967296) (g0 : 0 ≤ b) (g1 : b < 4294967296) (w : World) :
    Calls Try.prog 23 #[.int .u32 a, .int .u32 b] w fun e w' => e = .returned (.bool (Flt.equalF a b)) ∧ w' = w := by
  cases hn : Flt.isNaN a <;> cases hm : Flt.isNaN b
  all_goals
    go_enter Try.func23, Try.ntmps23
    go_wp2_with (first | (go_at_call 20; refine (nan_any _ (by assumption) (by assumption) _).mono ?_; rintro e w' ⟨rfl, rfl⟩) | (go_at_call 53; refine (place_any _ (by assumption) (by assumption) _).mono ?_; rintro e w' ⟨rfl, rfl⟩))
    go_ret
    exact ⟨ret_bool (by simp [Flt.equalF, hn, hm]), rfl⟩

end Go.Proofs.Ytkbniebahledmaa
