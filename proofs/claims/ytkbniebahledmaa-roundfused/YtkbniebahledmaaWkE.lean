/-
  Walks of package soft's AddBy, MulBy, DivBy and their nearest fellows.
-/
import Derived.Test.YtkbniebahledmaaWkD
namespace Go.Proofs.Ytkbniebahledmaa
open Go.RowKit
set_option linter.unusedVariables false

theorem sum_any (way a b : Int) (w : World) :
    Calls Try.prog 42 #[.int .i64 way, .agg #[.bool (Flt.sgn a), .int .i64 (Flt.expo a), .int .u64 (Flt.sig a)], .agg #[.bool (Flt.sgn b), .int .i64 (Flt.expo b), .int .u64 (Flt.sig b)]] w
      fun e w' => e = .returned (.int .u32 (Flt.sumM way (Flt.sgn a) (Flt.expo a) (Flt.sig a) (Flt.sgn b) (Flt.expo b) (Flt.sig b))) ∧ Below w.heap.size w w' := by
  obtain ⟨s0, s1⟩ := Flt.sig_range a
  obtain ⟨t0, t1⟩ := Flt.sig_range b
  obtain ⟨e0, e1⟩ := Flt.expo_range a
  obtain ⟨f0, f1⟩ := Flt.expo_range b
  unfold Flt.sumM
  by_cases ho : Flt.expo a < Flt.expo b
  · rw [if_pos ho]
    by_cases hg : Flt.expo b - Flt.expo a ≤ 39
    · exact sum_near_sw way _ _ _ _ _ _ t0 t1 s0 s1 f0 f1 e0 e1 ho hg w
    · exact sum_far_sw way _ _ _ _ _ _ t0 t1 s0 s1 f0 f1 e0 e1 (by omega) (Flt.sig_big b (by omega)) w
  · rw [if_neg ho]
    by_cases hg : Flt.expo a - Flt.expo b ≤ 39
    · exact sum_near way _ _ _ _ _ _ s0 s1 t0 t1 e0 e1 f0 f1 (by omega) hg w
    · exact sum_far way _ _ _ _ _ _ s0 s1 t0 t1 e0 e1 f0 f1 (by omega) (Flt.sig_big a (by omega)) w

set_option maxRecDepth 100000 in
set_option maxHeartbeats 1000000 in
theorem addBy_any (way a b : Int) (h0 : 0 ≤ a) (h1 : a < 4294967296) (g0 : 0 ≤ b) (g1 : b < 4294967296) (w : World) :
    Calls Try.prog 14 #[.int .i64 way, .int .u32 a, .int .u32 b] w fun e w' => e = .returned (.int .u32 (Flt.addBy way a b)) ∧ Below w.heap.size w w' := by
  cases hn : Flt.isNaN a <;> cases hm : Flt.isNaN b <;> cases hi : Flt.isInf a <;> cases hj : Flt.isInf b
  case false.false.false.false =>
    go_enter Try.func14, Try.ntmps14
    go_wp2_with (first | (go_at_call 20; refine (nan_any _ (by assumption) (by assumption) _).mono ?_; rintro e w' ⟨rfl, rfl⟩) | (go_at_call 21; refine (inf_any _ (by assumption) (by assumption) _).mono ?_; rintro e w' ⟨rfl, rfl⟩) | (go_at_call 44; refine (below_any _ (by assumption) (by assumption) _).mono ?_; rintro e w' ⟨rfl, rfl⟩) | (go_at_call 45; refine (kind_any _ (by assumption) (by assumption) _).mono ?_; rintro e w' ⟨rfl, rfl⟩) | (go_at_call 46; refine (signBit_any _ _).mono ?_; rintro e w' ⟨rfl, rfl⟩))
    refine (split_any a h0 h1 _).mono ?_
    rintro e w1 ⟨rfl, hb1⟩
    go_wp2_with fail
    refine (split_any b g0 g1 _).mono ?_
    rintro e w2 ⟨rfl, hb2⟩
    go_wp2_with fail
    refine (sum_any way a b _).mono ?_
    rintro e w3 ⟨rfl, hb3⟩
    go_wp2_with fail
    go_ret
    exact ⟨ret_int (by simp [Flt.addBy, hn, hm, hi, hj]), (hb1.trans (hb2.mono hb1.size)).trans (hb3.mono (Nat.le_trans hb1.size hb2.size))⟩
  all_goals
    go_enter Try.func14, Try.ntmps14
    go_wp2_with (first | (go_at_call 20; refine (nan_any _ (by assumption) (by assumption) _).mono ?_; rintro e w' ⟨rfl, rfl⟩) | (go_at_call 21; refine (inf_any _ (by assumption) (by assumption) _).mono ?_; rintro e w' ⟨rfl, rfl⟩) | (go_at_call 44; refine (below_any _ (by assumption) (by assumption) _).mono ?_; rintro e w' ⟨rfl, rfl⟩) | (go_at_call 45; refine (kind_any _ (by assumption) (by assumption) _).mono ?_; rintro e w' ⟨rfl, rfl⟩) | (go_at_call 46; refine (signBit_any _ _).mono ?_; rintro e w' ⟨rfl, rfl⟩))
  all_goals go_ret
  all_goals refine ⟨ret_int ?_, Below.refl _ _⟩
  all_goals simp_all [Flt.addBy]

theorem kind_of (a : Int) : (Flt.kind a = 3 ↔ Flt.isNaN a = true) ∧ (Flt.kind a = 2 ↔ Flt.isInf a = true) ∧ (Flt.kind a = 0 ↔ a % 2147483648 = 0) := by
  unfold Flt.kind Flt.isNaN Flt.isInf
  simp only [decide_eq_true_eq]
  (repeat' split) <;> omega

theorem sig_pos (a : Int) (h : Flt.kind a = 1) : 1 ≤ Flt.sig a := by
  unfold Flt.kind at h; unfold Flt.sig
  split at h; · omega
  split at h; · omega
  split at h; · omega
  split <;> omega
theorem kind_cases (a : Int) : Flt.kind a = 0 ∨ Flt.kind a = 1 ∨ Flt.kind a = 2 ∨ Flt.kind a = 3 := by
  unfold Flt.kind; (repeat' split) <;> omega

theorem bcell {W w1 : World} (hb : Below W.heap.size W w1) : (∀ b o, b < W.heap.size → w1.cell? ⟨b, o, none⟩ = W.cell? ⟨b, o, none⟩) ∧ (∀ b o, b < W.heap.size → w1.frozen? ⟨b, o, none⟩ = W.frozen? ⟨b, o, none⟩) :=
  ⟨fun b o h => hb.cell (p := ⟨b, o, none⟩) h, fun b o h => hb.frozen (p := ⟨b, o, none⟩) h⟩

set_option maxRecDepth 100000 in
set_option maxHeartbeats 1000000 in
theorem mulBy_fin (way a b : Int) (h0 : 0 ≤ a) (h1 : a < 4294967296) (g0 : 0 ≤ b) (g1 : b < 4294967296) (ka : Flt.kind a = 0 ∨ Flt.kind a = 1) (kb : Flt.kind b = 0 ∨ Flt.kind b = 1) (w : World) :
    Calls Try.prog 15 #[.int .i64 way, .int .u32 a, .int .u32 b] w fun e w' => e = .returned (.int .u32 (Flt.rnd way (Flt.sgn a != Flt.sgn b) (Flt.expo a + Flt.expo b) (Flt.sig a * Flt.sig b) false)) ∧ Below w.heap.size w w' := by
  obtain ⟨s0, s1⟩ := Flt.sig_range a
  obtain ⟨t0, t1⟩ := Flt.sig_range b
  obtain ⟨e0, e1⟩ := Flt.expo_range a
  obtain ⟨f0, f1⟩ := Flt.expo_range b
  have p0 : 0 ≤ Flt.sig a * Flt.sig b := Int.mul_nonneg s0 t0
  have p1 : Flt.sig a * Flt.sig b ≤ 16777216 * 16777216 := Int.mul_le_mul (by omega) (by omega) t0 (by omega)
  rcases ka with ka | ka <;> rcases kb with kb | kb
  all_goals
    go_enter Try.func15, Try.ntmps15
    go_wp2_with (first | (go_at_call 20; refine (nan_any _ (by assumption) (by assumption) _).mono ?_; rintro e w' ⟨rfl, rfl⟩) | (go_at_call 21; refine (inf_any _ (by assumption) (by assumption) _).mono ?_; rintro e w' ⟨rfl, rfl⟩) | (go_at_call 44; refine (below_any _ (by assumption) (by assumption) _).mono ?_; rintro e w' ⟨rfl, rfl⟩) | (go_at_call 45; refine (kind_any _ (by assumption) (by assumption) _).mono ?_; rintro e w' ⟨rfl, rfl⟩) | (go_at_call 46; refine (signBit_any _ _).mono ?_; rintro e w' ⟨rfl, rfl⟩))
    refine (split_any a h0 h1 _).mono ?_
    rintro e w1 ⟨rfl, hb1⟩
    go_wp2_with fail
    refine (split_any b g0 g1 _).mono ?_
    rintro e w2 ⟨rfl, hb2⟩
    go_wp2_with fail
    refine (round_any _ _ _ _ _ p0 (by omega) _).mono ?_
    rintro e w3 ⟨rfl, rfl⟩
    go_wp2_with fail
    go_ret
    exact ⟨ret_int rfl, ((((hb1.trans (hb2.mono hb1.size)).alloc (Nat.le_trans hb1.size hb2.size) _).alloc (by simp; exact Nat.le_succ_of_le (Nat.le_trans hb1.size hb2.size)) _))⟩

set_option maxRecDepth 100000 in
set_option maxHeartbeats 1000000 in
theorem mulBy_any (way a b : Int) (h0 : 0 ≤ a) (h1 : a < 4294967296) (g0 : 0 ≤ b) (g1 : b < 4294967296) (w : World) :
    Calls Try.prog 15 #[.int .i64 way, .int .u32 a, .int .u32 b] w fun e w' => e = .returned (.int .u32 (Flt.mulBy way a b)) ∧ Below w.heap.size w w' := by
  obtain ⟨a3, a2, a0⟩ := kind_of a
  obtain ⟨b3, b2, b0⟩ := kind_of b
  unfold Flt.mulBy
  simp only [← a3, ← b3, ← a2, ← b2, ← a0, ← b0]
  clear a3 a2 a0 b3 b2 b0
  by_cases hfin : (Flt.kind a = 0 ∨ Flt.kind a = 1) ∧ (Flt.kind b = 0 ∨ Flt.kind b = 1)
  · rw [if_neg (by omega), if_neg (by omega), if_neg (by omega)]
    exact mulBy_fin way a b h0 h1 g0 g1 hfin.1 hfin.2 w
  · rcases kind_cases a with ka | ka | ka | ka <;> rcases kind_cases b with kb | kb | kb | kb <;> rw [ka, kb] at hfin <;> first | (exfalso; omega) | skip
    all_goals clear hfin
    all_goals rw [ka, kb]
    all_goals simp only [Int.reduceEq, or_true, or_false, and_true, and_false, if_true, if_false, or_self, and_self]
    all_goals
      go_enter Try.func15, Try.ntmps15
      go_wp2_with (first | (go_at_call 20; refine (nan_any _ (by assumption) (by assumption) _).mono ?_; rintro e w' ⟨rfl, rfl⟩) | (go_at_call 21; refine (inf_any _ (by assumption) (by assumption) _).mono ?_; rintro e w' ⟨rfl, rfl⟩) | (go_at_call 44; refine (below_any _ (by assumption) (by assumption) _).mono ?_; rintro e w' ⟨rfl, rfl⟩) | (go_at_call 45; refine (kind_any _ (by assumption) (by assumption) _).mono ?_; rintro e w' ⟨rfl, rfl⟩) | (go_at_call 46; refine (signBit_any _ _).mono ?_; rintro e w' ⟨rfl, rfl⟩))
    all_goals go_ret
    all_goals refine ⟨ret_int ?_, Below.refl _ _⟩
    all_goals first | rfl | (exact sign_or _ _ (by omega) (by omega))

theorem mul_any (a b : Int) (h0 : 0 ≤ a) (h1 : a < 4294967296) (g0 : 0 ≤ b) (g1 : b < 4294967296) (w : World) :
    Calls Try.prog 25 #[.int .u32 a, .int .u32 b] w fun e w' => e = .returned (.int .u32 (Flt.mulBy 0 a b)) ∧ Below w.heap.size w w' := by
  go_enter Try.func25, Try.ntmps25
  go_wp2_with fail
  refine (mulBy_any 0 a b h0 h1 g0 g1 _).mono ?_
  rintro e w1 ⟨rfl, hb1⟩
  go_wp2_with fail
  go_ret
  exact ⟨ret_int rfl, hb1⟩

theorem negF_range (a : Int) : 0 ≤ Flt.negF a ∧ Flt.negF a < 4294967296 := by unfold Flt.negF; omega

end Go.Proofs.Ytkbniebahledmaa
