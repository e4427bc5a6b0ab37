/-
  Walks of package soft's Min and Max, and of the document's answers to looks and comparisons.
-/
import Derived.Test.YtfgdgnbkjoafmaaWkF
namespace Go.Proofs.Ytfgdgnbkjoafmaa
open Go.RowKit
set_option linter.unusedVariables false

theorem rabs_any (a : Int) (h0 : 0 ≤ a) (h1 : a < 4294967296) (w : World) :
    Calls Try.prog 31 #[.int .u32 a] w fun e w' => e = .returned (.int .u32 (Flt.absF a)) ∧ w' = w := by
  go_enter Try.func31, Try.ntmps31
  go_wp2
  go_ret
  exact ⟨ret_int rfl, rfl⟩

theorem risNone_any (a : Int) (h0 : 0 ≤ a) (h1 : a < 4294967296) (w : World) :
    Calls Try.prog 29 #[.int .u32 a] w fun e w' => e = .returned (.bool (Flt.isNaN a)) ∧ w' = w := by
  go_enter Try.func29, Try.ntmps29
  go_wp2_with (go_at_call 31; refine (rabs_any _ h0 h1 _).mono ?_; rintro e w' ⟨rfl, rfl⟩)
  go_ret
  exact ⟨ret_bool rfl, rfl⟩

theorem rbelow_any (a : Int) (h0 : 0 ≤ a) (h1 : a < 4294967296) (w : World) :
    Calls Try.prog 53 #[.int .u32 a] w fun e w' => e = .returned (.bool (Flt.sgn a)) ∧ w' = w := by
  go_enter Try.func53, Try.ntmps53
  go_wp2
  go_ret
  exact ⟨ret_bool rfl, rfl⟩

theorem rcanon_any (a : Int) (h0 : 0 ≤ a) (h1 : a < 4294967296) (w : World) :
    Calls Try.prog 27 #[.int .u32 a] w fun e w' => e = .returned (.int .u32 (Flt.canon a)) ∧ w' = w := by
  cases hn : Flt.isNaN a
  all_goals
    go_enter Try.func27, Try.ntmps27
    go_wp2_with (go_at_call 29; refine (risNone_any _ h0 h1 _).mono ?_; rintro e w' ⟨rfl, rfl⟩)
    go_ret
    exact ⟨ret_int (by simp [Flt.canon, hn]), rfl⟩

theorem rneg_any (a : Int) (h0 : 0 ≤ a) (h1 : a < 4294967296) (w : World) :
    Calls Try.prog 33 #[.int .u32 a] w fun e w' => e = .returned (.int .u32 (Flt.negF a)) ∧ w' = w := by
  go_enter Try.func33, Try.ntmps33
  go_wp2
  all_goals go_ret
  all_goals exact ⟨ret_int (by unfold Flt.negF; omega), rfl⟩

/-- The document's comparison. -/
def cmpF (a b : Int) : Int := if Flt.place a < Flt.place b then -1 else if Flt.place b < Flt.place a then 1 else 0

def cmpR (a b : Int) : Int := if Flt.isNaN a = true ∨ Flt.isNaN b = true then 0 else cmpF a b
theorem lessF_iff (a b : Int) (hn : Flt.isNaN a = false) (hm : Flt.isNaN b = false) : Flt.lessF a b = decide (Flt.place a < Flt.place b) := by simp [Flt.lessF, hn, hm]
theorem place_one (a b : Int) (h0 : 0 ≤ a) (h1 : a < 4294967296) (g0 : 0 ≤ b) (g1 : b < 4294967296) (h : Flt.place a = Flt.place b) : a = b ∨ (a = 0 ∧ b = 2147483648) ∨ (a = 2147483648 ∧ b = 0) := by
  unfold Flt.place at h
  split at h <;> split at h <;> omega
theorem or_same (a : Int) (h0 : 0 ≤ a) (h1 : a < 4294967296) : bits .or .u32 a a = a := by
  go_bits2
  rw [Nat.or_self]; omega
theorem and_same (a : Int) (h0 : 0 ≤ a) (h1 : a < 4294967296) : bits .and .u32 a a = a := by
  go_bits2
  rw [Nat.and_self]; omega
theorem min_or (a b : Int) (h0 : 0 ≤ a) (h1 : a < 4294967296) (g0 : 0 ≤ b) (g1 : b < 4294967296) (h : Flt.place a = Flt.place b) : bits .or .u32 a b = if 2147483648 ≤ a then a else b := by
  rcases place_one a b h0 h1 g0 g1 h with rfl | ⟨rfl, rfl⟩ | ⟨rfl, rfl⟩
  · rw [or_same a h0 h1]; split <;> rfl
  · decide +kernel
  · decide +kernel
theorem max_and (a b : Int) (h0 : 0 ≤ a) (h1 : a < 4294967296) (g0 : 0 ≤ b) (g1 : b < 4294967296) (h : Flt.place a = Flt.place b) : bits .and .u32 a b = if 2147483648 ≤ a then b else a := by
  rcases place_one a b h0 h1 g0 g1 h with rfl | ⟨rfl, rfl⟩ | ⟨rfl, rfl⟩
  · rw [and_same a h0 h1]; split <;> rfl
  · decide +kernel
  · decide +kernel
theorem ret_tup {a a' : Int} {b b' : Bool} (h : a = a') (g : b = b') : Ending.returned (.tuple #[.int .i64 a, .bool b]) = .returned (.tuple #[.int .i64 a', .bool b']) := by rw [h, g]

theorem place_eq (a : Int) (h0 : 0 ≤ a) : Flt.place a = if Flt.sgn a = true then -(Flt.absF a) else Flt.absF a := by
  unfold Flt.place Flt.sgn Flt.absF
  by_cases h : 2147483648 ≤ a
  · simp [h]
  · rw [if_neg h, if_neg (by simp; omega)]; omega

set_option maxRecDepth 100000 in
set_option maxHeartbeats 1000000 in
theorem rcompared_any (a b : Int) (h0 : 0 ≤ a) (h1 : a < 4294967296) (g0 : 0 ≤ b) (g1 : b < 4294967296) (w : World) :
    Calls Try.prog 35 #[.int .u32 a, .int .u32 b] w fun e w' => e = .returned (.tuple #[.int .i64 (cmpR a b), .bool (!Flt.isNaN a && !Flt.isNaN b)]) ∧ w' = w := by
  have ra : 0 ≤ Flt.absF a ∧ Flt.absF a < 2147483648 := by unfold Flt.absF; omega
  have rb : 0 ≤ Flt.absF b ∧ Flt.absF b < 2147483648 := by unfold Flt.absF; omega
  obtain ⟨ra0, ra1⟩ := ra
  obtain ⟨rb0, rb1⟩ := rb
  have pa := hide (place_eq a h0)
  have pb := hide (place_eq b g0)
  cases hn : Flt.isNaN a <;> cases hm : Flt.isNaN b <;> cases hs : Flt.sgn a <;> cases ht : Flt.sgn b
  all_goals
    go_enter Try.func35, Try.ntmps35
    go_wp2_with (first | (go_at_call 29; refine (risNone_any _ (by assumption) (by assumption) _).mono ?_; rintro e w' ⟨rfl, rfl⟩) | (go_at_call 31; refine (rabs_any _ (by assumption) (by assumption) _).mono ?_; rintro e w' ⟨rfl, rfl⟩) | (go_at_call 53; refine (rbelow_any _ (by assumption) (by assumption) _).mono ?_; rintro e w' ⟨rfl, rfl⟩))
  all_goals go_ret2
  all_goals refine ⟨ret_tup ?_ rfl, rfl⟩
  all_goals simp only [cmpR, cmpF, hn, hm, unhide pa, unhide pb, hs, ht]
  all_goals simp
  all_goals (repeat' split) <;> omega

set_option maxRecDepth 100000 in
set_option maxHeartbeats 1000000 in
theorem min_any (a b : Int) (h0 : 0 ≤ a) (h1 : a < 4294967296) (g0 : 0 ≤ b) (g1 : b < 4294967296) (w : World) :
    Calls Try.prog 38 #[.int .u32 a, .int .u32 b] w fun e w' => e = .returned (.int .u32 (Flt.minF a b)) ∧ w' = w := by
  cases hn : Flt.isNaN a <;> cases hm : Flt.isNaN b <;> cases hl : Flt.lessF a b <;> cases hk : Flt.lessF b a
  all_goals
    go_enter Try.func38, Try.ntmps38
    go_wp2_with (first | (go_at_call 28; refine (nan_any _ (by assumption) (by assumption) _).mono ?_; rintro e w' ⟨rfl, rfl⟩) | (go_at_call 36; refine (less_any _ _ (by assumption) (by assumption) (by assumption) (by assumption) _).mono ?_; rintro e w' ⟨rfl, rfl⟩))
  all_goals go_ret
  all_goals refine ⟨ret_int ?_, rfl⟩
  all_goals unfold Flt.minF
  all_goals simp only [hn, hm]
  all_goals try rw [lessF_iff _ _ hn hm] at hl
  all_goals try rw [lessF_iff _ _ hm hn] at hk
  all_goals try simp only [decide_eq_true_eq, decide_eq_false_iff_not] at hl hk
  all_goals simp only [Bool.false_eq_true, or_self, or_true, or_false, if_true, if_false]
  all_goals first | done | (rw [min_or a b h0 h1 g0 g1 (Int.le_antisymm (Int.not_lt.1 hk) (Int.not_lt.1 hl)), if_neg hl, if_neg hk]) | (rw [if_pos hl]) | (rw [if_neg hl, if_pos hk])

set_option maxRecDepth 100000 in
set_option maxHeartbeats 1000000 in
theorem rmin_any (a b : Int) (h0 : 0 ≤ a) (h1 : a < 4294967296) (g0 : 0 ≤ b) (g1 : b < 4294967296) (w : World) :
    Calls Try.prog 39 #[.int .u32 a, .int .u32 b] w fun e w' => e = .returned (.int .u32 (Flt.minF a b)) ∧ w' = w := by
  cases hn : Flt.isNaN a <;> cases hm : Flt.isNaN b <;> cases hs : Flt.sgn a
  all_goals
    go_enter Try.func39, Try.ntmps39
    go_wp2_with (first | (go_at_call 35; refine (rcompared_any _ _ h0 h1 g0 g1 _).mono ?_; rintro e w' ⟨rfl, rfl⟩) | (go_at_call 53; refine (rbelow_any _ (by assumption) (by assumption) _).mono ?_; rintro e w' ⟨rfl, rfl⟩))
  all_goals go_ret
  all_goals refine ⟨ret_int ?_, rfl⟩
  all_goals unfold Flt.minF
  all_goals simp only [Flt.sgn, decide_eq_true_eq, decide_eq_false_iff_not] at hs
  all_goals simp only [cmpR, cmpF, hn, hm] at *
  all_goals simp only [Bool.false_eq_true, or_self, or_true, or_false, if_true, if_false] at *
  all_goals ((repeat' split at *) <;> omega)

set_option maxRecDepth 100000 in
set_option maxHeartbeats 1000000 in
theorem max_any (a b : Int) (h0 : 0 ≤ a) (h1 : a < 4294967296) (g0 : 0 ≤ b) (g1 : b < 4294967296) (w : World) :
    Calls Try.prog 40 #[.int .u32 a, .int .u32 b] w fun e w' => e = .returned (.int .u32 (Flt.maxF a b)) ∧ w' = w := by
  cases hn : Flt.isNaN a <;> cases hm : Flt.isNaN b <;> cases hl : Flt.lessF a b <;> cases hk : Flt.lessF b a
  all_goals
    go_enter Try.func40, Try.ntmps40
    go_wp2_with (first | (go_at_call 28; refine (nan_any _ (by assumption) (by assumption) _).mono ?_; rintro e w' ⟨rfl, rfl⟩) | (go_at_call 36; refine (less_any _ _ (by assumption) (by assumption) (by assumption) (by assumption) _).mono ?_; rintro e w' ⟨rfl, rfl⟩))
  all_goals go_ret
  all_goals refine ⟨ret_int ?_, rfl⟩
  all_goals unfold Flt.maxF
  all_goals simp only [hn, hm]
  all_goals try rw [lessF_iff _ _ hn hm] at hl
  all_goals try rw [lessF_iff _ _ hm hn] at hk
  all_goals try simp only [decide_eq_true_eq, decide_eq_false_iff_not] at hl hk
  all_goals simp only [Bool.false_eq_true, or_self, or_true, or_false, if_true, if_false]
  all_goals first | done | (rw [max_and a b h0 h1 g0 g1 (Int.le_antisymm (Int.not_lt.1 hk) (Int.not_lt.1 hl)), if_neg hl, if_neg hk]) | (rw [if_pos hl]) | (rw [if_neg hl, if_pos hk])

set_option maxRecDepth 100000 in
set_option maxHeartbeats 1000000 in
theorem rmax_any (a b : Int) (h0 : 0 ≤ a) (h1 : a < 4294967296) (g0 : 0 ≤ b) (g1 : b < 4294967296) (w : World) :
    Calls Try.prog 41 #[.int .u32 a, .int .u32 b] w fun e w' => e = .returned (.int .u32 (Flt.maxF a b)) ∧ w' = w := by
  cases hn : Flt.isNaN a <;> cases hm : Flt.isNaN b <;> cases hs : Flt.sgn a
  all_goals
    go_enter Try.func41, Try.ntmps41
    go_wp2_with (first | (go_at_call 35; refine (rcompared_any _ _ h0 h1 g0 g1 _).mono ?_; rintro e w' ⟨rfl, rfl⟩) | (go_at_call 53; refine (rbelow_any _ (by assumption) (by assumption) _).mono ?_; rintro e w' ⟨rfl, rfl⟩))
  all_goals go_ret
  all_goals refine ⟨ret_int ?_, rfl⟩
  all_goals unfold Flt.maxF
  all_goals simp only [Flt.sgn, decide_eq_true_eq, decide_eq_false_iff_not] at hs
  all_goals simp only [cmpR, cmpF, hn, hm] at *
  all_goals simp only [Bool.false_eq_true, or_self, or_true, or_false, if_true, if_false] at *
  all_goals ((repeat' split at *) <;> omega)
end Go.Proofs.Ytfgdgnbkjoafmaa
