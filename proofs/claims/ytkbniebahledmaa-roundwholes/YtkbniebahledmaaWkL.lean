/-
  Walks of package soft's Min and Max, and of the document's answers to looks and comparisons.
-/
import Derived.Test.YtkbniebahledmaaWkF
namespace Go.Proofs.Ytkbniebahledmaa
open Go.RowKit
set_option linter.unusedVariables false

theorem rabs_any (a : Int) (h0 : 0 ≤ a) (h1 : a < 4294967296) (w : World) :
    Calls Try.prog 30 #[.int .u32 a] w fun e w' => e = .returned (.int .u32 (Flt.absF a)) ∧ w' = w := by
  go_enter Try.func30, Try.ntmps30
  go_wp2
  go_ret
  exact ⟨ret_int rfl, rfl⟩

theorem risNone_any (a : Int) (h0 : 0 ≤ a) (h1 : a < 4294967296) (w : World) :
    Calls Try.prog 29 #[.int .u32 a] w fun e w' => e = .returned (.bool (Flt.isNaN a)) ∧ w' = w := by
  go_enter Try.func29, Try.ntmps29
  go_wp2_with (go_at_call 30; refine (rabs_any _ h0 h1 _).mono ?_; rintro e w' ⟨rfl, rfl⟩)
  go_ret
  exact ⟨ret_bool rfl, rfl⟩

theorem rbelow_any (a : Int) (h0 : 0 ≤ a) (h1 : a < 4294967296) (w : World) :
    Calls Try.prog 31 #[.int .u32 a] w fun e w' => e = .returned (.bool (Flt.sgn a)) ∧ w' = w := by
  go_enter Try.func31, Try.ntmps31
  go_wp2
  go_ret
  exact ⟨ret_bool rfl, rfl⟩

/-- The document's comparison. -/
def cmpF (a b : Int) : Int := if Flt.place a < Flt.place b then -1 else if Flt.place b < Flt.place a then 1 else 0

def cmpR (a b : Int) : Int := if Flt.isNaN a = true ∨ Flt.isNaN b = true then 0 else cmpF a b
theorem lessF_iff (a b : Int) (hn : Flt.isNaN a = false) (hm : Flt.isNaN b = false) : Flt.lessF a b = decide (Flt.place a < Flt.place b) := by simp [Flt.lessF, hn, hm]
theorem place_one (a b : Int) (h0 : 0 ≤ a) (h1 : a < 4294967296) (g0 : 0 ≤ b) (g1 : b < 4294967296) (h : Flt.place a = Flt.place b) : a = b ∨ (a = 0 ∧ b = 2147483648) ∨ (a = 2147483648 ∧ b = 0) := by
  unfold Flt.place at h
  split at h <;> split at h <;> omega
theorem or_same (a : Int) (h0 : 0 ≤ a) (h1 : a < 4294967296) : bits .or .u32 a a = a := by
  go_bits2
  rw [Nat.or_self]; omega
theorem and_same (a : Int) (h0 : 0 ≤ a) (h1 : a < 4294967296) : bits .and .u32 a a = a := by
  go_bits2
  rw [Nat.and_self]; omega
theorem min_or (a b : Int) (h0 : 0 ≤ a) (h1 : a < 4294967296) (g0 : 0 ≤ b) (g1 : b < 4294967296) (h : Flt.place a = Flt.place b) : bits .or .u32 a b = if 2147483648 ≤ a then a else b := by
  rcases place_one a b h0 h1 g0 g1 h with rfl | ⟨rfl, rfl⟩ | ⟨rfl, rfl⟩
  · rw [or_same a h0 h1]; split <;> rfl
  · decide +kernel
  · decide +kernel
theorem max_and (a b : Int) (h0 : 0 ≤ a) (h1 : a < 4294967296) (g0 : 0 ≤ b) (g1 : b < 4294967296) (h : Flt.place a = Flt.place b) : bits .and .u32 a b = if 2147483648 ≤ a then b else a := by
  rcases place_one a b h0 h1 g0 g1 h with rfl | ⟨rfl, rfl⟩ | ⟨rfl, rfl⟩
  · rw [and_same a h0 h1]; split <;> rfl
  · decide +kernel
  · decide +kernel
theorem ret_tup {a a' : Int} {b b' : Bool} (h : a = a') (g : b = b') : Ending.returned (.tuple #[.int .i64 a, .bool b]) = .returned (.tuple #[.int .i64 a', .bool b']) := by rw [h, g]

theorem place_eq (a : Int) (h0 : 0 ≤ a) : Flt.place a = if Flt.sgn a = true then -(Flt.absF a) else Flt.absF a := by
  unfold Flt.place Flt.sgn Flt.absF
  by_cases h : 2147483648 ≤ a
  · simp [h]
  · rw [if_neg h, if_neg (by simp; omega)]; omega

end Go.Proofs.Ytkbniebahledmaa
