/-
  Walks of package soft's AddBy, MulBy, DivBy and their nearest fellows.
-/
import Derived.Test.YtfgdgnbkjoafmaaWkD
namespace Go.Proofs.Ytfgdgnbkjoafmaa
open Go.RowKit
set_option linter.unusedVariables false

theorem sum_any (way a b : Int) (w : World) :
    Calls Try.prog 50 #[.int .i64 way, .agg #[.bool (Flt.sgn a), .int .i64 (Flt.expo a), .int .u64 (Flt.sig a)], .agg #[.bool (Flt.sgn b), .int .i64 (Flt.expo b), .int .u64 (Flt.sig b)]] w
      fun e w' => e = .returned (.int .u32 (Flt.sumM way (Flt.sgn a) (Flt.expo a) (Flt.sig a) (Flt.sgn b) (Flt.expo b) (Flt.sig b))) ∧ Below w.heap.size w w' := by
  obtain ⟨s0, s1⟩ := Flt.sig_range a
  obtain ⟨t0, t1⟩ := Flt.sig_range b
  obtain ⟨e0, e1⟩ := Flt.expo_range a
  obtain ⟨f0, f1⟩ := Flt.expo_range b
  unfold Flt.sumM
  by_cases ho : Flt.expo a < Flt.expo b
  · rw [if_pos ho]
    by_cases hg : Flt.expo b - Flt.expo a ≤ 39
    · exact sum_near_sw way _ _ _ _ _ _ t0 t1 s0 s1 f0 f1 e0 e1 ho hg w
    · exact sum_far_sw way _ _ _ _ _ _ t0 t1 s0 s1 f0 f1 e0 e1 (by omega) (Flt.sig_big b (by omega)) w
  · rw [if_neg ho]
    by_cases hg : Flt.expo a - Flt.expo b ≤ 39
    · exact sum_near way _ _ _ _ _ _ s0 s1 t0 t1 e0 e1 f0 f1 (by omega) hg w
    · exact sum_far way _ _ _ _ _ _ s0 s1 t0 t1 e0 e1 f0 f1 (by omega) (Flt.sig_big a (by omega)) w

set_option maxRecDepth 100000 in
set_option maxHeartbeats 1000000 in
theorem quotient_any (way : Int) (neg xn yn : Bool) (xe xs ye ys : Int) (hx0 : 1 ≤ xs) (hx1 : xs < 16777216) (hy0 : 1 ≤ ys) (hy1 : ys < 16777216)
    (ex0 : -149 ≤ xe) (ex1 : xe ≤ 105) (ey0 : -149 ≤ ye) (ey1 : ye ≤ 105) (w : World) :
    Calls Try.prog 60 #[.int .i64 way, .bool neg, .agg #[.bool xn, .int .i64 xe, .int .u64 xs], .agg #[.bool yn, .int .i64 ye, .int .u64 ys]] w
      fun e w' => e = .returned (.int .u32 (Flt.quoM way neg xe xs ye ys)) ∧ Below w.heap.size w w' := by
  obtain ⟨L0, L1, S0, S1⟩ := lz_range xs hx0 (by omega)
  have hlead : ∀ w, Calls Try.prog 43 #[.int .u64 xs] w fun e w' => e = .returned (.int .i64 (Flt.lz xs)) ∧ w' = w := fun w => lead_any xs (by omega) (by omega) w
  unfold Flt.quoM
  generalize hL : Flt.lz xs = L at *
  obtain ⟨S, hSe⟩ : ∃ S, S = xs * 2 ^ L.toNat := ⟨_, rfl⟩
  rw [← hSe] at S0 S1 ⊢
  have hS : IntKind.u64.wrap (xs * 2 ^ L.toNat) = S := by rw [← hSe]; exact wrap_u64_in _ (by omega) S1
  clear hSe hL
  have HL := hide hlead
  clear hlead
  have hq : 0 ≤ S / ys ∧ S / ys ≤ S := ⟨Int.ediv_nonneg (by omega) (by omega), Int.ediv_le_self _ (by omega)⟩
  obtain ⟨q0, q1⟩ := hq
  go_enter Try.func60, Try.ntmps60
  go_wp2_with (go_at_call 43; refine (unhide HL _).mono ?_; rintro e w' ⟨rfl, rfl⟩)
  go_quiet ((go_at_call 10; exact Calls.quiet_of_same (round_any _ _ _ _ _ (by omega) (by omega) _)))
  go_wp2_with fail
  go_ret
  refine ⟨ret_int ?_, bl_drewN (((Below.refl _ _).alloc (Nat.le_refl _) _).alloc (by simp) _) _⟩
  first | rfl | (congr 1; rw [Bool.eq_iff_iff]; simp)

set_option maxRecDepth 100000 in
set_option maxHeartbeats 1000000 in
theorem addBy_any (way a b : Int) (h0 : 0 ≤ a) (h1 : a < 4294967296) (g0 : 0 ≤ b) (g1 : b < 4294967296) (w : World) :
    Calls Try.prog 12 #[.int .i64 way, .int .u32 a, .int .u32 b] w fun e w' => e = .returned (.int .u32 (Flt.addBy way a b)) ∧ Below w.heap.size w w' := by
  cases hn : Flt.isNaN a <;> cases hm : Flt.isNaN b <;> cases hi : Flt.isInf a <;> cases hj : Flt.isInf b
  case false.false.false.false =>
    go_enter Try.func12, Try.ntmps12
    go_wp2_with (first | (go_at_call 28; refine (nan_any _ (by assumption) (by assumption) _).mono ?_; rintro e w' ⟨rfl, rfl⟩) | (go_at_call 30; refine (inf_any _ (by assumption) (by assumption) _).mono ?_; rintro e w' ⟨rfl, rfl⟩) | (go_at_call 56; refine (below_any _ (by assumption) (by assumption) _).mono ?_; rintro e w' ⟨rfl, rfl⟩) | (go_at_call 57; refine (kind_any _ (by assumption) (by assumption) _).mono ?_; rintro e w' ⟨rfl, rfl⟩) | (go_at_call 42; refine (signBit_any _ _).mono ?_; rintro e w' ⟨rfl, rfl⟩))
    refine (split_any a h0 h1 _).mono ?_
    rintro e w1 ⟨rfl, hb1⟩
    go_wp2_with fail
    refine (split_any b g0 g1 _).mono ?_
    rintro e w2 ⟨rfl, hb2⟩
    go_wp2_with fail
    refine (sum_any way a b _).mono ?_
    rintro e w3 ⟨rfl, hb3⟩
    go_wp2_with fail
    go_ret
    exact ⟨ret_int (by simp [Flt.addBy, hn, hm, hi, hj]), (hb1.trans (hb2.mono hb1.size)).trans (hb3.mono (Nat.le_trans hb1.size hb2.size))⟩
  all_goals
    go_enter Try.func12, Try.ntmps12
    go_wp2_with (first | (go_at_call 28; refine (nan_any _ (by assumption) (by assumption) _).mono ?_; rintro e w' ⟨rfl, rfl⟩) | (go_at_call 30; refine (inf_any _ (by assumption) (by assumption) _).mono ?_; rintro e w' ⟨rfl, rfl⟩) | (go_at_call 56; refine (below_any _ (by assumption) (by assumption) _).mono ?_; rintro e w' ⟨rfl, rfl⟩) | (go_at_call 57; refine (kind_any _ (by assumption) (by assumption) _).mono ?_; rintro e w' ⟨rfl, rfl⟩) | (go_at_call 42; refine (signBit_any _ _).mono ?_; rintro e w' ⟨rfl, rfl⟩))
  all_goals go_ret
  all_goals refine ⟨ret_int ?_, Below.refl _ _⟩
  all_goals simp_all [Flt.addBy]

theorem kind_of (a : Int) : (Flt.kind a = 3 ↔ Flt.isNaN a = true) ∧ (Flt.kind a = 2 ↔ Flt.isInf a = true) ∧ (Flt.kind a = 0 ↔ a % 2147483648 = 0) := by
  unfold Flt.kind Flt.isNaN Flt.isInf
  simp only [decide_eq_true_eq]
  (repeat' split) <;> omega

theorem sig_pos (a : Int) (h : Flt.kind a = 1) : 1 ≤ Flt.sig a := by
  unfold Flt.kind at h; unfold Flt.sig
  split at h; · omega
  split at h; · omega
  split at h; · omega
  split <;> omega
theorem kind_cases (a : Int) : Flt.kind a = 0 ∨ Flt.kind a = 1 ∨ Flt.kind a = 2 ∨ Flt.kind a = 3 := by
  unfold Flt.kind; (repeat' split) <;> omega

theorem bcell {W w1 : World} (hb : Below W.heap.size W w1) : (∀ b o, b < W.heap.size → w1.cell? ⟨b, o, none⟩ = W.cell? ⟨b, o, none⟩) ∧ (∀ b o, b < W.heap.size → w1.frozen? ⟨b, o, none⟩ = W.frozen? ⟨b, o, none⟩) :=
  ⟨fun b o h => hb.cell (p := ⟨b, o, none⟩) h, fun b o h => hb.frozen (p := ⟨b, o, none⟩) h⟩

set_option maxRecDepth 100000 in
set_option maxHeartbeats 1000000 in
theorem mulBy_fin (way a b : Int) (h0 : 0 ≤ a) (h1 : a < 4294967296) (g0 : 0 ≤ b) (g1 : b < 4294967296) (ka : Flt.kind a = 0 ∨ Flt.kind a = 1) (kb : Flt.kind b = 0 ∨ Flt.kind b = 1) (w : World) :
    Calls Try.prog 18 #[.int .i64 way, .int .u32 a, .int .u32 b] w fun e w' => e = .returned (.int .u32 (Flt.rnd way (Flt.sgn a != Flt.sgn b) (Flt.expo a + Flt.expo b) (Flt.sig a * Flt.sig b) false)) ∧ Below w.heap.size w w' := by
  obtain ⟨s0, s1⟩ := Flt.sig_range a
  obtain ⟨t0, t1⟩ := Flt.sig_range b
  obtain ⟨e0, e1⟩ := Flt.expo_range a
  obtain ⟨f0, f1⟩ := Flt.expo_range b
  have p0 : 0 ≤ Flt.sig a * Flt.sig b := Int.mul_nonneg s0 t0
  have p1 : Flt.sig a * Flt.sig b ≤ 16777216 * 16777216 := Int.mul_le_mul (by omega) (by omega) t0 (by omega)
  rcases ka with ka | ka <;> rcases kb with kb | kb
  all_goals
    go_enter Try.func18, Try.ntmps18
    go_wp2_with (first | (go_at_call 28; refine (nan_any _ (by assumption) (by assumption) _).mono ?_; rintro e w' ⟨rfl, rfl⟩) | (go_at_call 30; refine (inf_any _ (by assumption) (by assumption) _).mono ?_; rintro e w' ⟨rfl, rfl⟩) | (go_at_call 56; refine (below_any _ (by assumption) (by assumption) _).mono ?_; rintro e w' ⟨rfl, rfl⟩) | (go_at_call 57; refine (kind_any _ (by assumption) (by assumption) _).mono ?_; rintro e w' ⟨rfl, rfl⟩) | (go_at_call 42; refine (signBit_any _ _).mono ?_; rintro e w' ⟨rfl, rfl⟩))
    refine (split_any a h0 h1 _).mono ?_
    rintro e w1 ⟨rfl, hb1⟩
    go_wp2_with fail
    refine (split_any b g0 g1 _).mono ?_
    rintro e w2 ⟨rfl, hb2⟩
    go_wp2_with fail
    refine (round_any _ _ _ _ _ p0 (by omega) _).mono ?_
    rintro e w3 ⟨rfl, rfl⟩
    go_wp2_with fail
    go_ret
    exact ⟨ret_int rfl, ((((hb1.trans (hb2.mono hb1.size)).alloc (Nat.le_trans hb1.size hb2.size) _).alloc (by simp; exact Nat.le_succ_of_le (Nat.le_trans hb1.size hb2.size)) _))⟩

set_option maxRecDepth 100000 in
set_option maxHeartbeats 1000000 in
theorem mulBy_any (way a b : Int) (h0 : 0 ≤ a) (h1 : a < 4294967296) (g0 : 0 ≤ b) (g1 : b < 4294967296) (w : World) :
    Calls Try.prog 18 #[.int .i64 way, .int .u32 a, .int .u32 b] w fun e w' => e = .returned (.int .u32 (Flt.mulBy way a b)) ∧ Below w.heap.size w w' := by
  obtain ⟨a3, a2, a0⟩ := kind_of a
  obtain ⟨b3, b2, b0⟩ := kind_of b
  unfold Flt.mulBy
  simp only [← a3, ← b3, ← a2, ← b2, ← a0, ← b0]
  clear a3 a2 a0 b3 b2 b0
  by_cases hfin : (Flt.kind a = 0 ∨ Flt.kind a = 1) ∧ (Flt.kind b = 0 ∨ Flt.kind b = 1)
  · rw [if_neg (by omega), if_neg (by omega), if_neg (by omega)]
    exact mulBy_fin way a b h0 h1 g0 g1 hfin.1 hfin.2 w
  · rcases kind_cases a with ka | ka | ka | ka <;> rcases kind_cases b with kb | kb | kb | kb <;> rw [ka, kb] at hfin <;> first | (exfalso; omega) | skip
    all_goals clear hfin
    all_goals rw [ka, kb]
    all_goals simp only [Int.reduceEq, or_true, or_false, and_true, and_false, if_true, if_false, or_self, and_self]
    all_goals
      go_enter Try.func18, Try.ntmps18
      go_wp2_with (first | (go_at_call 28; refine (nan_any _ (by assumption) (by assumption) _).mono ?_; rintro e w' ⟨rfl, rfl⟩) | (go_at_call 30; refine (inf_any _ (by assumption) (by assumption) _).mono ?_; rintro e w' ⟨rfl, rfl⟩) | (go_at_call 56; refine (below_any _ (by assumption) (by assumption) _).mono ?_; rintro e w' ⟨rfl, rfl⟩) | (go_at_call 57; refine (kind_any _ (by assumption) (by assumption) _).mono ?_; rintro e w' ⟨rfl, rfl⟩) | (go_at_call 42; refine (signBit_any _ _).mono ?_; rintro e w' ⟨rfl, rfl⟩))
    all_goals go_ret
    all_goals refine ⟨ret_int ?_, Below.refl _ _⟩
    all_goals first | rfl | (exact sign_or _ _ (by omega) (by omega))

set_option maxRecDepth 100000 in
set_option maxHeartbeats 1000000 in
theorem divBy_fin (way a b : Int) (h0 : 0 ≤ a) (h1 : a < 4294967296) (g0 : 0 ≤ b) (g1 : b < 4294967296) (ka : Flt.kind a = 1) (kb : Flt.kind b = 1) (w : World) :
    Calls Try.prog 22 #[.int .i64 way, .int .u32 a, .int .u32 b] w fun e w' => e = .returned (.int .u32 (Flt.quoM way (Flt.sgn a != Flt.sgn b) (Flt.expo a) (Flt.sig a) (Flt.expo b) (Flt.sig b))) ∧ Below w.heap.size w w' := by
  obtain ⟨s0, s1⟩ := Flt.sig_range a
  obtain ⟨t0, t1⟩ := Flt.sig_range b
  obtain ⟨e0, e1⟩ := Flt.expo_range a
  obtain ⟨f0, f1⟩ := Flt.expo_range b
  have s2 := sig_pos a ka
  have t2 := sig_pos b kb
  go_enter Try.func22, Try.ntmps22
  go_wp2_with (first | (go_at_call 28; refine (nan_any _ (by assumption) (by assumption) _).mono ?_; rintro e w' ⟨rfl, rfl⟩) | (go_at_call 30; refine (inf_any _ (by assumption) (by assumption) _).mono ?_; rintro e w' ⟨rfl, rfl⟩) | (go_at_call 56; refine (below_any _ (by assumption) (by assumption) _).mono ?_; rintro e w' ⟨rfl, rfl⟩) | (go_at_call 57; refine (kind_any _ (by assumption) (by assumption) _).mono ?_; rintro e w' ⟨rfl, rfl⟩) | (go_at_call 42; refine (signBit_any _ _).mono ?_; rintro e w' ⟨rfl, rfl⟩))
  refine (split_any a h0 h1 _).mono ?_
  rintro e w1 ⟨rfl, hb1⟩
  go_wp2_with fail
  refine (split_any b g0 g1 _).mono ?_
  rintro e w2 ⟨rfl, hb2⟩
  go_wp2_with fail
  refine (quotient_any way _ _ _ _ _ _ _ s2 s1 t2 t1 e0 e1 f0 f1 _).mono ?_
  rintro e w3 ⟨rfl, hb3⟩
  go_wp2_with fail
  go_ret
  exact ⟨ret_int rfl, (hb1.trans (hb2.mono hb1.size)).trans (hb3.mono (Nat.le_trans hb1.size hb2.size))⟩

set_option maxRecDepth 100000 in
set_option maxHeartbeats 1000000 in
theorem divBy_any (way a b : Int) (h0 : 0 ≤ a) (h1 : a < 4294967296) (g0 : 0 ≤ b) (g1 : b < 4294967296) (w : World) :
    Calls Try.prog 22 #[.int .i64 way, .int .u32 a, .int .u32 b] w fun e w' => e = .returned (.int .u32 (Flt.divBy way a b)) ∧ Below w.heap.size w w' := by
  obtain ⟨a3, a2, a0⟩ := kind_of a
  obtain ⟨b3, b2, b0⟩ := kind_of b
  unfold Flt.divBy
  simp only [← a3, ← b3, ← a2, ← b2, ← a0, ← b0]
  clear a3 a2 a0 b3 b2 b0
  by_cases hfin : Flt.kind a = 1 ∧ Flt.kind b = 1
  · rw [if_neg (by omega), if_neg (by omega), if_neg (by omega), if_neg (by omega)]
    exact divBy_fin way a b h0 h1 g0 g1 hfin.1 hfin.2 w
  · rcases kind_cases a with ka | ka | ka | ka <;> rcases kind_cases b with kb | kb | kb | kb <;> rw [ka, kb] at hfin <;> first | (exfalso; omega) | skip
    all_goals clear hfin
    all_goals rw [ka, kb]
    all_goals simp only [Int.reduceEq, or_true, or_false, and_true, and_false, if_true, if_false, or_self, and_self]
    all_goals
      go_enter Try.func22, Try.ntmps22
      go_wp2_with (first | (go_at_call 28; refine (nan_any _ (by assumption) (by assumption) _).mono ?_; rintro e w' ⟨rfl, rfl⟩) | (go_at_call 30; refine (inf_any _ (by assumption) (by assumption) _).mono ?_; rintro e w' ⟨rfl, rfl⟩) | (go_at_call 56; refine (below_any _ (by assumption) (by assumption) _).mono ?_; rintro e w' ⟨rfl, rfl⟩) | (go_at_call 57; refine (kind_any _ (by assumption) (by assumption) _).mono ?_; rintro e w' ⟨rfl, rfl⟩) | (go_at_call 42; refine (signBit_any _ _).mono ?_; rintro e w' ⟨rfl, rfl⟩))
    all_goals go_ret
    all_goals refine ⟨ret_int ?_, Below.refl _ _⟩
    all_goals first | rfl | (exact sign_or _ _ (by omega) (by omega))

theorem add_any (a b : Int) (h0 : 0 ≤ a) (h1 : a < 4294967296) (g0 : 0 ≤ b) (g1 : b < 4294967296) (w : World) :
    Calls Try.prog 14 #[.int .u32 a, .int .u32 b] w fun e w' => e = .returned (.int .u32 (Flt.addBy 0 a b)) ∧ Below w.heap.size w w' := by
  go_enter Try.func14, Try.ntmps14
  go_wp2_with fail
  refine (addBy_any 0 a b h0 h1 g0 g1 _).mono ?_
  rintro e w1 ⟨rfl, hb1⟩
  go_wp2_with fail
  go_ret
  exact ⟨ret_int rfl, hb1⟩

theorem mul_any (a b : Int) (h0 : 0 ≤ a) (h1 : a < 4294967296) (g0 : 0 ≤ b) (g1 : b < 4294967296) (w : World) :
    Calls Try.prog 20 #[.int .u32 a, .int .u32 b] w fun e w' => e = .returned (.int .u32 (Flt.mulBy 0 a b)) ∧ Below w.heap.size w w' := by
  go_enter Try.func20, Try.ntmps20
  go_wp2_with fail
  refine (mulBy_any 0 a b h0 h1 g0 g1 _).mono ?_
  rintro e w1 ⟨rfl, hb1⟩
  go_wp2_with fail
  go_ret
  exact ⟨ret_int rfl, hb1⟩

theorem div_any (a b : Int) (h0 : 0 ≤ a) (h1 : a < 4294967296) (g0 : 0 ≤ b) (g1 : b < 4294967296) (w : World) :
    Calls Try.prog 24 #[.int .u32 a, .int .u32 b] w fun e w' => e = .returned (.int .u32 (Flt.divBy 0 a b)) ∧ Below w.heap.size w w' := by
  go_enter Try.func24, Try.ntmps24
  go_wp2_with fail
  refine (divBy_any 0 a b h0 h1 g0 g1 _).mono ?_
  rintro e w1 ⟨rfl, hb1⟩
  go_wp2_with fail
  go_ret
  exact ⟨ret_int rfl, hb1⟩

theorem negF_range (a : Int) : 0 ≤ Flt.negF a ∧ Flt.negF a < 4294967296 := by unfold Flt.negF; omega

theorem sub_any (a b : Int) (h0 : 0 ≤ a) (h1 : a < 4294967296) (g0 : 0 ≤ b) (g1 : b < 4294967296) (w : World) :
    Calls Try.prog 16 #[.int .u32 a, .int .u32 b] w fun e w' => e = .returned (.int .u32 (Flt.addBy 0 a (Flt.negF b))) ∧ Below w.heap.size w w' := by
  obtain ⟨n0, n1⟩ := negF_range b
  go_enter Try.func16, Try.ntmps16
  go_wp2_with (go_at_call 32; refine (neg_any _ g0 g1 _).mono ?_; rintro e w' ⟨rfl, rfl⟩)
  refine (add_any a _ h0 h1 n0 n1 _).mono ?_
  rintro e w1 ⟨rfl, hb1⟩
  go_wp2_with fail
  go_ret
  exact ⟨ret_int rfl, hb1⟩
end Go.Proofs.Ytfgdgnbkjoafmaa
