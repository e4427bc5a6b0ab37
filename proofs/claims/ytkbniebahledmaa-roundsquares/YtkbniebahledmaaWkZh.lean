/-
  Walks of package round's roots.
-/
import Derived.Test.YtkbniebahledmaaWkZb
namespace Go.Proofs.Ytkbniebahledmaa
open Go.RowKit
set_option linter.unusedVariables false
set_option linter.unusedSimpArgs false

/-- Where the search for a root stands: bits from i on are settled. -/
def RootAt (n : Nat) (i : Nat) (R B : Int) : Prop :=
  i ≤ 32 ∧ ∃ r : Nat, R = ((r * 2 ^ i : Nat) : Int) ∧ B = (if i = 0 then 0 else ((2 ^ (i - 1) : Nat) : Int)) ∧ r * 2 ^ i + 2 ^ i ≤ 2 ^ 32 ∧ (r * 2 ^ i) * (r * 2 ^ i) ≤ n ∧ n < (r * 2 ^ i + 2 ^ i) * (r * 2 ^ i + 2 ^ i)

theorem rootAt_start (n : Nat) (h : n < 18446744073709551616) : RootAt n 32 0 2147483648 := by
  refine ⟨by omega, 0, by simp, by decide, by decide, by omega, ?_⟩
  have : (0 * 2 ^ 32 + 2 ^ 32) * (0 * 2 ^ 32 + 2 ^ 32) = 18446744073709551616 := by decide
  rw [this]; exact h
theorem rootAt_range {n i : Nat} {R B : Int} (h : RootAt n i R B) : 0 ≤ R ∧ R < 4294967296 ∧ 0 ≤ B ∧ B < 4294967296 ∧ (i = 0 ↔ B = 0) ∧ R + B < 4294967296 := by
  obtain ⟨hi, r, rfl, hB, h1, _, _⟩ := h
  have p32 : (2 : Nat) ^ 32 = 4294967296 := by decide
  have pi := Nat.two_pow_pos i
  by_cases h0 : i = 0
  · rw [if_pos h0] at hB; subst hB
    refine ⟨by omega, by omega, by omega, by omega, by omega, by omega⟩
  · rw [if_neg h0] at hB
    have hp := Nat.two_pow_pos (i - 1)
    have h2 : 2 ^ i = 2 * 2 ^ (i - 1) := by
      obtain ⟨k, rfl⟩ : ∃ k, i = k + 1 := ⟨i - 1, by omega⟩
      rw [Nat.pow_succ, Nat.add_sub_cancel]; omega
    refine ⟨by omega, by omega, by omega, by omega, by omega, by omega⟩
theorem rootAt_or {n i : Nat} {R B : Int} (h : RootAt n i R B) : bits .or .u64 R B = R + B := by
  have hr := rootAt_range h
  obtain ⟨hi, r, rfl, hB, h1, _, _⟩ := h
  by_cases h0 : i = 0
  · rw [if_pos h0] at hB; subst hB
    have := or_disj ((r * 2 ^ i : Nat) : Int) 0 0 (Int.natCast_nonneg _) (by omega) (by decide) (by simp only [Int.pow_zero, Int.mul_one, Int.add_zero]; omega)
    simpa using this
  · rw [if_neg h0] at hB
    rw [hB] at hr ⊢
    have hp := Nat.two_pow_pos (i - 1)
    have hlt : 2 ^ (i - 1) < 2 ^ i := Nat.pow_lt_pow_right (by decide) (by omega)
    rw [Int.natCast_mul, ← Flt.pow_cast i] at hr ⊢
    exact or_disj (r : Int) _ i (Int.natCast_nonneg _) (Int.natCast_nonneg _) (by rw [Flt.pow_cast]; exact Int.ofNat_lt.2 hlt) (by omega)
theorem rootAt_step {n i : Nat} {R B : Int} (h : RootAt n (i + 1) R B) : (((R + B) * (R + B) ≤ (n : Int)) → RootAt n i (R + B) (B / 2)) ∧ (¬ ((R + B) * (R + B) ≤ (n : Int)) → RootAt n i R (B / 2)) := by
  obtain ⟨hi, r, rfl, hB, h1, h2, h3⟩ := h
  rw [if_neg (by omega), Nat.add_sub_cancel] at hB
  have hp : 2 ^ (i + 1) = 2 * 2 ^ i := by rw [Nat.pow_succ]; omega
  have hB2 : B / 2 = (if i = 0 then 0 else ((2 ^ (i - 1) : Nat) : Int)) := by
    rw [hB]
    by_cases h0 : i = 0
    · rw [if_pos h0, h0]; rfl
    · rw [if_neg h0]
      have : 2 ^ i = 2 * 2 ^ (i - 1) := by
        obtain ⟨k, rfl⟩ : ∃ k, i = k + 1 := ⟨i - 1, by omega⟩
        rw [Nat.pow_succ, Nat.add_sub_cancel]; omega
      omega
  have e1 : r * 2 ^ (i + 1) = (2 * r) * 2 ^ i := by rw [hp]; ac_rfl
  rw [e1] at h1 h2 h3
  rw [hp] at h1 h3
  rw [e1, hB2]
  have e2 : (2 * r + 1) * 2 ^ i = 2 * r * 2 ^ i + 2 ^ i := Nat.succ_mul _ _
  have hc : (((2 * r * 2 ^ i : Nat) : Int) + B) = (((2 * r + 1) * 2 ^ i : Nat) : Int) := by rw [hB, e2]; omega
  rw [hc, ← Int.natCast_mul]
  constructor
  · intro hle
    refine ⟨by omega, 2 * r + 1, rfl, rfl, by rw [e2]; omega, Int.ofNat_le.1 hle, ?_⟩
    rw [e2]
    have : 2 * r * 2 ^ i + 2 ^ i + 2 ^ i = 2 * r * 2 ^ i + 2 * 2 ^ i := by omega
    rw [this]; exact h3
  · intro hle
    refine ⟨by omega, 2 * r, rfl, rfl, by omega, h2, ?_⟩
    have hlt : n < ((2 * r + 1) * 2 ^ i) * ((2 * r + 1) * 2 ^ i) := by
      rcases Nat.lt_or_ge n (((2 * r + 1) * 2 ^ i) * ((2 * r + 1) * 2 ^ i)) with g | g
      · exact g
      · exact absurd (Int.ofNat_le.2 g) hle
    rw [e2] at hlt; exact hlt
theorem rootAt_end {n : Nat} {R : Int} (h : RootAt n 0 R 0) : ∃ r : Nat, R = (r : Int) ∧ r * r ≤ n ∧ n < (r + 1) * (r + 1) := by
  obtain ⟨_, r, rfl, _, _, h1, h2⟩ := h
  refine ⟨r, by simp, ?_, ?_⟩
  · simpa using h1
  · simpa using h2
theorem sq_lt (x : Int) (h0 : 0 ≤ x) (h1 : x < 4294967296) : 0 ≤ x * x ∧ x * x < 18446744073709551616 := by
  have := Int.mul_le_mul (show x ≤ 4294967295 by omega) (show x ≤ 4294967295 by omega) h0 (by omega)
  exact ⟨Int.mul_nonneg h0 h0, by omega⟩

theorem ret_root {a c : Int} {m k : Bool} (h1 : a = c) (h3 : m = k) :
    Ending.returned (.tuple #[.int .u64 a, .bool m]) = .returned (.tuple #[.int .u64 c, .bool k]) := by rw [h1, h3]

set_option maxRecDepth 100000 in
set_option maxHeartbeats 1000000 in
theorem rootOf_any (N : Nat) (n : Int) (hn : n = (N : Int)) (h1 : n < 18446744073709551616) (w : World) :
    Calls Try.prog 51 #[.int .u64 n] w
      fun e w' => (∃ r : Nat, e = .returned (.tuple #[.int .u64 (r : Int), .bool (decide (r * r ≠ N))]) ∧ r * r ≤ N ∧ N < (r + 1) * (r + 1)) ∧ w' = w := by
  have h0 : 0 ≤ n := by omega
  have HN := hide hn
  have HST := hide (rootAt_start N (by omega))
  clear hn
  go_enter Try.func51, Try.ntmps51
  go_wp2_with fail
  go_loop [4, 5] (fun root bit => ∃ i : Nat, ∃ R B : Int, root = .int .u64 R ∧ bit = .int .u64 B ∧ 0 ≤ R ∧ R < 4294967296 ∧ 0 ≤ B ∧ B < 4294967296 ∧ R + B < 4294967296 ∧ Hid (RootAt N i R B)) (fun _ bit => (intOf bit).toNat)
  case atStart => exact ⟨32, 0, 2147483648, rfl, rfl, by omega, by omega, by omega, by omega, by omega, HST⟩
  case round =>
    obtain ⟨i, R, B, rfl, rfl, r0, r1, b0, b1, rb, HR⟩ := hrel
    by_cases hB : B = 0
    · have hi : i = 0 := (rootAt_range (unhide HR)).2.2.2.2.1.2 hB
      subst hB
      subst hi
      obtain ⟨Y, hY⟩ : ∃ Y, IntKind.u64.wrap (R * R) = Y := ⟨_, rfl⟩
      have hYe : Y = R * R := by rw [← hY]; exact wrap_u64_in _ (sq_lt R r0 r1).1 (sq_lt R r0 r1).2
      have HY := hide hYe
      clear hYe
      go_wp2_with fail
      go_ret2
      obtain ⟨r, hr, hr1, hr2⟩ := rootAt_end (unhide HR)
      refine ⟨⟨r, ret_root hr ?_, hr1, hr2⟩, rfl⟩
      have e1 := unhide HY
      have e2 := unhide HN
      rw [hr, ← Int.natCast_mul] at e1
      rw [e1, e2, Bool.eq_iff_iff]
      simp only [bne_iff_ne, ne_eq, decide_eq_true_eq, Bool.not_eq_true', decide_eq_false_iff_not]
      omega
    · have hB0 : 0 < B := by omega
      obtain ⟨X, hX⟩ : ∃ X, R + B = X := ⟨_, rfl⟩
      have hor : bits .or .u64 R B = X := by rw [← hX]; exact rootAt_or (unhide HR)
      have x0 : 0 ≤ X := by omega
      have x1 : X < 4294967296 := by omega
      obtain ⟨Y, hY⟩ : ∃ Y, IntKind.u64.wrap (X * X) = Y := ⟨_, rfl⟩
      have hYe : Y = X * X := by rw [← hY]; exact wrap_u64_in _ (sq_lt X x0 x1).1 (sq_lt X x0 x1).2
      have hi : i ≠ 0 := fun h => hB ((rootAt_range (unhide HR)).2.2.2.2.1.1 h)
      obtain ⟨j, rfl⟩ : ∃ j, i = j + 1 := ⟨i - 1, by omega⟩
      obtain ⟨st1, st2⟩ := rootAt_step (unhide HR)
      rw [hX] at st1 st2
      have HY := hide hYe
      have HS1 := hide st1
      have HS2 := hide st2
      have HX := hide hX
      clear hYe st1 st2 hi hX
      by_cases hle : Y ≤ n
      · go_wp2_with fail
        go_round
        case rel => exact ⟨j, X, B / 2, rfl, by go_num, x0, x1, by omega, by omega, by have := rootAt_range (unhide HS1 (by rw [← unhide HY, ← unhide HN]; exact hle)); omega, hide (unhide HS1 (by rw [← unhide HY, ← unhide HN]; exact hle))⟩
        case measure => simp [intOf]; omega
      · have hle2 : n < Y := by omega
        clear hle
        go_wp2_with fail
        go_round
        case rel => exact ⟨j, R, B / 2, rfl, by go_num, r0, r1, by omega, by omega, by omega, hide (unhide HS2 (by rw [← unhide HY, ← unhide HN]; omega))⟩
        case measure => simp [intOf]; omega

set_option maxRecDepth 100000 in
set_option maxHeartbeats 1000000 in
theorem csqrt_walk (way a ex s L par U NN E : Int) (N : Nat) (h0 : 0 ≤ a) (h1 : a < 4294967296) (nn : Flt.isNaN a = false) (ni : Flt.isInf a = false) (nz : (Flt.absF a == 0) = false) (ng : Flt.sgn a = false)
    (hs : ∀ w, Calls Try.prog 38 #[.int .u32 a] w fun e w' => e = .returned (.agg #[.bool false, .int .i64 ex, .int .u64 s]) ∧ Below w.heap.size w w')
    (s0 : 1 ≤ s) (s1 : s < 16777216) (e0 : -149 ≤ ex) (e1 : ex ≤ 105) (hL : Flt.lz s = L) (L0 : 0 ≤ L) (L1 : L ≤ 63) (hp : bits .and .i64 (ex - L) 1 = par) (p0 : 0 ≤ par) (p1 : par ≤ 1) (hU : L - par = U) (U0 : 0 ≤ U) (hN : IntKind.u64.wrap (s * 2 ^ U.toNat) = NN) (N0 : 0 ≤ NN) (N1 : NN < 18446744073709551616) (hNN : NN = (N : Int))
    (hE : (ex - U).tdiv 2 = E) (E0 : -200 ≤ E) (E1 : E ≤ 200) (w : World) :
    Calls Try.prog 16 #[.int .i64 way, .int .u32 a] w
      fun e w' => (∃ r : Nat, e = .returned (.int .u32 (Flt.rnd way false E (r : Int) (decide (r * r ≠ N)))) ∧ r * r ≤ N ∧ N < (r + 1) * (r + 1)) ∧ Below w.heap.size w w' := by
  have HS := hide hs
  have hlead : ∀ w, Calls Try.prog 50 #[.int .u64 s] w fun e w' => e = .returned (.int .i64 L) ∧ w' = w := by
    intro w; have := lead_any s (by omega) (by omega) w; rw [hL] at this; exact this
  have HL := hide hlead
  have HR := hide (fun w => rootOf_any N NN hNN N1 w)
  have HNN := hide hNN
  have hsl : Op.shift .shl .u64 s .i64 U = pure (.int .u64 NN) := by
    rw [shift_shl .u64 .i64 _ _ U0 (by simp [IntKind.bits]; omega), hN]
  clear hs hlead hL hNN
  go_enter Try.func16, Try.ntmps16
  go_wp2_with (first | (go_at_call 20; refine (nan_any _ (by assumption) (by assumption) _).mono ?_; rintro e w' ⟨rfl, rfl⟩) | (go_at_call 21; refine (inf_any _ (by assumption) (by assumption) _).mono ?_; rintro e w' ⟨rfl, rfl⟩) | (go_at_call 48; refine (abs_any _ (by assumption) (by assumption) _).mono ?_; rintro e w' ⟨rfl, rfl⟩) | (go_at_call 49; refine (cbelow_any _ (by assumption) (by assumption) _).mono ?_; rintro e w' ⟨rfl, rfl⟩))
  refine (unhide HS _).mono ?_
  rintro e w1 ⟨rfl, hb1⟩
  go_wp2_with (go_at_call 50; refine (unhide HL _).mono ?_; rintro e w' ⟨rfl, rfl⟩)
  refine (unhide HR _).mono ?_
  rintro e w2 ⟨⟨r, rfl, hr1, hr2⟩, rfl⟩
  have hri0 : r ≤ N := by
    rcases Nat.eq_zero_or_pos r with h | h
    · omega
    · exact Nat.le_trans (Nat.le_mul_of_pos_left r h) hr1
  have hNN := unhide HNN
  obtain ⟨ri, hri⟩ : ∃ ri : Int, (r : Int) = ri := ⟨_, rfl⟩
  obtain ⟨mo, hmo⟩ : ∃ mo : Bool, decide (r * r ≠ N) = mo := ⟨_, rfl⟩
  have q0 : 0 ≤ ri := by omega
  have q1 : ri < 18446744073709551616 := by omega
  rw [hri, hmo]
  have HRI := hide hri
  have HMO := hide hmo
  have HR1 := hide hr1
  have HR2 := hide hr2
  clear hri hmo hr1 hr2 hri0 hNN
  go_wp2_with fail
  refine (round_any _ _ _ _ _ q0 q1 _).mono ?_
  rintro e w3 ⟨rfl, rfl⟩
  go_wp2_with fail
  go_ret
  refine ⟨⟨r, ?_, unhide HR1, unhide HR2⟩, ?_⟩
  · rw [unhide HRI, unhide HMO]; exact rfl
  · exact bl_tr hb1 ((Below.refl _ _).alloc (Nat.le_refl _) _)

set_option maxRecDepth 100000 in
set_option maxHeartbeats 1000000 in
theorem csqrt_x (way a : Int) (h0 : 0 ≤ a) (h1 : a < 4294967296) (hx : Flt.isNaN a = true ∨ Flt.absF a = 0 ∨ Flt.isInf a = true ∨ Flt.sgn a = true) (w : World) :
    Calls Try.prog 16 #[.int .i64 way, .int .u32 a] w fun e w' => e = .returned (.int .u32 (if Flt.isNaN a = true then 2143289344 else if Flt.absF a = 0 then a else if Flt.sgn a = true then 2143289344 else a)) ∧ w' = w := by
  cases hn : Flt.isNaN a
  · rw [if_neg (by simp)]
    by_cases hz : Flt.absF a = 0
    · have hz' : (Flt.absF a == 0) = true := by simp [hz]
      rw [if_pos hz]
      clear hz hx
      go_enter Try.func16, Try.ntmps16
      go_wp2_with (first | (go_at_call 20; refine (nan_any _ (by assumption) (by assumption) _).mono ?_; rintro e w' ⟨rfl, rfl⟩) | (go_at_call 21; refine (inf_any _ (by assumption) (by assumption) _).mono ?_; rintro e w' ⟨rfl, rfl⟩) | (go_at_call 48; refine (abs_any _ (by assumption) (by assumption) _).mono ?_; rintro e w' ⟨rfl, rfl⟩) | (go_at_call 49; refine (cbelow_any _ (by assumption) (by assumption) _).mono ?_; rintro e w' ⟨rfl, rfl⟩))
      go_ret
      exact ⟨rfl, rfl⟩
    · have hz' : (Flt.absF a == 0) = false := by simp [hz]
      rw [if_neg hz]
      cases hg : Flt.sgn a
      · have hi : Flt.isInf a = true := by
          rcases hx with h | h | h | h
          · rw [hn] at h; cases h
          · exact absurd h hz
          · exact h
          · rw [hg] at h; cases h
        clear hz hx
        go_enter Try.func16, Try.ntmps16
        go_wp2_with (first | (go_at_call 20; refine (nan_any _ (by assumption) (by assumption) _).mono ?_; rintro e w' ⟨rfl, rfl⟩) | (go_at_call 21; refine (inf_any _ (by assumption) (by assumption) _).mono ?_; rintro e w' ⟨rfl, rfl⟩) | (go_at_call 48; refine (abs_any _ (by assumption) (by assumption) _).mono ?_; rintro e w' ⟨rfl, rfl⟩) | (go_at_call 49; refine (cbelow_any _ (by assumption) (by assumption) _).mono ?_; rintro e w' ⟨rfl, rfl⟩))
        go_ret
        exact ⟨rfl, rfl⟩
      · clear hz hx
        go_enter Try.func16, Try.ntmps16
        go_wp2_with (first | (go_at_call 20; refine (nan_any _ (by assumption) (by assumption) _).mono ?_; rintro e w' ⟨rfl, rfl⟩) | (go_at_call 21; refine (inf_any _ (by assumption) (by assumption) _).mono ?_; rintro e w' ⟨rfl, rfl⟩) | (go_at_call 48; refine (abs_any _ (by assumption) (by assumption) _).mono ?_; rintro e w' ⟨rfl, rfl⟩) | (go_at_call 49; refine (cbelow_any _ (by assumption) (by assumption) _).mono ?_; rintro e w' ⟨rfl, rfl⟩))
        go_ret
        exact ⟨rfl, rfl⟩
  · clear hx
    go_enter Try.func16, Try.ntmps16
    go_wp2_with (first | (go_at_call 20; refine (nan_any _ (by assumption) (by assumption) _).mono ?_; rintro e w' ⟨rfl, rfl⟩) | (go_at_call 21; refine (inf_any _ (by assumption) (by assumption) _).mono ?_; rintro e w' ⟨rfl, rfl⟩) | (go_at_call 48; refine (abs_any _ (by assumption) (by assumption) _).mono ?_; rintro e w' ⟨rfl, rfl⟩) | (go_at_call 49; refine (cbelow_any _ (by assumption) (by assumption) _).mono ?_; rintro e w' ⟨rfl, rfl⟩))
    go_ret
    exact ⟨rfl, rfl⟩

theorem and1_i64 (n : Int) : bits .and .i64 n 1 = n % 2 := by
  have h1 : (BitVec.ofInt 64 1).toNat = 2 ^ 1 - 1 := by decide
  have key : (BitVec.ofInt 64 n &&& BitVec.ofInt 64 1).toNat = (n % ((2 ^ 64 : Nat) : Int)).toNat % 2 ^ 1 := by
    rw [BitVec.toNat_and, BitVec.toNat_ofInt, h1, Nat.and_two_pow_sub_one_eq_mod]
  show IntKind.i64.wrap ((BitVec.ofInt 64 n &&& BitVec.ofInt 64 1).toNat : Nat) = n % 2
  rw [key, IntKind.wrap_i64]
  omega
end Go.Proofs.Ytkbniebahledmaa
