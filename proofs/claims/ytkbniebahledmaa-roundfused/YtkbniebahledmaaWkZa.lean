/-
  Walks of package round's small functions: what each returns, for every input: parts of a float, sums and differences of two words, words laid lower, numbers shifted up.
-/
import Derived.Test.YtkbniebahledmaaWkF
import Derived.Shelf.Spec.BitsCarry
import Derived.BigRegion
namespace Go.Proofs.Ytkbniebahledmaa
open Go.RowKit
set_option linter.unusedVariables false

theorem cbelow_any (a : Int) (h0 : 0 ≤ a) (h1 : a < 4294967296) (w : World) :
    Calls Try.prog 49 #[.int .u32 a] w fun e w' => e = .returned (.bool (Flt.sgn a)) ∧ w' = w := by
  have hb : bits .and .u32 a 2147483648 = if 2147483648 ≤ a then 2147483648 else 0 := by
    go_bits2
  unfold Flt.sgn
  by_cases hs : 2147483648 ≤ a
  · rw [if_pos hs] at hb
    go_enter Try.func49, Try.ntmps49
    go_wp2
    go_ret
    exact ⟨ret_bool (by simp [hs]), rfl⟩
  · rw [if_neg hs] at hb
    go_enter Try.func49, Try.ntmps49
    go_wp2
    go_ret
    exact ⟨ret_bool (by simp [hs]), rfl⟩

theorem csplit_any (a : Int) (h0 : 0 ≤ a) (h1 : a < 4294967296) (w : World) :
    Calls Try.prog 38 #[.int .u32 a] w fun e w' => e = .returned (.agg #[.bool (Flt.sgn a), .int .i64 (Flt.expo a), .int .u64 (Flt.sig a)]) ∧ Below w.heap.size w w' := by
  have e1 := Flt.and23 a h0 h1
  have e2 := Flt.and8 (a / 8388608) (by omega) (by omega)
  have e3 := Flt.or23 (a % 8388608) (by omega) (by omega)
  go_enter Try.func38, Try.ntmps38
  go_wp2_with (go_at_call 49; refine (cbelow_any _ h0 h1 _).mono ?_; rintro e w' ⟨rfl, rfl⟩)
  · have hz : a / 8388608 % 256 = 0 := WalkArith.int_eq ‹(_ == _) = true›
    refine bodyPost_ret (v := .agg #[.bool (Flt.sgn a), .int .i64 (Flt.expo a), .int .u64 (Flt.sig a)]) (by simp [results, Try.results38, go_sem, Flt.expo, Flt.sig, hz]) rfl ⟨rfl, ?_⟩
    first | exact (Below.refl _ _).alloc (Nat.le_refl _) _ | exact Below.refl _ _
  · have hz : ¬ a / 8388608 % 256 = 0 := WalkArith.int_ne ‹(_ == _) = false›
    refine bodyPost_ret (v := .agg #[.bool (Flt.sgn a), .int .i64 (Flt.expo a), .int .u64 (Flt.sig a)]) (by simp [results, Try.results38, go_sem, Flt.expo, Flt.sig, hz]; omega) rfl ⟨rfl, ?_⟩
    first | exact (Below.refl _ _).alloc (Nat.le_refl _) _ | exact Below.refl _ _

theorem cnought_any (way : Int) (w : World) :
    Calls Try.prog 39 #[.int .i64 way] w fun e w' => e = .returned (.int .u32 (Flt.signBit (decide (way = 2)))) ∧ w' = w := by
  by_cases h : way = 2
  · subst h
    go_enter Try.func39, Try.ntmps39
    go_wp2
    go_ret
    exact ⟨ret_int (by simp [Flt.signBit]), rfl⟩
  · have h2 : (way == 2) = false := by simp [h]
    go_enter Try.func39, Try.ntmps39
    go_wp2
    go_ret
    exact ⟨ret_int (by simp [Flt.signBit, h]), rfl⟩

theorem add64_run (x y c : Int) (hx : 0 ≤ x) (hy : 0 ≤ y) (hc0 : 0 ≤ c) (hc : c ≤ 1) (w : World) :
    (callFunc 66 #[.int .u64 x, .int .u64 y, .int .u64 c]).run Try.prog w =
      .ok (.value (.tuple #[.int .u64 ((x + y + c) % 18446744073709551616), .int .u64 ((x + y + c) / 18446744073709551616)])) w := by
  rw [run_callFunc_extern Try.func66 (by kernel_rfl) (by kernel_rfl) (by kernel_rfl) (e := add64Entry) (by kernel_rfl), run_add64 x y c hx hy hc0 hc]
  rfl
theorem sub64_run (x y c d b : Int) (hx : 0 ≤ x) (hy : 0 ≤ y) (hx1 : x < 18446744073709551616) (hy1 : y < 18446744073709551616) (hc0 : 0 ≤ c) (hc : c ≤ 1)
    (hd : (x < y + c ∧ b = 1 ∧ d = x - y - c + 18446744073709551616) ∨ (y + c ≤ x ∧ b = 0 ∧ d = x - y - c)) (w : World) :
    (callFunc 67 #[.int .u64 x, .int .u64 y, .int .u64 c]).run Try.prog w =
      .ok (.value (.tuple #[.int .u64 d, .int .u64 b])) w := by
  obtain ⟨X, rfl⟩ := Int.eq_ofNat_of_zero_le hx
  obtain ⟨Y, rfl⟩ := Int.eq_ofNat_of_zero_le hy
  obtain ⟨C, rfl⟩ := Int.eq_ofNat_of_zero_le hc0
  rw [run_callFunc_extern Try.func67 (by kernel_rfl) (by kernel_rfl) (by kernel_rfl) (e := sub64Entry) (by kernel_rfl), run_sub64 X Y C (by omega)]
  have e1 : (((X + 18446744073709551616 - Y - C) % 18446744073709551616 : Nat) : Int) = d := by omega
  have e2 : ((if X < Y + C then 1 else 0 : Nat) : Int) = b := by split <;> omega
  rw [e1, e2]
  rfl

theorem wplus_any (wh wl vh vl h l : Int) (a0 : 0 ≤ wh) (a1 : 0 ≤ wl) (a2 : 0 ≤ vh) (a3 : 0 ≤ vl) (b1 : wl < 18446744073709551616) (b3 : vl < 18446744073709551616)
    (h0 : 0 ≤ h) (h1 : h < 18446744073709551616) (l0 : 0 ≤ l) (l1 : l < 18446744073709551616)
    (hs : h * 18446744073709551616 + l = wh * 18446744073709551616 + wl + (vh * 18446744073709551616 + vl)) (w : World) :
    Calls Try.prog 61 #[.agg #[.int .u64 wh, .int .u64 wl], .agg #[.int .u64 vh, .int .u64 vl]] w
      fun e w' => e = .returned (.agg #[.int .u64 h, .int .u64 l]) ∧ Below w.heap.size w w' := by
  obtain ⟨c, hc⟩ : ∃ c : Int, c = h - wh - vh := ⟨_, rfl⟩
  have hc2 : (c = 0 ∧ l = wl + vl) ∨ (c = 1 ∧ l = wl + vl - 18446744073709551616) := by
    have hk : c = 0 ∨ c = 1 := by omega
    rcases hk with rfl | rfl <;> omega
  have r1 : ∀ w, (callFunc 66 #[.int .u64 wl, .int .u64 vl, .int .u64 0]).run Try.prog w = .ok (.value (.tuple #[.int .u64 l, .int .u64 c])) w := by
    intro w
    have := add64_run wl vl 0 a1 a3 (by omega) (by omega) w
    rw [this]
    have d1 : (wl + vl + 0) % 18446744073709551616 = l := by rcases hc2 with ⟨_, h⟩ | ⟨_, h⟩ <;> omega
    have d2 : (wl + vl + 0) / 18446744073709551616 = c := by rcases hc2 with ⟨g, h⟩ | ⟨g, h⟩ <;> omega
    rw [d1, d2]
  have r2 : ∀ w, (callFunc 66 #[.int .u64 wh, .int .u64 vh, .int .u64 c]).run Try.prog w = .ok (.value (.tuple #[.int .u64 h, .int .u64 0])) w := by
    intro w
    have := add64_run wh vh c a0 a2 (by omega) (by omega) w
    rw [this]
    have d1 : (wh + vh + c) % 18446744073709551616 = h := by omega
    have d2 : (wh + vh + c) / 18446744073709551616 = 0 := by omega
    rw [d1, d2]
  clear hc hs hc2
  go_enter Try.func61, Try.ntmps61
  go_wp2_with fail
  refine bodyPost_ret (v := .agg #[.int .u64 h, .int .u64 l]) (by simp [results, Try.results61, go_sem]) rfl ⟨rfl, ?_⟩
  first | exact Below.refl _ _ | exact (Below.refl _ _).alloc (Nat.le_refl _) _ | exact ((Below.refl _ _).alloc (Nat.le_refl _) _).alloc (by simp) _ | exact (((Below.refl _ _).alloc (Nat.le_refl _) _).alloc (by simp) _).alloc (by simp; omega) _

theorem wminus_any (wh wl vh vl h l : Int) (a0 : 0 ≤ wh) (a1 : 0 ≤ wl) (a2 : 0 ≤ vh) (a3 : 0 ≤ vl) (b0 : wh < 18446744073709551616) (b1 : wl < 18446744073709551616) (b2 : vh < 18446744073709551616) (b3 : vl < 18446744073709551616)
    (h0 : 0 ≤ h) (l0 : 0 ≤ l) (l1 : l < 18446744073709551616)
    (hs : h * 18446744073709551616 + l = wh * 18446744073709551616 + wl - (vh * 18446744073709551616 + vl)) (w : World) :
    Calls Try.prog 62 #[.agg #[.int .u64 wh, .int .u64 wl], .agg #[.int .u64 vh, .int .u64 vl]] w
      fun e w' => e = .returned (.agg #[.int .u64 h, .int .u64 l]) ∧ Below w.heap.size w w' := by
  obtain ⟨c, hc⟩ : ∃ c : Int, c = if wl < vl then 1 else 0 := ⟨_, rfl⟩
  have hc2 : (wl < vl ∧ c = 1) ∨ (vl ≤ wl ∧ c = 0) := by split at hc <;> omega
  have r1 : ∀ w, (callFunc 67 #[.int .u64 wl, .int .u64 vl, .int .u64 0]).run Try.prog w = .ok (.value (.tuple #[.int .u64 l, .int .u64 c])) w := by
    intro w
    exact sub64_run wl vl 0 l c a1 a3 b1 b3 (by omega) (by omega) (by omega) w
  have r2 : ∀ w, (callFunc 67 #[.int .u64 wh, .int .u64 vh, .int .u64 c]).run Try.prog w = .ok (.value (.tuple #[.int .u64 h, .int .u64 0])) w := by
    intro w
    exact sub64_run wh vh c h 0 a0 a2 b0 b2 (by omega) (by omega) (by omega) w
  clear hc hs hc2
  go_enter Try.func62, Try.ntmps62
  go_wp2_with fail
  refine bodyPost_ret (v := .agg #[.int .u64 h, .int .u64 l]) (by simp [results, Try.results62, go_sem]) rfl ⟨rfl, ?_⟩
  first | exact Below.refl _ _ | exact (Below.refl _ _).alloc (Nat.le_refl _) _ | exact ((Below.refl _ _).alloc (Nat.le_refl _) _).alloc (by simp) _ | exact (((Below.refl _ _).alloc (Nat.le_refl _) _).alloc (by simp) _).alloc (by simp; omega) _

theorem topped_any (n : Bool) (exp s L S : Int) (h0 : 1 ≤ s) (h1 : s < 9223372036854775808) (e0 : -1000 ≤ exp) (e1 : exp ≤ 1000) (hL : Flt.lz s = L) (hS : s * 2 ^ (L - 1).toNat = S) (w : World) :
    Calls Try.prog 41 #[.agg #[.bool n, .int .i64 exp, .int .u64 s]] w
      fun e w' => e = .returned (.agg #[.bool n, .int .i64 (exp - (L - 1)), .int .u64 S]) ∧ Below w.heap.size w w' := by
  obtain ⟨l0, l1, l2, l3⟩ := lz_range s h0 (by omega)
  have hL1 : 1 ≤ L := by
    rcases Int.lt_or_le L 1 with h | h
    · exfalso
      have : L = 0 := by omega
      rw [hL, this] at l2
      simp at l2
      omega
    · exact h
  have hp : (2 : Int) ^ L.toNat = 2 * 2 ^ (L - 1).toNat := by
    obtain ⟨k, hk⟩ : ∃ k : Nat, L = (k : Int) + 1 := ⟨(L - 1).toNat, by omega⟩
    rw [hk, show ((k : Int) + 1).toNat = k + 1 by omega, show ((k : Int) + 1 - 1).toNat = k by omega, Int.pow_succ]; omega
  have hp2 : (0 : Int) < 2 ^ (L - 1).toNat := Int.pow_pos (by decide)
  rw [hL] at l0 l1 l2 l3
  have hS2 : s * 2 ^ L.toNat = 2 * S := by rw [hp, ← hS, ← Int.mul_assoc, Int.mul_comm s 2, Int.mul_assoc]
  have sS0 : 0 ≤ S ∧ S < 9223372036854775808 := by omega
  have hsh : Op.shift .shl .u64 s .i64 (L - 1) = pure (.int .u64 S) := by
    rw [shift_shl .u64 .i64 _ _ (by omega) (by simp [IntKind.bits]; omega), hS, wrap_u64_in _ (by omega) (by omega)]
  have hW : IntKind.u64.wrap (s * 2 ^ (L.toNat - 1)) = S := by
    rw [show L.toNat - 1 = (L - 1).toNat by omega, hS, wrap_u64_in _ (by omega) (by omega)]
  have hlead : ∀ w, Calls Try.prog 50 #[.int .u64 s] w fun e w' => e = .returned (.int .i64 L) ∧ w' = w := by
    intro w; have := lead_any s (by omega) (by omega) w; rw [hL] at this; exact this
  have HL := hide hlead
  have HW := hide hW
  obtain ⟨sS1, sS2⟩ := sS0
  clear hlead hL hS hp hp2 l2 l3 hS2 hsh hW
  go_enter Try.func41, Try.ntmps41
  go_wp2_with (go_at_call 50; refine (unhide HL _).mono ?_; rintro e w' ⟨rfl, rfl⟩)
  go_region
  go_wp2_with fail
  refine bodyPost_ret (v := .agg #[.bool n, .int .i64 (exp - (L - 1)), .int .u64 S]) (by simp [results, Try.results41, go_sem, unhide HW]) rfl ⟨rfl, ?_⟩
  first | exact bl_drewN (((Below.refl _ _).alloc (Nat.le_refl _) _).alloc (by simp) _) 1 | exact bl_drewN ((Below.refl _ _).alloc (Nat.le_refl _) _) _ | exact bl_drewN (((Below.refl _ _).alloc (Nat.le_refl _) _).alloc (by simp) _) _ | exact (bl_drewN ((Below.refl _ _).alloc (Nat.le_refl _) _) _).alloc (by simp [World.drewN]) _
end Go.Proofs.Ytkbniebahledmaa
