import Derived.Below
import Derived.BigQuiet
import Derived.RowKit
import Derived.Test.YtkbniebahledmabGB
import Derived.Shelf.Spec.BitsCarry
import Derived.BigRegion
import Derived.Test.YtkbniebahledmabGA

/-
  A region that draws its order and whose callees make new memory: one walk in the order of the text, in every world that keeps what there was. No program is named here.
-/
namespace Go.Proofs.Ytkbniebahledmab
open Go.RowKit

/-- Worlds that keep what w holds, under a letter of their own. -/
theorem wp_region_below {P : Program} {id : Nat} {Q : Exit → Act → World → Prop} {a : Act} {w : World} {l : List Oper} (hm : P.follows .mixedOrders = true) (hB : Region.lexB .any l.toArray = true)
    (h : ∀ (T : Type) (f : T → World), Nonempty T → (∀ x, Below w.heap.size w (f x)) → (∀ w', Below w.heap.size w w' → ∃ x, w' = f x) →
      wpQuiet P l.toArray (fun w' => ∃ x, w' = f x) (fun a' => ∀ x, Q .normal a' (f x)) l a) : (Code.region id l.toArray true).wp P Q a w := by
  have h2 := h { w' : World // Below w.heap.size w w' } Subtype.val ⟨⟨w, Below.refl _ _⟩⟩ (fun x => x.2) (fun w' hw => ⟨⟨w', hw⟩, rfl⟩)
  refine wp_region_quiet (C := fun w' => ∃ x : { w' : World // Below w.heap.size w w' }, w' = x.1) hm hB ⟨⟨w.drew, (Below.refl _ _).drew⟩, rfl⟩ ?_
  have e : (fun a' => ∀ w', (∃ x : { w' : World // Below w.heap.size w w' }, w' = x.1) → Q .normal a' w') = (fun a' => ∀ x : { w' : World // Below w.heap.size w w' }, Q .normal a' x.1) := by
    funext a'
    exact propext ⟨fun g x => g x.1 ⟨x, rfl⟩, fun g w' ⟨x, hx⟩ => hx ▸ g x⟩
  rw [e]
  exact h2

theorem calls_qb {P : Program} {g : FuncId} {args : Array Value} {v : Value} {T : Type} {f : T → World} {W : World} (hfb : ∀ x, Below W.heap.size W (f x)) (hfc : ∀ w', Below W.heap.size W w' → ∃ x, w' = f x) {x : T}
    (h : Calls P g args (f x) fun e w' => e = .returned v ∧ Below (f x).heap.size (f x) w') : Calls P g args (f x) fun e w'' => e = .returned v ∧ ∃ y, w'' = f y :=
  h.mono fun _ _ ⟨he, hb⟩ => ⟨he, hfc _ ((hfb x).trans (hb.mono (hfb x).size))⟩
theorem calls_qs {P : Program} {g : FuncId} {args : Array Value} {v : Value} {T : Type} {f : T → World} {x : T}
    (h : Calls P g args (f x) fun e w' => e = .returned v ∧ w' = f x) : Calls P g args (f x) fun e w'' => e = .returned v ∧ ∃ y, w'' = f y :=
  h.mono fun _ _ ⟨he, hb⟩ => ⟨he, x, hb⟩
theorem qcell {T : Type} {f : T → World} {W : World} (hfb : ∀ x, Below W.heap.size W (f x)) {b o : Nat} {v : Value} (hb : b < W.heap.size) (hc : W.cell? ⟨b, o, none⟩ = some v) (x : T) : (f x).cell? ⟨b, o, none⟩ = some v :=
  ((hfb x).cell (p := ⟨b, o, none⟩) hb).trans hc
end Go.Proofs.Ytkbniebahledmab

/-
  Walks of package round's small functions: what each returns, for every input: parts of a float, sums and differences of two words, words laid lower, numbers shifted up.
-/
namespace Go.Proofs.Ytkbniebahledmab
open Go.RowKit
set_option linter.unusedVariables false

theorem cbelow_any (a : Int) (h0 : 0 ≤ a) (h1 : a < 4294967296) (w : World) :
    Calls Try.prog 72 #[.int .u32 a] w fun e w' => e = .returned (.bool (Flt.sgn a)) ∧ w' = w := by
  have hb : bits .and .u32 a 2147483648 = if 2147483648 ≤ a then 2147483648 else 0 := by
    go_bits2
  unfold Flt.sgn
  by_cases hs : 2147483648 ≤ a
  · rw [if_pos hs] at hb
    go_enter Try.func72, Try.ntmps72
    go_wp2
    go_ret
    exact ⟨ret_bool (by simp [hs]), rfl⟩
  · rw [if_neg hs] at hb
    go_enter Try.func72, Try.ntmps72
    go_wp2
    go_ret
    exact ⟨ret_bool (by simp [hs]), rfl⟩

theorem csplit_any (a : Int) (h0 : 0 ≤ a) (h1 : a < 4294967296) (w : World) :
    Calls Try.prog 58 #[.int .u32 a] w fun e w' => e = .returned (.agg #[.bool (Flt.sgn a), .int .i64 (Flt.expo a), .int .u64 (Flt.sig a)]) ∧ Below w.heap.size w w' := by
  have e1 := Flt.and23 a h0 h1
  have e2 := Flt.and8 (a / 8388608) (by omega) (by omega)
  have e3 := Flt.or23 (a % 8388608) (by omega) (by omega)
  go_enter Try.func58, Try.ntmps58
  go_wp2_with (go_at_call 72; refine (cbelow_any _ h0 h1 _).mono ?_; rintro e w' ⟨rfl, rfl⟩)
  · have hz : a / 8388608 % 256 = 0 := WalkArith.int_eq ‹(_ == _) = true›
    refine bodyPost_ret (v := .agg #[.bool (Flt.sgn a), .int .i64 (Flt.expo a), .int .u64 (Flt.sig a)]) (by simp [results, Try.results58, go_sem, Flt.expo, Flt.sig, hz]) rfl ⟨rfl, ?_⟩
    first | exact (Below.refl _ _).alloc (Nat.le_refl _) _ | exact Below.refl _ _
  · have hz : ¬ a / 8388608 % 256 = 0 := WalkArith.int_ne ‹(_ == _) = false›
    refine bodyPost_ret (v := .agg #[.bool (Flt.sgn a), .int .i64 (Flt.expo a), .int .u64 (Flt.sig a)]) (by simp [results, Try.results58, go_sem, Flt.expo, Flt.sig, hz]; omega) rfl ⟨rfl, ?_⟩
    first | exact (Below.refl _ _).alloc (Nat.le_refl _) _ | exact Below.refl _ _

theorem cnought_any (way : Int) (w : World) :
    Calls Try.prog 68 #[.int .i64 way] w fun e w' => e = .returned (.int .u32 (Flt.signBit (decide (way = 2)))) ∧ w' = w := by
  by_cases h : way = 2
  · subst h
    go_enter Try.func68, Try.ntmps68
    go_wp2
    go_ret
    exact ⟨ret_int (by simp [Flt.signBit]), rfl⟩
  · have h2 : (way == 2) = false := by simp [h]
    go_enter Try.func68, Try.ntmps68
    go_wp2
    go_ret
    exact ⟨ret_int (by simp [Flt.signBit, h]), rfl⟩

theorem add64_run (x y c : Int) (hx : 0 ≤ x) (hy : 0 ≤ y) (hc0 : 0 ≤ c) (hc : c ≤ 1) (w : World) :
    (callFunc 81 #[.int .u64 x, .int .u64 y, .int .u64 c]).run Try.prog w =
      .ok (.value (.tuple #[.int .u64 ((x + y + c) % 18446744073709551616), .int .u64 ((x + y + c) / 18446744073709551616)])) w := by
  rw [run_callFunc_extern Try.func81 (by kernel_rfl) (by kernel_rfl) (by kernel_rfl) (e := add64Entry) (by kernel_rfl), run_add64 x y c hx hy hc0 hc]
  rfl
theorem sub64_run (x y c d b : Int) (hx : 0 ≤ x) (hy : 0 ≤ y) (hx1 : x < 18446744073709551616) (hy1 : y < 18446744073709551616) (hc0 : 0 ≤ c) (hc : c ≤ 1)
    (hd : (x < y + c ∧ b = 1 ∧ d = x - y - c + 18446744073709551616) ∨ (y + c ≤ x ∧ b = 0 ∧ d = x - y - c)) (w : World) :
    (callFunc 82 #[.int .u64 x, .int .u64 y, .int .u64 c]).run Try.prog w =
      .ok (.value (.tuple #[.int .u64 d, .int .u64 b])) w := by
  obtain ⟨X, rfl⟩ := Int.eq_ofNat_of_zero_le hx
  obtain ⟨Y, rfl⟩ := Int.eq_ofNat_of_zero_le hy
  obtain ⟨C, rfl⟩ := Int.eq_ofNat_of_zero_le hc0
  rw [run_callFunc_extern Try.func82 (by kernel_rfl) (by kernel_rfl) (by kernel_rfl) (e := sub64Entry) (by kernel_rfl), run_sub64 X Y C (by omega)]
  have e1 : (((X + 18446744073709551616 - Y - C) % 18446744073709551616 : Nat) : Int) = d := by omega
  have e2 : ((if X < Y + C then 1 else 0 : Nat) : Int) = b := by split <;> omega
  rw [e1, e2]
  rfl

theorem wplus_any (wh wl vh vl h l : Int) (a0 : 0 ≤ wh) (a1 : 0 ≤ wl) (a2 : 0 ≤ vh) (a3 : 0 ≤ vl) (b1 : wl < 18446744073709551616) (b3 : vl < 18446744073709551616)
    (h0 : 0 ≤ h) (h1 : h < 18446744073709551616) (l0 : 0 ≤ l) (l1 : l < 18446744073709551616)
    (hs : h * 18446744073709551616 + l = wh * 18446744073709551616 + wl + (vh * 18446744073709551616 + vl)) (w : World) :
    Calls Try.prog 78 #[.agg #[.int .u64 wh, .int .u64 wl], .agg #[.int .u64 vh, .int .u64 vl]] w
      fun e w' => e = .returned (.agg #[.int .u64 h, .int .u64 l]) ∧ Below w.heap.size w w' := by
  obtain ⟨c, hc⟩ : ∃ c : Int, c = h - wh - vh := ⟨_, rfl⟩
  have hc2 : (c = 0 ∧ l = wl + vl) ∨ (c = 1 ∧ l = wl + vl - 18446744073709551616) := by
    have hk : c = 0 ∨ c = 1 := by omega
    rcases hk with rfl | rfl <;> omega
  have r1 : ∀ w, (callFunc 81 #[.int .u64 wl, .int .u64 vl, .int .u64 0]).run Try.prog w = .ok (.value (.tuple #[.int .u64 l, .int .u64 c])) w := by
    intro w
    have := add64_run wl vl 0 a1 a3 (by omega) (by omega) w
    rw [this]
    have d1 : (wl + vl + 0) % 18446744073709551616 = l := by rcases hc2 with ⟨_, h⟩ | ⟨_, h⟩ <;> omega
    have d2 : (wl + vl + 0) / 18446744073709551616 = c := by rcases hc2 with ⟨g, h⟩ | ⟨g, h⟩ <;> omega
    rw [d1, d2]
  have r2 : ∀ w, (callFunc 81 #[.int .u64 wh, .int .u64 vh, .int .u64 c]).run Try.prog w = .ok (.value (.tuple #[.int .u64 h, .int .u64 0])) w := by
    intro w
    have := add64_run wh vh c a0 a2 (by omega) (by omega) w
    rw [this]
    have d1 : (wh + vh + c) % 18446744073709551616 = h := by omega
    have d2 : (wh + vh + c) / 18446744073709551616 = 0 := by omega
    rw [d1, d2]
  clear hc hs hc2
  go_enter Try.func78, Try.ntmps78
  go_wp2_with fail
  refine bodyPost_ret (v := .agg #[.int .u64 h, .int .u64 l]) (by simp [results, Try.results78, go_sem]) rfl ⟨rfl, ?_⟩
  first | exact Below.refl _ _ | exact (Below.refl _ _).alloc (Nat.le_refl _) _ | exact ((Below.refl _ _).alloc (Nat.le_refl _) _).alloc (by simp) _ | exact (((Below.refl _ _).alloc (Nat.le_refl _) _).alloc (by simp) _).alloc (by simp; omega) _

theorem wminus_any (wh wl vh vl h l : Int) (a0 : 0 ≤ wh) (a1 : 0 ≤ wl) (a2 : 0 ≤ vh) (a3 : 0 ≤ vl) (b0 : wh < 18446744073709551616) (b1 : wl < 18446744073709551616) (b2 : vh < 18446744073709551616) (b3 : vl < 18446744073709551616)
    (h0 : 0 ≤ h) (l0 : 0 ≤ l) (l1 : l < 18446744073709551616)
    (hs : h * 18446744073709551616 + l = wh * 18446744073709551616 + wl - (vh * 18446744073709551616 + vl)) (w : World) :
    Calls Try.prog 79 #[.agg #[.int .u64 wh, .int .u64 wl], .agg #[.int .u64 vh, .int .u64 vl]] w
      fun e w' => e = .returned (.agg #[.int .u64 h, .int .u64 l]) ∧ Below w.heap.size w w' := by
  obtain ⟨c, hc⟩ : ∃ c : Int, c = if wl < vl then 1 else 0 := ⟨_, rfl⟩
  have hc2 : (wl < vl ∧ c = 1) ∨ (vl ≤ wl ∧ c = 0) := by split at hc <;> omega
  have r1 : ∀ w, (callFunc 82 #[.int .u64 wl, .int .u64 vl, .int .u64 0]).run Try.prog w = .ok (.value (.tuple #[.int .u64 l, .int .u64 c])) w := by
    intro w
    exact sub64_run wl vl 0 l c a1 a3 b1 b3 (by omega) (by omega) (by omega) w
  have r2 : ∀ w, (callFunc 82 #[.int .u64 wh, .int .u64 vh, .int .u64 c]).run Try.prog w = .ok (.value (.tuple #[.int .u64 h, .int .u64 0])) w := by
    intro w
    exact sub64_run wh vh c h 0 a0 a2 b0 b2 (by omega) (by omega) (by omega) w
  clear hc hs hc2
  go_enter Try.func79, Try.ntmps79
  go_wp2_with fail
  refine bodyPost_ret (v := .agg #[.int .u64 h, .int .u64 l]) (by simp [results, Try.results79, go_sem]) rfl ⟨rfl, ?_⟩
  first | exact Below.refl _ _ | exact (Below.refl _ _).alloc (Nat.le_refl _) _ | exact ((Below.refl _ _).alloc (Nat.le_refl _) _).alloc (by simp) _ | exact (((Below.refl _ _).alloc (Nat.le_refl _) _).alloc (by simp) _).alloc (by simp; omega) _

theorem topped_any (n : Bool) (exp s L S : Int) (h0 : 1 ≤ s) (h1 : s < 9223372036854775808) (e0 : -1000 ≤ exp) (e1 : exp ≤ 1000) (hL : Flt.lz s = L) (hS : s * 2 ^ (L - 1).toNat = S) (w : World) :
    Calls Try.prog 70 #[.agg #[.bool n, .int .i64 exp, .int .u64 s]] w
      fun e w' => e = .returned (.agg #[.bool n, .int .i64 (exp - (L - 1)), .int .u64 S]) ∧ Below w.heap.size w w' := by
  obtain ⟨l0, l1, l2, l3⟩ := lz_range s h0 (by omega)
  have hL1 : 1 ≤ L := by
    rcases Int.lt_or_le L 1 with h | h
    · exfalso
      have : L = 0 := by omega
      rw [hL, this] at l2
      simp at l2
      omega
    · exact h
  have hp : (2 : Int) ^ L.toNat = 2 * 2 ^ (L - 1).toNat := by
    obtain ⟨k, hk⟩ : ∃ k : Nat, L = (k : Int) + 1 := ⟨(L - 1).toNat, by omega⟩
    rw [hk, show ((k : Int) + 1).toNat = k + 1 by omega, show ((k : Int) + 1 - 1).toNat = k by omega, Int.pow_succ]; omega
  have hp2 : (0 : Int) < 2 ^ (L - 1).toNat := Int.pow_pos (by decide)
  rw [hL] at l0 l1 l2 l3
  have hS2 : s * 2 ^ L.toNat = 2 * S := by rw [hp, ← hS, ← Int.mul_assoc, Int.mul_comm s 2, Int.mul_assoc]
  have sS0 : 0 ≤ S ∧ S < 9223372036854775808 := by omega
  have hsh : Op.shift .shl .u64 s .i64 (L - 1) = pure (.int .u64 S) := by
    rw [shift_shl .u64 .i64 _ _ (by omega) (by simp [IntKind.bits]; omega), hS, wrap_u64_in _ (by omega) (by omega)]
  have hW : IntKind.u64.wrap (s * 2 ^ (L.toNat - 1)) = S := by
    rw [show L.toNat - 1 = (L - 1).toNat by omega, hS, wrap_u64_in _ (by omega) (by omega)]
  have hlead : ∀ w, Calls Try.prog 73 #[.int .u64 s] w fun e w' => e = .returned (.int .i64 L) ∧ w' = w := by
    intro w; have := lead_any s (by omega) (by omega) w; rw [hL] at this; exact this
  have HL := hide hlead
  have HW := hide hW
  obtain ⟨sS1, sS2⟩ := sS0
  clear hlead hL hS hp hp2 l2 l3 hS2 hsh hW
  go_enter Try.func70, Try.ntmps70
  go_wp2_with (go_at_call 73; refine (unhide HL _).mono ?_; rintro e w' ⟨rfl, rfl⟩)
  go_region
  go_wp2_with fail
  refine bodyPost_ret (v := .agg #[.bool n, .int .i64 (exp - (L - 1)), .int .u64 S]) (by simp [results, Try.results70, go_sem, unhide HW]) rfl ⟨rfl, ?_⟩
  first | exact bl_drewN (((Below.refl _ _).alloc (Nat.le_refl _) _).alloc (by simp) _) 1 | exact bl_drewN ((Below.refl _ _).alloc (Nat.le_refl _) _) _ | exact bl_drewN (((Below.refl _ _).alloc (Nat.le_refl _) _).alloc (by simp) _) _ | exact (bl_drewN ((Below.refl _ _).alloc (Nat.le_refl _) _) _).alloc (by simp [World.drewN]) _
end Go.Proofs.Ytkbniebahledmab

/-
  Walks of package round's words laid lower, of two words rounded, and of its sums.
-/
namespace Go.Proofs.Ytkbniebahledmab
open Go.RowKit
set_option linter.unusedVariables false

theorem ret_low {a b c d : Int} {m k : Bool} (h1 : a = c) (h2 : b = d) (h3 : m = k) :
    Ending.returned (.tuple #[.agg #[.int .u64 a, .int .u64 b], .bool m]) = .returned (.tuple #[.agg #[.int .u64 c, .int .u64 d], .bool k]) := by rw [h1, h2, h3]

theorem shl_any (s d R : Int) (h0 : 0 ≤ d) (h1 : d ≤ 64) (hR : s * 2 ^ d.toNat % 18446744073709551616 = R) : Op.shift .shl .u64 s .i64 d = pure (.int .u64 R) := by
  rw [shift_shl .u64 .i64 _ _ h0 (by simp [IntKind.bits]; omega), IntKind.wrap_u64, hR]

set_option maxRecDepth 100000 in
set_option maxHeartbeats 1000000 in
theorem lowered_lo (s n H R : Int) (h0 : 0 ≤ s) (h1 : s < 9223372036854775808) (n0 : 0 ≤ n) (n1 : n < 64) (hH : s / 2 ^ n.toNat = H) (hR : IntKind.u64.wrap (s * 2 ^ (64 - n).toNat) = R) (w : World) :
    Calls Try.prog 76 #[.int .u64 s, .int .i64 n] w
      fun e w' => e = .returned (.tuple #[.agg #[.int .u64 H, .int .u64 R], .bool false]) ∧ Below w.heap.size w w' := by
  go_enter Try.func76, Try.ntmps76
  go_wp2_with fail
  go_region
  go_wp2_with fail
  refine bodyPost_ret (v := .tuple #[.agg #[.int .u64 H, .int .u64 R], .bool false]) (by simp [results, Try.results76, go_sem]) rfl ⟨rfl, ?_⟩
  first | exact bl_drewN ((Below.refl _ _).alloc (Nat.le_refl _) _) 1 | exact bl_drewN (((Below.refl _ _).alloc (Nat.le_refl _) _).alloc (by simp) _) 1
set_option maxRecDepth 100000 in
set_option maxHeartbeats 1000000 in
theorem lowered_far (s n : Int) (h0 : 1 ≤ s) (h1 : s < 9223372036854775808) (n0 : 128 < n) (w : World) :
    Calls Try.prog 76 #[.int .u64 s, .int .i64 n] w
      fun e w' => e = .returned (.tuple #[.agg #[.int .u64 0, .int .u64 ((0 : Nat) : Int)], .bool true]) ∧ Below w.heap.size w w' := by
  have hz : s / 18446744073709551616 = 0 := by omega
  have hz2 : s % 18446744073709551616 = s := by omega
  have hne : (s != 0) = true := by simp; omega
  go_enter Try.func76, Try.ntmps76
  go_wp2_with fail
  go_region
  all_goals go_wp2_with fail
  all_goals refine bodyPost_ret (v := .tuple #[.agg #[.int .u64 0, .int .u64 ((0 : Nat) : Int)], .bool true]) (by simp [results, Try.results76, go_sem]) rfl ⟨rfl, ?_⟩
  all_goals first | exact bl_drewN ((Below.refl _ _).alloc (Nat.le_refl _) _) 1 | exact bl_drewN (((Below.refl _ _).alloc (Nat.le_refl _) _).alloc (by simp) _) 1
set_option maxRecDepth 100000 in
set_option maxHeartbeats 1000000 in
theorem lowered_mid (s n H R : Int) (h0 : 0 ≤ s) (h1 : s < 9223372036854775808) (n0 : 64 ≤ n) (n1 : n ≤ 128) (hH : s / 2 ^ (n - 64).toNat = H) (hR : IntKind.u64.wrap (s * 2 ^ (128 - n).toNat) = R) (w : World) :
    Calls Try.prog 76 #[.int .u64 s, .int .i64 n] w
      fun e w' => e = .returned (.tuple #[.agg #[.int .u64 0, .int .u64 H], .bool (R != 0)]) ∧ Below w.heap.size w w' := by
  go_enter Try.func76, Try.ntmps76
  go_wp2_with fail
  go_region
  all_goals go_wp2_with fail
  all_goals refine bodyPost_ret (v := .tuple #[.agg #[.int .u64 0, .int .u64 H], .bool (R != 0)]) (by simp [results, Try.results76, go_sem]) rfl ⟨rfl, ?_⟩
  all_goals first | exact bl_drewN ((Below.refl _ _).alloc (Nat.le_refl _) _) 1 | exact bl_drewN (((Below.refl _ _).alloc (Nat.le_refl _) _).alloc (by simp) _) 1

set_option maxRecDepth 100000 in
set_option maxHeartbeats 1000000 in
theorem narrow_walk (way : Int) (neg : Bool) (exp hi lo L H R S Q : Int) (more : Bool) (h0 : 0 ≤ hi) (h1 : hi < 18446744073709551616) (l0 : 0 ≤ lo) (l1 : lo < 18446744073709551616)
    (L0 : 0 ≤ L) (L1 : L ≤ 64) (S0 : 0 ≤ S) (S1 : S < 18446744073709551616) (e0 : -1000 ≤ exp) (e1 : exp ≤ 1000)
    (hL : Flt.lz hi = L) (hH : IntKind.u64.wrap (hi * 2 ^ L.toNat) = H) (hR : lo / 2 ^ (64 - L).toNat = R) (hS : bits .or .u64 H R = S) (hQ : IntKind.u64.wrap (lo * 2 ^ L.toNat) = Q) (w : World) :
    Calls Try.prog 77 #[.int .i64 way, .bool neg, .int .i64 exp, .agg #[.int .u64 hi, .int .u64 lo], .bool more] w
      fun e w' => e = .returned (.int .u32 (Flt.rnd way neg (exp - L) S (more || (Q != 0)))) ∧ Below w.heap.size w w' := by
  have hlead : ∀ w, Calls Try.prog 73 #[.int .u64 hi] w fun e w' => e = .returned (.int .i64 L) ∧ w' = w := by
    intro w; have := lead_any hi h0 h1 w; rw [hL] at this; exact this
  have HL := hide hlead
  clear hlead hL
  cases more
  all_goals
    go_enter Try.func77, Try.ntmps77
    go_wp2_with (go_at_call 73; refine (unhide HL _).mono ?_; rintro e w' ⟨rfl, rfl⟩)
    go_quiet (fail)
    go_wp2_with fail
    refine (round_any _ _ _ _ _ S0 S1 _).mono ?_
    rintro e w1 ⟨rfl, rfl⟩
    go_wp2_with fail
    go_ret
    refine ⟨ret_int (by simp), ?_⟩
    exact bl_drewN ((Below.refl _ _).alloc (Nat.le_refl _) _) _

theorem or_disj (x y : Int) (k : Nat) (hx : 0 ≤ x) (y0 : 0 ≤ y) (y1 : y < 2 ^ k) (hs : x * 2 ^ k + y < 18446744073709551616) : bits .or .u64 (x * 2 ^ k) y = x * 2 ^ k + y := by
  obtain ⟨X, rfl⟩ := Int.eq_ofNat_of_zero_le hx
  obtain ⟨Y, rfl⟩ := Int.eq_ofNat_of_zero_le y0
  have hc : (X : Int) * 2 ^ k = ((X * 2 ^ k : Nat) : Int) := by rw [Flt.pow_cast, ← Int.natCast_mul]
  have hY : Y < 2 ^ k := by rw [Flt.pow_cast] at y1; exact Int.ofNat_lt.1 y1
  rw [hc] at hs ⊢
  have key : (X * 2 ^ k) ||| Y = X * 2 ^ k + Y := by
    have := Nat.two_pow_add_eq_or_of_lt hY X
    rw [Nat.mul_comm X]; exact this.symm
  obtain ⟨Z, hZ⟩ : ∃ Z, X * 2 ^ k = Z := ⟨_, rfl⟩
  rw [hZ] at hs key ⊢
  clear hZ hc hx y0 y1
  go_bits2

theorem cast_lt64 (n : Nat) (h : n < 2 ^ 64) : (n : Int) < 18446744073709551616 := by
  have : (2 : Nat) ^ 64 = 18446744073709551616 := by decide
  omega
theorem bitLen_le64 (n : Nat) (h : n < 2 ^ 64) : bitLen n ≤ 64 := by
  have := len_le (n : Int) (cast_lt64 n h)
  rw [Int.toNat_natCast] at this
  exact this
theorem ofnat_eq (x : Int) (h : 0 ≤ x) : ∃ n : Nat, x = (n : Int) := ⟨x.toNat, by omega⟩
theorem bne_of (R : Int) (b : Bool) (h : b = true ↔ R ≠ 0) : b = (R != 0) := by
  rw [Bool.eq_iff_iff, h]; simp

theorem lowered_any (S N : Nat) (s n th tl : Int) (more : Bool) (hs : s = (S : Int)) (hn : n = (N : Int)) (h0 : 1 ≤ S) (h1 : S < 2 ^ 63)
    (hth : th = ((Flt.lowT S N / 2 ^ 64 : Nat) : Int)) (htl : tl = ((Flt.lowT S N % 2 ^ 64 : Nat) : Int)) (hm : more = Flt.lowM S N) (w : World) :
    Calls Try.prog 76 #[.int .u64 s, .int .i64 n] w
      fun e w' => e = .returned (.tuple #[.agg #[.int .u64 th, .int .u64 tl], .bool more]) ∧ Below w.heap.size w w' := by
  have h1' : s < 9223372036854775808 := by
    have : (2 : Nat) ^ 63 = 9223372036854775808 := by decide
    omega
  by_cases c1 : N < 64
  · obtain ⟨e1, e2, e3⟩ := Flt.low_lo S N c1
    rw [hm, e3]
    refine lowered_lo s n th tl (by omega) h1' (by omega) (by omega) ?_ ?_ w
    · rw [hs, hn, Int.toNat_natCast, hth, e1, Flt.div_cast]
    · rw [hs, hn, htl, e2, show (64 - (N : Int)).toNat = 64 - N by omega, Flt.pow_cast, ← Int.natCast_mul, IntKind.wrap_u64]
      rw [show (2 : Nat) ^ 64 = 18446744073709551616 by decide]
      generalize S * 2 ^ (64 - N) = z
      omega
  · obtain ⟨e1, e2, e3⟩ := Flt.low_hi S N h1 (by omega)
    rw [e1] at hth
    subst hth
    by_cases c2 : N ≤ 128
    · obtain ⟨R, hR⟩ : ∃ R, IntKind.u64.wrap (s * 2 ^ (128 - n).toNat) = R := ⟨_, rfl⟩
      have hb : more = (R != 0) := by
        refine bne_of R more ?_
        rw [hm, e3, ← hR, hs, hn, show (128 - (N : Int)).toNat = 64 - (N - 64) by omega, Flt.pow_cast, ← Int.natCast_mul, IntKind.wrap_u64]
        have := Flt.low_rest S (N - 64) (by omega)
        rw [show (2 : Nat) ^ 64 = 18446744073709551616 by decide] at this
        rw [ne_eq, ← not_congr this]
        generalize S * 2 ^ (64 - (N - 64)) = z
        omega
      rw [hb]
      refine lowered_mid s n tl R (by omega) h1' (by omega) (by omega) ?_ hR w
      rw [hs, hn, show ((N : Int) - 64).toNat = N - 64 by omega, htl, e2, Flt.div_cast]
    · have hlt : S < 2 ^ (N - 64) := by
        have : (2 : Nat) ^ 63 ≤ 2 ^ (N - 64) := Nat.pow_le_pow_right (by decide) (by omega)
        omega
      rw [Nat.div_eq_of_lt hlt] at e2
      rw [Nat.mod_eq_of_lt hlt] at e3
      have hb : more = true := by rw [hm, e3]; omega
      rw [e2] at htl
      rw [htl, hb]
      refine (lowered_far s n (by omega) h1' (by omega) w)

theorem narrow_any (way : Int) (neg : Bool) (exp hi lo : Int) (T : Nat) (more : Bool) (hT : T < 2 ^ 128) (e0 : -1000 ≤ exp) (e1 : exp ≤ 1000)
    (hhi : hi = ((T / 2 ^ 64 : Nat) : Int)) (hlo : lo = ((T % 2 ^ 64 : Nat) : Int)) (w : World) :
    Calls Try.prog 77 #[.int .i64 way, .bool neg, .int .i64 exp, .agg #[.int .u64 hi, .int .u64 lo], .bool more] w
      fun e w' => e = .returned (.int .u32 (Flt.narrowM way neg exp T more)) ∧ Below w.heap.size w w' := by
  have n64 : (2 : Nat) ^ 64 = 18446744073709551616 := by decide
  have hh : T / 2 ^ 64 < 2 ^ 64 := Nat.div_lt_of_lt_mul (by rw [← Nat.pow_add]; exact hT)
  have hl : T % 2 ^ 64 < 2 ^ 64 := Nat.mod_lt _ (Nat.two_pow_pos 64)
  have hB : bitLen (T / 2 ^ 64) ≤ 64 := bitLen_le64 _ hh
  obtain ⟨s1, s2⟩ := bitLen_spec (T / 2 ^ 64)
  obtain ⟨p1, p2⟩ := Flt.narrow_parts T (bitLen (T / 2 ^ 64)) hB
  have hlz : Flt.lz hi = 64 - (bitLen (T / 2 ^ 64) : Int) := by rw [hhi]; unfold Flt.lz; rw [Int.toNat_natCast]
  unfold Flt.narrowM
  generalize bitLen (T / 2 ^ 64) = B at *
  obtain ⟨Q, hQ⟩ : ∃ Q, IntKind.u64.wrap (lo * 2 ^ (64 - (B : Int)).toNat) = Q := ⟨_, rfl⟩
  have hLn : (64 - (B : Int)).toNat = 64 - B := by omega
  have hsum : T / 2 ^ 64 * 2 ^ (64 - B) < 2 ^ 64 := by
    have e : (2 : Nat) ^ 64 = 2 ^ B * 2 ^ (64 - B) := by rw [← Nat.pow_add]; congr 1; omega
    have h1 : T / 2 ^ 64 * 2 ^ (64 - B) < 2 ^ B * 2 ^ (64 - B) := Nat.mul_lt_mul_of_pos_right s1 (Nat.two_pow_pos _)
    rw [← e] at h1
    exact h1
  have hR : T % 2 ^ 64 / 2 ^ B < 2 ^ (64 - B) := by
    refine Nat.div_lt_of_lt_mul ?_
    rw [← Nat.pow_add, show B + (64 - B) = 64 by omega]; exact hl
  have hsum2 : T / 2 ^ 64 * 2 ^ (64 - B) + T % 2 ^ 64 / 2 ^ B < 2 ^ 64 := by
    have e : (2 : Nat) ^ 64 = 2 ^ B * 2 ^ (64 - B) := by rw [← Nat.pow_add]; congr 1; omega
    have h1 : (T / 2 ^ 64 + 1) * 2 ^ (64 - B) ≤ 2 ^ B * 2 ^ (64 - B) := Nat.mul_le_mul_right _ s1
    rw [Nat.add_mul, ← e] at h1
    omega
  have hm : (decide (T % 2 ^ B ≠ 0)) = (Q != 0) := by
    refine bne_of Q _ ?_
    rw [decide_eq_true_eq, ne_eq, ne_eq, p2, ← hQ, hLn, hlo, Flt.pow_cast, ← Int.natCast_mul, IntKind.wrap_u64, n64]
    generalize T % 18446744073709551616 * 2 ^ (64 - B) = z
    omega
  have hS : (((T / 2 ^ B : Nat)) : Int) = hi * 2 ^ (64 - B) + ((T % 2 ^ 64 / 2 ^ B : Nat) : Int) := by
    rw [p1, hhi, Int.natCast_add, Int.natCast_mul, Flt.pow_cast]
  have hS1 : hi * 2 ^ (64 - B) + ((T % 2 ^ 64 / 2 ^ B : Nat) : Int) < 18446744073709551616 := by
    rw [← hS, p1]; exact cast_lt64 _ hsum2
  have hlo1 : lo < 18446744073709551616 := by rw [hlo]; exact cast_lt64 _ hl
  have hhi1 : hi < 18446744073709551616 := by rw [hhi]; exact cast_lt64 _ hh
  have hH : hi * 2 ^ (64 - B) < 18446744073709551616 := by rw [hhi, Flt.pow_cast, ← Int.natCast_mul]; exact cast_lt64 _ hsum
  have hH0 : 0 ≤ hi * 2 ^ (64 - B) := by rw [hhi, Flt.pow_cast, ← Int.natCast_mul]; exact Int.natCast_nonneg _
  rw [hm, hS]
  refine narrow_walk way neg exp hi lo (64 - (B : Int)) (hi * 2 ^ (64 - B)) ((T % 2 ^ 64 / 2 ^ B : Nat) : Int) _ Q more (by rw [hhi]; exact Int.natCast_nonneg _) hhi1 (by rw [hlo]; exact Int.natCast_nonneg _) hlo1
    (by omega) (by omega) (Int.add_nonneg hH0 (Int.natCast_nonneg _)) hS1 e0 e1 hlz ?_ ?_ ?_ hQ w
  · rw [hLn, wrap_u64_in _ hH0 hH]
  · rw [hlo, show (64 - (64 - (B : Int))).toNat = B by omega, Flt.div_cast]
  · refine or_disj hi _ (64 - B) (by rw [hhi]; exact Int.natCast_nonneg _) (Int.natCast_nonneg _) ?_ hS1
    rw [Flt.pow_cast]; exact Int.ofNat_lt.2 hR
end Go.Proofs.Ytkbniebahledmab
