/-
  Walks of package round's whole numbers and powers of two: FromIntBy, FromInt, Scale, ToInt.
-/
import Derived.Test.YtkbniebahledmaaWkZb
namespace Go.Proofs.Ytkbniebahledmaa
open Go.RowKit
set_option linter.unusedVariables false

set_option maxRecDepth 100000 in
set_option maxHeartbeats 1000000 in
theorem cfromIntBy_any (way n : Int) (h0 : -9223372036854775808 ≤ n) (h1 : n < 9223372036854775808) (w : World) :
    Calls Try.prog 52 #[.int .i64 way, .int .i64 n] w fun e w' => e = .returned (.int .u32 (Flt.rnd way (decide (n < 0)) 0 (n.natAbs : Int) false)) ∧ w' = w := by
  by_cases hn : n < 0
  · have d1 : decide (n < 0) = true := by simp [hn]
    have e1 : IntKind.u64.wrap n = n + 18446744073709551616 := by rw [IntKind.wrap_u64]; omega
    have e2 : IntKind.u64.wrap (-(n + 18446744073709551616)) = -n := by rw [IntKind.wrap_u64]; omega
    have e3 : (n.natAbs : Int) = -n := by omega
    rw [d1, e3]
    go_enter Try.func52, Try.ntmps52
    go_wp2_with fail
    refine (round_any _ _ _ _ _ (by omega) (by omega) _).mono ?_
    rintro e w1 ⟨rfl, rfl⟩
    go_wp2_with fail
    go_ret
    exact ⟨rfl, rfl⟩
  · have d1 : decide (n < 0) = false := by simp; omega
    have e3 : (n.natAbs : Int) = n := by omega
    rw [d1, e3]
    go_enter Try.func52, Try.ntmps52
    go_wp2_with fail
    refine (round_any _ _ _ _ _ (by omega) (by omega) _).mono ?_
    rintro e w1 ⟨rfl, rfl⟩
    go_wp2_with fail
    go_ret
    exact ⟨rfl, rfl⟩
theorem cfromInt_any (n : Int) (h0 : -9223372036854775808 ≤ n) (h1 : n < 9223372036854775808) (w : World) :
    Calls Try.prog 18 #[.int .i64 n] w fun e w' => e = .returned (.int .u32 (Flt.rnd 0 (decide (n < 0)) 0 (n.natAbs : Int) false)) ∧ w' = w := by
  go_enter Try.func18, Try.ntmps18
  go_wp2_with fail
  refine (cfromIntBy_any 0 n h0 h1 _).mono ?_
  rintro e w1 ⟨rfl, rfl⟩
  go_wp2_with fail
  go_ret
  exact ⟨rfl, rfl⟩

set_option maxRecDepth 100000 in
set_option maxHeartbeats 1000000 in
theorem cscale_walk (a k K : Int) (h0 : 0 ≤ a) (h1 : a < 4294967296) (nn : Flt.isNaN a = false) (ni : Flt.isInf a = false) (hK : (k ≤ -1000 ∧ K = -1000) ∨ (1000 ≤ k ∧ K = 1000) ∨ (-1000 < k ∧ k < 1000 ∧ K = k)) (w : World) :
    Calls Try.prog 27 #[.int .u32 a, .int .i64 k] w fun e w' => e = .returned (.int .u32 (Flt.rnd 0 (Flt.sgn a) (Flt.expo a + K) (Flt.sig a) false)) ∧ Below w.heap.size w w' := by
  obtain ⟨s0, s1⟩ := Flt.sig_range a
  obtain ⟨e0, e1⟩ := Flt.expo_range a
  rcases hK with ⟨hk, rfl⟩ | ⟨hk, rfl⟩ | ⟨hk, hk2, rfl⟩
  all_goals
    go_enter Try.func27, Try.ntmps27
    go_wp2_with (first | (go_at_call 20; refine (nan_any _ (by assumption) (by assumption) _).mono ?_; rintro e w' ⟨rfl, rfl⟩) | (go_at_call 21; refine (inf_any _ (by assumption) (by assumption) _).mono ?_; rintro e w' ⟨rfl, rfl⟩))
    refine (csplit_any a h0 h1 _).mono ?_
    rintro e w1 ⟨rfl, hb1⟩
    go_wp2_with fail
    refine (round_any _ _ _ _ _ s0 (by omega) _).mono ?_
    rintro e w2 ⟨rfl, rfl⟩
    go_wp2_with fail
    go_ret
    exact ⟨rfl, bl_tr hb1 ((Below.refl _ _).alloc (Nat.le_refl _) _)⟩
theorem cscale_x (a k : Int) (h0 : 0 ≤ a) (h1 : a < 4294967296) (hx : Flt.isNaN a = true ∨ Flt.isInf a = true) (w : World) :
    Calls Try.prog 27 #[.int .u32 a, .int .i64 k] w fun e w' => e = .returned (.int .u32 (Flt.canon a)) ∧ w' = w := by
  cases hn : Flt.isNaN a
  · have hi : Flt.isInf a = true := by rcases hx with h | h; (rw [hn] at h; cases h); exact h
    clear hx
    go_enter Try.func27, Try.ntmps27
    go_wp2_with (first | (go_at_call 20; refine (nan_any _ (by assumption) (by assumption) _).mono ?_; rintro e w' ⟨rfl, rfl⟩) | (go_at_call 21; refine (inf_any _ (by assumption) (by assumption) _).mono ?_; rintro e w' ⟨rfl, rfl⟩) | (go_at_call 17; refine (canon_any _ (by assumption) (by assumption) _).mono ?_; rintro e w' ⟨rfl, rfl⟩))
    go_ret
    exact ⟨rfl, rfl⟩
  · clear hx
    go_enter Try.func27, Try.ntmps27
    go_wp2_with (first | (go_at_call 20; refine (nan_any _ (by assumption) (by assumption) _).mono ?_; rintro e w' ⟨rfl, rfl⟩) | (go_at_call 21; refine (inf_any _ (by assumption) (by assumption) _).mono ?_; rintro e w' ⟨rfl, rfl⟩) | (go_at_call 17; refine (canon_any _ (by assumption) (by assumption) _).mono ?_; rintro e w' ⟨rfl, rfl⟩))
    go_ret
    exact ⟨rfl, rfl⟩

theorem sig_cut (a : Int) (h0 : 0 ≤ a) (h1 : a < 4294967296) : Flt.sig a = (Flt.cutF (Flt.mg a) : Int) ∧ Flt.expo a = (Flt.cutE (Flt.mg a) : Int) - 150 := by
  unfold Flt.sig Flt.expo Flt.cutF Flt.cutE Flt.mg
  by_cases h : a / 8388608 % 256 = 0
  · rw [if_pos h, if_pos h, if_pos (by omega), if_pos (by omega)]; omega
  · rw [if_neg h, if_neg h, if_neg (by omega), if_neg (by omega)]; omega

set_option maxRecDepth 100000 in
set_option maxHeartbeats 1000000 in
theorem ctoInt_pos (a ex s H : Int) (neg : Bool) (h0 : 0 ≤ a) (h1 : a < 4294967296) (nn : Flt.isNaN a = false) (hs : ∀ w, Calls Try.prog 38 #[.int .u32 a] w fun e w' => e = .returned (.agg #[.bool neg, .int .i64 ex, .int .u64 s]) ∧ Below w.heap.size w w')
    (e0 : 0 < ex) (e1 : ex < 40) (hW : IntKind.u64.wrap (s * 2 ^ ex.toNat) = H) (H0 : 0 ≤ H) (H1 : H < 9223372036854775808) (w : World) :
    Calls Try.prog 19 #[.int .u32 a] w fun e w' => e = .returned (.int .i64 (if neg = true then -H else H)) ∧ Below w.heap.size w w' := by
  have HS := hide hs
  clear hs
  cases neg
  all_goals
    go_enter Try.func19, Try.ntmps19
    go_wp2_with fail
    refine (unhide HS _).mono ?_
    rintro e w1 ⟨rfl, hb1⟩
    go_wp2_with (first | (go_at_call 20; refine (nan_any _ (by assumption) (by assumption) _).mono ?_; rintro e w' ⟨rfl, rfl⟩))
    go_quiet (fail)
    go_wp2_with fail
    go_ret
    exact ⟨rfl, bl_drewN (bl_tr hb1 ((Below.refl _ _).alloc (Nat.le_refl _) _)) _⟩
set_option maxRecDepth 100000 in
set_option maxHeartbeats 1000000 in
theorem ctoInt_zero (a s : Int) (neg : Bool) (h0 : 0 ≤ a) (h1 : a < 4294967296) (nn : Flt.isNaN a = false) (hs : ∀ w, Calls Try.prog 38 #[.int .u32 a] w fun e w' => e = .returned (.agg #[.bool neg, .int .i64 0, .int .u64 s]) ∧ Below w.heap.size w w')
    (H0 : 0 ≤ s) (H1 : s < 9223372036854775808) (w : World) :
    Calls Try.prog 19 #[.int .u32 a] w fun e w' => e = .returned (.int .i64 (if neg = true then -s else s)) ∧ Below w.heap.size w w' := by
  have HS := hide hs
  clear hs
  cases neg
  all_goals
    go_enter Try.func19, Try.ntmps19
    go_wp2_with fail
    refine (unhide HS _).mono ?_
    rintro e w1 ⟨rfl, hb1⟩
    go_wp2_with (first | (go_at_call 20; refine (nan_any _ (by assumption) (by assumption) _).mono ?_; rintro e w' ⟨rfl, rfl⟩))
    go_quiet (fail)
    go_wp2_with fail
    go_ret
    exact ⟨rfl, bl_drewN (bl_tr hb1 ((Below.refl _ _).alloc (Nat.le_refl _) _)) _⟩
set_option maxRecDepth 100000 in
set_option maxHeartbeats 1000000 in
theorem ctoInt_neg (a ex s H : Int) (neg : Bool) (h0 : 0 ≤ a) (h1 : a < 4294967296) (nn : Flt.isNaN a = false) (hs : ∀ w, Calls Try.prog 38 #[.int .u32 a] w fun e w' => e = .returned (.agg #[.bool neg, .int .i64 ex, .int .u64 s]) ∧ Below w.heap.size w w')
    (e0 : -200 ≤ ex) (e1 : ex < 0) (s0 : 0 ≤ s) (s1 : s < 9223372036854775808) (hr : Op.shift .shr .u64 s .i64 (-ex) = pure (.int .u64 H)) (H0 : 0 ≤ H) (H1 : H < 9223372036854775808) (w : World) :
    Calls Try.prog 19 #[.int .u32 a] w fun e w' => e = .returned (.int .i64 (if neg = true then -H else H)) ∧ Below w.heap.size w w' := by
  have HS := hide hs
  clear hs
  cases neg
  all_goals
    go_enter Try.func19, Try.ntmps19
    go_wp2_with fail
    refine (unhide HS _).mono ?_
    rintro e w1 ⟨rfl, hb1⟩
    go_wp2_with (first | (go_at_call 20; refine (nan_any _ (by assumption) (by assumption) _).mono ?_; rintro e w' ⟨rfl, rfl⟩))
    go_quiet (fail)
    go_wp2_with fail
    go_ret
    exact ⟨rfl, bl_drewN (bl_tr hb1 ((Below.refl _ _).alloc (Nat.le_refl _) _)) _⟩
set_option maxRecDepth 100000 in
set_option maxHeartbeats 1000000 in
theorem ctoInt_great (a ex s : Int) (neg : Bool) (h0 : 0 ≤ a) (h1 : a < 4294967296) (hs : ∀ w, Calls Try.prog 38 #[.int .u32 a] w fun e w' => e = .returned (.agg #[.bool neg, .int .i64 ex, .int .u64 s]) ∧ Below w.heap.size w w')
    (hx : Flt.isNaN a = true ∨ 40 ≤ ex) (w : World) :
    Calls Try.prog 19 #[.int .u32 a] w fun e w' => e = .returned (.int .i64 (if Flt.isNaN a = true then 0 else if neg = true then -9223372036854775808 else 9223372036854775807)) ∧ Below w.heap.size w w' := by
  have HS := hide hs
  clear hs
  cases hn : Flt.isNaN a
  · have he : 40 ≤ ex := by rcases hx with h | h; (rw [hn] at h; cases h); exact h
    clear hx
    cases neg
    all_goals
      go_enter Try.func19, Try.ntmps19
      go_wp2_with fail
      refine (unhide HS _).mono ?_
      rintro e w1 ⟨rfl, hb1⟩
      go_wp2_with (first | (go_at_call 20; refine (nan_any _ (by assumption) (by assumption) _).mono ?_; rintro e w' ⟨rfl, rfl⟩))
      go_ret
      exact ⟨rfl, bl_tr hb1 ((Below.refl _ _).alloc (Nat.le_refl _) _)⟩
  · clear hx
    go_enter Try.func19, Try.ntmps19
    go_wp2_with fail
    refine (unhide HS _).mono ?_
    rintro e w1 ⟨rfl, hb1⟩
    go_wp2_with (first | (go_at_call 20; refine (nan_any _ (by assumption) (by assumption) _).mono ?_; rintro e w' ⟨rfl, rfl⟩))
    go_ret
    exact ⟨rfl, bl_tr hb1 ((Below.refl _ _).alloc (Nat.le_refl _) _)⟩

theorem ctoInt_any (a : Int) (h0 : 0 ≤ a) (h1 : a < 4294967296) (w : World) :
    Calls Try.prog 19 #[.int .u32 a] w fun e w' => e = .returned (.int .i64 (Flt.toIntV a)) ∧ Below w.heap.size w w' := by
  obtain ⟨c1, c2⟩ := sig_cut a h0 h1
  have hm := Flt.mg_lt a
  have hE : Flt.cutE (Flt.mg a) = 1 ∧ Flt.mg a / 8388608 = 0 ∨ Flt.cutE (Flt.mg a) = Flt.mg a / 8388608 ∧ Flt.mg a / 8388608 ≠ 0 := by
    unfold Flt.cutE; split
    · rename_i h; exact .inl ⟨rfl, h⟩
    · rename_i h; exact .inr ⟨rfl, h⟩
  have hs := fun w => csplit_any a h0 h1 w
  obtain ⟨s0, s1⟩ := Flt.sig_range a
  by_cases hx : Flt.isNaN a = true ∨ 40 ≤ Flt.expo a
  · have := ctoInt_great a _ _ _ h0 h1 hs hx w
    have e : Flt.toIntV a = (if Flt.isNaN a = true then 0 else if Flt.sgn a = true then -9223372036854775808 else 9223372036854775807) := by
      unfold Flt.toIntV
      split
      · rfl
      · rename_i hn
        have h40 : 40 ≤ Flt.expo a := by rcases hx with h | h; (exact absurd h hn); exact h
        rw [if_pos (by omega)]
    rw [e]; exact this
  · have nn : Flt.isNaN a = false := by cases h : Flt.isNaN a <;> simp_all
    have hlt : Flt.expo a < 40 := by
      rcases Int.lt_or_le (Flt.expo a) 40 with h | h
      · exact h
      · exact absurd (.inr h) hx
    have e : Flt.toIntV a = (if Flt.sgn a = true then -((Flt.A (Flt.mg a) / 2 ^ 149 : Nat) : Int) else ((Flt.A (Flt.mg a) / 2 ^ 149 : Nat) : Int)) := by
      unfold Flt.toIntV
      rw [nn, if_neg (by simp), if_neg (by omega)]
    have hcl := Flt.cut_lt (Flt.mg a) (by omega)
    rw [e]
    rw [Flt.A_cut] at hcl ⊢
    have hF := Flt.cutF_lt (Flt.mg a)
    by_cases hp : 0 ≤ Flt.expo a
    · rw [Flt.cut_up _ _ (by omega)] at hcl ⊢
      by_cases hz : Flt.expo a = 0
      · rw [hz] at hs
        have hE0 : Flt.cutE (Flt.mg a) - 150 = 0 := by omega
        rw [hE0, Nat.pow_zero, Nat.mul_one, ← c1]
        exact ctoInt_zero a _ _ h0 h1 nn hs s0 (by omega) w
      · have hc : ((Flt.cutF (Flt.mg a) * 2 ^ (Flt.cutE (Flt.mg a) - 150) : Nat) : Int) = Flt.sig a * 2 ^ (Flt.expo a).toNat := by
          rw [c1, Int.natCast_mul, Flt.pow_cast, show (Flt.expo a).toNat = Flt.cutE (Flt.mg a) - 150 by omega]
        refine ctoInt_pos a _ _ _ _ h0 h1 nn hs (by omega) hlt ?_ (Int.natCast_nonneg _) (by omega) w
        rw [← hc, wrap_u64_in _ (Int.natCast_nonneg _) (by omega)]
    · rw [Flt.cut_down _ _ (by omega) (by omega)] at hcl ⊢
      refine ctoInt_neg a _ _ _ _ h0 h1 nn hs (by omega) (by omega) s0 (by omega) ?_ (Int.natCast_nonneg _) (by omega) w
      rw [shr_any _ _ s0 (by omega) (by omega), Flt.div_cast, c1, show (-Flt.expo a).toNat = 150 - Flt.cutE (Flt.mg a) by omega]
end Go.Proofs.Ytkbniebahledmaa
