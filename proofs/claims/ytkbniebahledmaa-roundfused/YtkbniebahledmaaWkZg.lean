/-
  Walks of package round's Floor, Ceil and Even.
-/
import Derived.Test.YtkbniebahledmaaWkZb
import Derived.Test.YtkbniebahledmaaFltO
namespace Go.Proofs.Ytkbniebahledmaa
open Go.RowKit
set_option linter.unusedVariables false

theorem cgo_any (way : Int) (neg : Bool) (n rest half : Int) (n0 : 0 ≤ n) (n1 : n < 18446744073709551616) (r0 : 0 ≤ rest) (r1 : rest < 18446744073709551616) (w : World) :
    Calls Try.prog 54 #[.int .i64 way, .bool neg, .int .u64 n, .int .u64 rest, .int .u64 half] w fun e w' => e = .returned (.bool (Flt.cgo way neg n rest half)) ∧ w' = w := by
  have ha := Flt.and1 _ n0 n1
  go_enter Try.func54, Try.ntmps54
  go_wp2
  all_goals go_ret
  all_goals refine ⟨ret_bool ?_, rfl⟩
  all_goals clear ha
  all_goals (cases neg <;> simp_all [Flt.cgo])
  all_goals (rw [Bool.eq_iff_iff]; simp)
  all_goals omega

set_option maxRecDepth 100000 in
set_option maxHeartbeats 1000000 in
theorem cwhole_near (way a ex s n G rest : Int) (neg b : Bool) (h0 : 0 ≤ a) (h1 : a < 4294967296) (nn : Flt.isNaN a = false) (hs : ∀ w, Calls Try.prog 38 #[.int .u32 a] w fun e w' => e = .returned (.agg #[.bool neg, .int .i64 ex, .int .u64 s]) ∧ Below w.heap.size w w')
    (e0 : -62 < ex) (e1 : ex < 0) (s0 : 0 ≤ s) (s1 : s < 16777216) (hn : s / 2 ^ (-ex).toNat = n) (hg : IntKind.u64.wrap (n * 2 ^ (-ex).toNat) = G) (hr : s - G = rest)
    (n0 : 0 ≤ n) (n1 : n < 16777216) (g0 : 0 ≤ G) (g1 : G ≤ s) (hgo : Flt.cgo way neg n rest (IntKind.u64.wrap (2 ^ ((-ex).toNat - 1))) = b) (w : World) :
    Calls Try.prog 28 #[.int .i64 way, .int .u32 a] w fun e w' => e = .returned (.int .u32 (Flt.rnd 0 neg 0 (n + (if b = true then 1 else 0)) false)) ∧ Below w.heap.size w w' := by
  have HS := hide hs
  have HG := hide (fun w => cgo_any way neg n rest (IntKind.u64.wrap (2 ^ ((-ex).toNat - 1))) n0 (by omega) (by omega) (by omega) w)
  rw [hgo] at HG
  clear hs hgo
  cases b
  all_goals
    go_enter Try.func28, Try.ntmps28
    go_wp2_with (first | (go_at_call 20; refine (nan_any _ (by assumption) (by assumption) _).mono ?_; rintro e w' ⟨rfl, rfl⟩))
    refine (unhide HS _).mono ?_
    rintro e w1 ⟨rfl, hb1⟩
    go_wp2_with fail
    go_quiet ((go_at_call 54; exact Calls.quiet_of_same (unhide HG _)))
    go_wp2_with fail
    refine (round_any _ _ _ _ _ (by omega) (by omega) _).mono ?_
    rintro e w2 ⟨rfl, rfl⟩
    go_wp2_with fail
    go_ret
    refine ⟨ret_int (by simp), bl_drewN (bl_tr hb1 ((Below.refl _ _).alloc (Nat.le_refl _) _)) _⟩
set_option maxRecDepth 100000 in
set_option maxHeartbeats 1000000 in
theorem cwhole_far (way a ex s : Int) (neg b : Bool) (h0 : 0 ≤ a) (h1 : a < 4294967296) (nn : Flt.isNaN a = false) (hs : ∀ w, Calls Try.prog 38 #[.int .u32 a] w fun e w' => e = .returned (.agg #[.bool neg, .int .i64 ex, .int .u64 s]) ∧ Below w.heap.size w w')
    (e0 : -200 ≤ ex) (e1 : ex < -62) (s0 : 0 ≤ s) (s1 : s < 16777216) (hgo : Flt.cgo way neg 0 s 2305843009213693952 = b) (w : World) :
    Calls Try.prog 28 #[.int .i64 way, .int .u32 a] w fun e w' => e = .returned (.int .u32 (Flt.rnd 0 neg 0 (0 + (if b = true then 1 else 0)) false)) ∧ Below w.heap.size w w' := by
  have HS := hide hs
  have HG := hide (fun w => cgo_any way neg 0 s 2305843009213693952 (by omega) (by omega) (by omega) (by omega) w)
  rw [hgo] at HG
  have hz : s / 4611686018427387904 = 0 := by omega
  clear hs hgo
  cases b
  all_goals
    go_enter Try.func28, Try.ntmps28
    go_wp2_with (first | (go_at_call 20; refine (nan_any _ (by assumption) (by assumption) _).mono ?_; rintro e w' ⟨rfl, rfl⟩))
    refine (unhide HS _).mono ?_
    rintro e w1 ⟨rfl, hb1⟩
    go_wp2_with fail
    go_quiet ((go_at_call 54; exact Calls.quiet_of_same (unhide HG _)))
    go_wp2_with fail
    refine (round_any _ _ _ _ _ (by omega) (by omega) _).mono ?_
    rintro e w2 ⟨rfl, rfl⟩
    go_wp2_with fail
    go_ret
    refine ⟨ret_int (by simp), bl_drewN (bl_tr hb1 ((Below.refl _ _).alloc (Nat.le_refl _) _)) _⟩
set_option maxRecDepth 100000 in
set_option maxHeartbeats 1000000 in
theorem cwhole_mid (way a s : Int) (neg b : Bool) (h0 : 0 ≤ a) (h1 : a < 4294967296) (nn : Flt.isNaN a = false) (hs : ∀ w, Calls Try.prog 38 #[.int .u32 a] w fun e w' => e = .returned (.agg #[.bool neg, .int .i64 (-62), .int .u64 s]) ∧ Below w.heap.size w w')
    (s0 : 0 ≤ s) (s1 : s < 16777216) (hgo : Flt.cgo way neg 0 s 2305843009213693952 = b) (w : World) :
    Calls Try.prog 28 #[.int .i64 way, .int .u32 a] w fun e w' => e = .returned (.int .u32 (Flt.rnd 0 neg 0 (0 + (if b = true then 1 else 0)) false)) ∧ Below w.heap.size w w' := by
  have HS := hide hs
  have HG := hide (fun w => cgo_any way neg 0 s 2305843009213693952 (by omega) (by omega) (by omega) (by omega) w)
  rw [hgo] at HG
  have hz : s / 4611686018427387904 = 0 := by omega
  clear hs hgo
  cases b
  all_goals
    go_enter Try.func28, Try.ntmps28
    go_wp2_with (first | (go_at_call 20; refine (nan_any _ (by assumption) (by assumption) _).mono ?_; rintro e w' ⟨rfl, rfl⟩))
    refine (unhide HS _).mono ?_
    rintro e w1 ⟨rfl, hb1⟩
    go_wp2_with fail
    go_quiet ((go_at_call 54; exact Calls.quiet_of_same (unhide HG _)))
    go_wp2_with fail
    refine (round_any _ _ _ _ _ (by omega) (by omega) _).mono ?_
    rintro e w2 ⟨rfl, rfl⟩
    go_wp2_with fail
    go_ret
    refine ⟨ret_int (by simp), bl_drewN (bl_tr hb1 ((Below.refl _ _).alloc (Nat.le_refl _) _)) _⟩
set_option maxRecDepth 100000 in
set_option maxHeartbeats 1000000 in
theorem cwhole_x (way a ex s : Int) (neg : Bool) (h0 : 0 ≤ a) (h1 : a < 4294967296) (hs : ∀ w, Calls Try.prog 38 #[.int .u32 a] w fun e w' => e = .returned (.agg #[.bool neg, .int .i64 ex, .int .u64 s]) ∧ Below w.heap.size w w')
    (hx : Flt.isNaN a = true ∨ 0 ≤ ex) (w : World) :
    Calls Try.prog 28 #[.int .i64 way, .int .u32 a] w fun e w' => e = .returned (.int .u32 (if Flt.isNaN a = true then 2143289344 else a)) ∧ Below w.heap.size w w' := by
  have HS := hide hs
  clear hs
  cases hn : Flt.isNaN a
  · have he : 0 ≤ ex := by rcases hx with h | h; (rw [hn] at h; cases h); exact h
    clear hx
    go_enter Try.func28, Try.ntmps28
    go_wp2_with (first | (go_at_call 20; refine (nan_any _ (by assumption) (by assumption) _).mono ?_; rintro e w' ⟨rfl, rfl⟩))
    refine (unhide HS _).mono ?_
    rintro e w1 ⟨rfl, hb1⟩
    go_wp2_with fail
    go_ret
    exact ⟨rfl, bl_tr hb1 ((Below.refl _ _).alloc (Nat.le_refl _) _)⟩
  · clear hx
    go_enter Try.func28, Try.ntmps28
    go_wp2_with (first | (go_at_call 20; refine (nan_any _ (by assumption) (by assumption) _).mono ?_; rintro e w' ⟨rfl, rfl⟩))
    go_ret
    exact ⟨rfl, Below.refl _ _⟩

theorem cwhole_any (way a : Int) (h0 : 0 ≤ a) (h1 : a < 4294967296) (w : World) :
    Calls Try.prog 28 #[.int .i64 way, .int .u32 a] w fun e w' => e = .returned (.int .u32 (Flt.wholeC way a)) ∧ Below w.heap.size w w' := by
  have hs := fun w => csplit_any a h0 h1 w
  obtain ⟨s0, s1⟩ := Flt.sig_range a
  obtain ⟨e0, e1⟩ := Flt.expo_range a
  by_cases hx : Flt.isNaN a = true ∨ 0 ≤ Flt.expo a
  · have := cwhole_x way a _ _ _ h0 h1 hs hx w
    have e : Flt.wholeC way a = (if Flt.isNaN a = true then 2143289344 else a) := by
      unfold Flt.wholeC
      split
      · rfl
      · rename_i hn
        rw [if_pos (by rcases hx with h | h; (exact absurd h hn); exact h)]
    rw [e]; exact this
  · have nn : Flt.isNaN a = false := by cases h : Flt.isNaN a <;> simp_all
    have hlt : Flt.expo a < 0 := by
      rcases Int.lt_or_le (Flt.expo a) 0 with h | h
      · exact h
      · exact absurd (.inr h) hx
    have e : Flt.wholeC way a = Flt.rnd 0 (Flt.sgn a) 0 (Flt.wholeN way a) false := by
      unfold Flt.wholeC
      rw [nn, if_neg (by simp), if_neg (by omega)]
    rw [e]
    unfold Flt.wholeN
    by_cases hd : -Flt.expo a < 62
    · have hdw : Flt.dropW a = -Flt.expo a := by unfold Flt.dropW; rw [if_pos hd]
      rw [hdw]
      have pp : (0 : Int) < 2 ^ (-Flt.expo a).toNat := Int.pow_pos (by decide)
      have q0 := Int.ediv_nonneg s0 (Int.le_of_lt pp)
      have q1 := Int.ediv_le_self (2 ^ (-Flt.expo a).toNat) s0
      have q2 := Int.ediv_mul_add_emod (Flt.sig a) (2 ^ (-Flt.expo a).toNat)
      have q3 := Int.emod_nonneg (Flt.sig a) (Int.ne_of_gt pp)
      have q4 := Int.mul_nonneg q0 (Int.le_of_lt pp)
      have hle : (2 : Int) ^ (-Flt.expo a - 1).toNat ≤ 2 ^ 61 := by
        rw [Flt.pow_cast, Flt.pow_cast]
        exact Int.ofNat_le.2 (Nat.pow_le_pow_right (by decide) (by omega))
      have h61 : (2 : Int) ^ 61 = 2305843009213693952 := by decide
      have hh : IntKind.u64.wrap (2 ^ ((-Flt.expo a).toNat - 1)) = 2 ^ (-Flt.expo a - 1).toNat := by
        rw [show (-Flt.expo a).toNat - 1 = (-Flt.expo a - 1).toNat by omega]
        exact wrap_u64_in _ (Int.pow_nonneg (by decide)) (by omega)
      rw [← hh]
      refine cwhole_near way a _ _ _ (Flt.sig a / 2 ^ (-Flt.expo a).toNat * 2 ^ (-Flt.expo a).toNat) _ _ _ h0 h1 nn hs (by omega) hlt s0 s1 rfl ?_ ?_ q0 (by omega) q4 (by omega) rfl w
      · exact wrap_u64_in _ q4 (by omega)
      · omega
    · have hdw : Flt.dropW a = 62 := by unfold Flt.dropW; rw [if_neg hd]
      rw [hdw]
      have h62 : (2 : Int) ^ (62 : Int).toNat = 4611686018427387904 := by decide
      have h61 : (2 : Int) ^ ((62 : Int) - 1).toNat = 2305843009213693952 := by decide
      have z1 : Flt.sig a / 4611686018427387904 = 0 := by omega
      have z2 : Flt.sig a % 4611686018427387904 = Flt.sig a := by omega
      rw [h62, h61, z1, z2]
      by_cases h6 : Flt.expo a = -62
      · rw [h6] at hs
        exact cwhole_mid way a _ _ _ h0 h1 nn hs s0 s1 rfl w
      · exact cwhole_far way a _ _ _ _ h0 h1 nn hs (by omega) (by omega) s0 s1 rfl w

theorem cfloor_any (a : Int) (h0 : 0 ≤ a) (h1 : a < 4294967296) (w : World) :
    Calls Try.prog 8 #[.int .u32 a] w fun e w' => e = .returned (.int .u32 (Flt.wholeC 2 a)) ∧ Below w.heap.size w w' := by
  go_enter Try.func8, Try.ntmps8
  go_wp2_with fail
  refine (cwhole_any 2 a h0 h1 _).mono ?_
  rintro e w1 ⟨rfl, hb1⟩
  go_wp2_with fail
  go_ret
  exact ⟨rfl, hb1⟩
theorem cceil_any (a : Int) (h0 : 0 ≤ a) (h1 : a < 4294967296) (w : World) :
    Calls Try.prog 10 #[.int .u32 a] w fun e w' => e = .returned (.int .u32 (Flt.wholeC 1 a)) ∧ Below w.heap.size w w' := by
  go_enter Try.func10, Try.ntmps10
  go_wp2_with fail
  refine (cwhole_any 1 a h0 h1 _).mono ?_
  rintro e w1 ⟨rfl, hb1⟩
  go_wp2_with fail
  go_ret
  exact ⟨rfl, hb1⟩
theorem ceven_any (a : Int) (h0 : 0 ≤ a) (h1 : a < 4294967296) (w : World) :
    Calls Try.prog 11 #[.int .u32 a] w fun e w' => e = .returned (.int .u32 (Flt.wholeC 0 a)) ∧ Below w.heap.size w w' := by
  go_enter Try.func11, Try.ntmps11
  go_wp2_with fail
  refine (cwhole_any 0 a h0 h1 _).mono ?_
  rintro e w1 ⟨rfl, hb1⟩
  go_wp2_with fail
  go_ret
  exact ⟨rfl, hb1⟩
end Go.Proofs.Ytkbniebahledmaa
