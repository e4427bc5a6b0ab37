/-
  Walks of package soft's rounding: what Round returns, for every input.
-/
import Derived.Test.YtkbniebahledmaaWkA
namespace Go.Proofs.Ytkbniebahledmaa
open Go.RowKit

theorem len_close (x y k : Int) (K : Nat) (h0 : 0 ≤ x) (hK : K < 64) (hk : k = K) (hy : y = x / (2 ^ K : Nat)) (hy1 : 1 ≤ y) (hy2 : y < 256) :
    wrap64 (k + wrap64 (bitLen y.toNat)) = (bitLen x.toNat : Int) := by
  have hb := bitLen_le8 y.toNat (by omega)
  have hx : x.toNat / 2 ^ K = y.toNat := by
    obtain ⟨n, rfl⟩ := Int.eq_ofNat_of_zero_le h0
    rw [hy, ← Int.natCast_ediv, Int.toNat_natCast, Int.toNat_natCast]
  have hs := bitLen_shift x.toNat K (by rw [hx]; omega)
  rw [hx] at hs
  have hx64 : bitLen x.toNat = K + bitLen y.toNat := hs
  rw [IntWalk.wrap64_in (bitLen y.toNat) (by omega), IntWalk.wrap64_in _ (by omega), hx64]; omega
theorem len_close0 (x : Int) (h0 : 0 ≤ x) (h : x < 256) : wrap64 (wrap64 (bitLen x.toNat)) = (bitLen x.toNat : Int) := by
  have hb := bitLen_le8 x.toNat (by omega)
  rw [IntWalk.wrap64_in (bitLen x.toNat) (by omega), IntWalk.wrap64_in _ (by omega)]

set_option maxRecDepth 100000 in
set_option maxHeartbeats 400000 in
theorem len_any (x : Int) (h0 : 0 ≤ x) (h1 : x < 18446744073709551616) (w : World) :
    Calls Try.prog 65 #[.int .u64 x] w fun e w' => e = .returned (.int .i64 (bitLen x.toNat)) ∧ w' = w := by
  go_enter Try.func65, Try.ntmps65
  go_wp2
  all_goals go_ret
  all_goals refine ⟨ret_int ?_, rfl⟩
  all_goals simp only [len8tab_get]
  all_goals first
    | (refine len_close x _ _ 56 h0 (by decide) ?_ ?_ ?_ ?_ <;> omega)
    | (refine len_close x _ _ 48 h0 (by decide) ?_ ?_ ?_ ?_ <;> omega)
    | (refine len_close x _ _ 40 h0 (by decide) ?_ ?_ ?_ ?_ <;> omega)
    | (refine len_close x _ _ 32 h0 (by decide) ?_ ?_ ?_ ?_ <;> omega)
    | (refine len_close x _ _ 24 h0 (by decide) ?_ ?_ ?_ ?_ <;> omega)
    | (refine len_close x _ _ 16 h0 (by decide) ?_ ?_ ?_ ?_ <;> omega)
    | (refine len_close x _ _ 8 h0 (by decide) ?_ ?_ ?_ ?_ <;> omega)
    | (refine len_close0 x h0 ?_ <;> omega)

theorem len_le (x : Int) (h1 : x < 18446744073709551616) : bitLen x.toNat ≤ 64 := by
  unfold bitLen
  split
  · omega
  · rename_i h
    have := (Nat.log2_lt h).2 (show x.toNat < 2 ^ 64 by omega)
    omega

theorem lead_any (x : Int) (h0 : 0 ≤ x) (h1 : x < 18446744073709551616) (w : World) :
    Calls Try.prog 50 #[.int .u64 x] w fun e w' => e = .returned (.int .i64 (Flt.lz x)) ∧ w' = w := by
  have hb := len_le x h1
  go_enter Try.func50, Try.ntmps50
  go_wp2_with (go_at_call 65; refine (len_any _ h0 h1 _).mono ?_; rintro e w' ⟨rfl, rfl⟩)
  go_ret
  exact ⟨ret_int rfl, rfl⟩

set_option maxHeartbeats 400000 in
theorem goesOn_any (way : Int) (neg more : Bool) (s drop : Int) (h0 : 0 ≤ s) (h1 : s < 18446744073709551616) (d0 : 40 ≤ drop) (d1 : drop < 3000) (w : World) :
    Calls Try.prog 64 #[.int .i64 way, .bool neg, .int .u64 s, .int .i64 drop, .bool more] w fun e w' => e = .returned (.bool (Flt.goesOn way neg s drop more)) ∧ w' = w := by
  by_cases hd : drop ≤ 64
  · have hR : IntKind.u64.wrap (s * 2 ^ (64 - drop).toNat) = Flt.restOf s drop := by
      rw [IntKind.wrap_u64]; simp [Flt.restOf, hd]
    have hb : 0 ≤ s / 2 ^ drop.toNat ∧ s / 2 ^ drop.toNat < 18446744073709551616 := by
      refine ⟨Int.ediv_nonneg h0 (Int.pow_nonneg (by decide)), ?_⟩
      have := Int.ediv_le_self (2 ^ drop.toNat) h0
      omega
    have ha := Flt.and1 _ hb.1 hb.2
    go_enter Try.func64, Try.ntmps64
    go_wp2
    all_goals go_ret
    all_goals refine ⟨ret_bool ?_, rfl⟩
    all_goals clear hR ha hb
    all_goals (cases more <;> cases neg <;> simp_all [Flt.goesOn])
    all_goals (rw [Bool.eq_iff_iff]; simp)
  · have hR : Flt.restOf s drop = 0 := by simp [Flt.restOf, hd]
    go_enter Try.func64, Try.ntmps64
    go_wp2
    all_goals go_ret
    all_goals refine ⟨ret_bool ?_, rfl⟩
    all_goals (have hd' : ¬ drop ≤ 64 := by omega)
    all_goals (simp_all [Flt.goesOn])

theorem beyond_any (way : Int) (neg : Bool) (w : World) :
    Calls Try.prog 63 #[.int .i64 way, .bool neg] w fun e w' => e = .returned (.int .u32 (Flt.beyond way neg)) ∧ w' = w := by
  go_enter Try.func63, Try.ntmps63
  go_wp2
  all_goals go_ret
  all_goals refine ⟨ret_int ?_, rfl⟩
  all_goals (simp_all [Flt.beyond])
end Go.Proofs.Ytkbniebahledmaa
