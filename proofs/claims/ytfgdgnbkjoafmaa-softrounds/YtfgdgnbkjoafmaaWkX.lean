/-
  The document's Round is the code's.
-/
import Derived.Test.YtfgdgnbkjoafmaaWkW
namespace Go.Proofs.Ytfgdgnbkjoafmaa
open Go.RowKit
set_option linter.unusedVariables false

set_option maxRecDepth 100000 in
set_option maxHeartbeats 1000000 in
theorem rround_none (way : Int) (neg : Bool) (exp : Int) (k : Nat) (hk : k = 400) (w : World) :
    Calls Try.prog 11 #[.int .i64 way, .bool neg, .int .i64 exp, .int .u64 0, .bool true] w fun e w' => (∃ r : Nat, e = .returned (.int .u32 (Flt.signBit neg + (r : Int))) ∧ Flt.RN way neg ((1 : Int).toNat) ((1 : Int).toNat * 2 ^ k) r) ∧ Below w.heap.size w w' := by
  rcases (show exp < -700 ∨ (-700 ≤ exp ∧ exp ≤ 300) ∨ 300 < exp by omega) with he | ⟨he, he2⟩ | he
  all_goals
    go_enter Try.func11, Try.ntmps11
    go_wp2_with fail
    refine (of_any 1 (by omega) (by omega) _).mono ?_
    rintro e x1 ⟨⟨v1, rfl, hv1⟩, hb1⟩
    go_wp2_with fail
    refine (of_any 1 (by omega) (by omega) _).mono ?_
    rintro e x2 ⟨⟨v2, rfl, hv2⟩, hb2⟩
    have hbel2 := bl_tr hb1 hb2
    go_wp2_with fail
    rw [show (400 : Int) = ((k : Nat) : Int) by omega]
    refine (twice_any v2 _ 2 k (by omega) (by omega) _ hv2).mono ?_
    rintro e x3 ⟨⟨v3, rfl, hv3⟩, hb3⟩
    have hbel3 := bl_tr hbel2 hb3
    go_wp2_with fail
    refine (rounded_any way neg v1 v3 _ _ 40 (by omega) (pow_pos_one _) _ ((hv1.below (bl_tr hb2 hb3)).le (by omega)) (hv3.le (by omega))).mono ?_
    rintro e x4 ⟨⟨r, rfl, hr⟩, hb4⟩
    go_wp2_with fail
    go_ret
    exact ⟨⟨r, rfl, hr⟩, bl_tr hbel3 hb4⟩

theorem same_rn {way : Int} {neg : Bool} {p q : Nat} {x : Int} (hq : 0 < q) (h : ∃ r : Nat, x = Flt.signBit neg + (r : Int) ∧ Flt.RN way neg p q r) {r : Nat} (hr : Flt.RN way neg p q r) : Flt.signBit neg + (r : Int) = x := by
  obtain ⟨r', e, h'⟩ := h
  rw [e, Flt.RN_one hq hr h']

/-- The document's Round is the code's. -/
theorem rround_any (way : Int) (neg : Bool) (exp s : Int) (more : Bool) (h0 : 0 ≤ s) (h1 : s < 18446744073709551616) (w : World) :
    Calls Try.prog 11 #[.int .i64 way, .bool neg, .int .i64 exp, .int .u64 s, .bool more] w fun e w' => e = .returned (.int .u32 (Flt.rnd way neg exp s more)) ∧ Below w.heap.size w w' := by
  obtain ⟨k5, hk5⟩ : ∃ k : Nat, k = 551 := ⟨551, rfl⟩
  obtain ⟨k4, hk4⟩ : ∃ k : Nat, k = 449 := ⟨449, rfl⟩
  obtain ⟨k0, hk0⟩ : ∃ k : Nat, k = 400 := ⟨400, rfl⟩
  by_cases hs : s = 0
  · subst hs
    cases more
    · have hr : Flt.rnd way neg exp 0 false = Flt.signBit neg := by simp [Flt.rnd]
      have z : ∀ k q r : Nat, 0 < q → Flt.RN way neg ((0 : Int).toNat * 2 ^ k) q r → Flt.signBit neg + (r : Int) = Flt.signBit neg := by
        intro k q r hq h
        have e : (0 : Int).toNat * 2 ^ k = 0 := by simp
        rw [e] at h
        rw [Flt.RN_one hq h (Flt.RN_zero way neg q hq)]; simp
      have z2 : ∀ q r : Nat, 0 < q → Flt.RN way neg ((0 : Int).toNat) q r → Flt.signBit neg + (r : Int) = Flt.signBit neg := by
        intro q r hq h
        rw [Flt.RN_one hq h (Flt.RN_zero way neg q hq)]; simp
      rw [hr]
      rcases (show exp < -700 ∨ (-700 ≤ exp ∧ exp < -149) ∨ (-149 ≤ exp ∧ exp ≤ 300) ∨ 300 < exp by omega) with he | ⟨he, he2⟩ | ⟨he, he2⟩ | he
      · refine (rround_x_low way neg exp 0 k5 h0 h1 he hk5 w).mono ?_
        rintro e w' ⟨⟨r, rfl, hr⟩, hb⟩
        exact ⟨ret_int (z2 _ _ (pow_pos_one _) hr), hb⟩
      · refine (rround_x_down way neg exp 0 (-149 - exp).toNat h0 h1 he he2 (by omega) w).mono ?_
        rintro e w' ⟨⟨r, rfl, hr⟩, hb⟩
        exact ⟨ret_int (z2 _ _ (pow_pos_one _) hr), hb⟩
      · refine (rround_x_up way neg exp 0 (exp + 149).toNat h0 h1 he he2 (by omega) w).mono ?_
        rintro e w' ⟨⟨r, rfl, hr⟩, hb⟩
        exact ⟨ret_int (z _ _ _ (by decide) hr), hb⟩
      · refine (rround_x_high way neg exp 0 k4 h0 h1 he hk4 w).mono ?_
        rintro e w' ⟨⟨r, rfl, hr⟩, hb⟩
        exact ⟨ret_int (z _ _ _ (by decide) hr), hb⟩
    · refine (rround_none way neg exp k0 hk0 w).mono ?_
      rintro e w' ⟨⟨r, rfl, hr⟩, hb⟩
      exact ⟨ret_int (same_rn (pow_pos_one k0) (Flt.rnd_none way neg exp k0 (by omega)) hr), hb⟩
  · obtain ⟨n, rfl⟩ := Int.eq_ofNat_of_zero_le h0
    have n1 : 1 ≤ n := by omega
    have n2 : n < 18446744073709551616 := by omega
    rcases (show exp < -700 ∨ (-700 ≤ exp ∧ exp < -149) ∨ (-149 ≤ exp ∧ exp ≤ 300) ∨ 300 < exp by omega) with he | ⟨he, he2⟩ | ⟨he, he2⟩ | he
    · rw [Flt.rnd_low way neg exp n more n1 n2 (by omega), show (-700 : Int) = -149 - (k5 : Int) by omega]
      cases more
      · refine (rround_x_low way neg exp n k5 h0 h1 he hk5 w).mono ?_
        rintro e w' ⟨⟨r, rfl, hr⟩, hb⟩
        exact ⟨ret_int (same_rn (pow_pos_one _) (Flt.rnd_down way neg k5 n n1 n2 (by omega)) hr), hb⟩
      · refine (rround_m_low way neg exp n k5 h0 h1 (by omega) he hk5 w).mono ?_
        rintro e w' ⟨⟨r, rfl, hr⟩, hb⟩
        exact ⟨ret_int (same_rn (Nat.mul_pos (pow_pos_one _) (Nat.two_pow_pos _)) (Flt.rnd_down_more way neg k5 n n1 n2 (by omega)) hr), hb⟩
    · obtain ⟨k, hk⟩ : ∃ k : Nat, (k : Int) = -149 - exp := ⟨(-149 - exp).toNat, by omega⟩
      have hexp : exp = -149 - (k : Int) := by omega
      cases more
      · refine (rround_x_down way neg exp n k h0 h1 he he2 hk w).mono ?_
        rintro e w' ⟨⟨r, rfl, hr⟩, hb⟩
        rw [hexp]
        exact ⟨ret_int (same_rn (pow_pos_one _) (Flt.rnd_down way neg k n n1 n2 (by omega)) hr), hb⟩
      · refine (rround_m_down way neg exp n k h0 h1 (by omega) he he2 hk w).mono ?_
        rintro e w' ⟨⟨r, rfl, hr⟩, hb⟩
        rw [hexp]
        exact ⟨ret_int (same_rn (Nat.mul_pos (pow_pos_one _) (Nat.two_pow_pos _)) (Flt.rnd_down_more way neg k n n1 n2 (by omega)) hr), hb⟩
    · obtain ⟨k, hk⟩ : ∃ k : Nat, (k : Int) = exp + 149 := ⟨(exp + 149).toNat, by omega⟩
      have hexp : exp = (k : Int) - 149 := by omega
      cases more
      · refine (rround_x_up way neg exp n k h0 h1 he he2 hk w).mono ?_
        rintro e w' ⟨⟨r, rfl, hr⟩, hb⟩
        rw [hexp]
        exact ⟨ret_int (same_rn (by decide) (Flt.rnd_up way neg k n n1 n2 (by omega)) hr), hb⟩
      · refine (rround_m_up way neg exp n k h0 h1 (by omega) he he2 hk w).mono ?_
        rintro e w' ⟨⟨r, rfl, hr⟩, hb⟩
        rw [hexp]
        exact ⟨ret_int (same_rn (pow_pos_one _) (Flt.rnd_up_more way neg k n n1 n2 (by omega)) hr), hb⟩
    · rw [Flt.rnd_high way neg exp n more n1 n2 (by omega), show (300 : Int) = (k4 : Int) - 149 by omega]
      cases more
      · refine (rround_x_high way neg exp n k4 h0 h1 he hk4 w).mono ?_
        rintro e w' ⟨⟨r, rfl, hr⟩, hb⟩
        exact ⟨ret_int (same_rn (by decide) (Flt.rnd_up way neg k4 n n1 n2 (by omega)) hr), hb⟩
      · refine (rround_m_high way neg exp n k4 h0 h1 (by omega) he hk4 w).mono ?_
        rintro e w' ⟨⟨r, rfl, hr⟩, hb⟩
        exact ⟨ret_int (same_rn (pow_pos_one _) (Flt.rnd_up_more way neg k4 n n1 n2 (by omega)) hr), hb⟩
end Go.Proofs.Ytfgdgnbkjoafmaa
