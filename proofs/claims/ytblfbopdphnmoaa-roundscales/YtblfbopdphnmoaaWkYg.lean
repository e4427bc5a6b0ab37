/-
  The document's powers of two and whole numbers of floats are what package round's functions come to.
-/
import Derived.Test.YtblfbopdphnmoaaWkYf
namespace Go.Proofs.Ytblfbopdphnmoaa
open Go.RowKit
set_option linter.unusedVariables false

set_option maxRecDepth 100000 in
set_option maxHeartbeats 1000000 in
theorem rscale_x (a k : Int) (h0 : 0 ≤ a) (h1 : a < 4294967296) (hx : Flt.isNaN a = true ∨ Flt.absF a = 2139095040 ∨ Flt.absF a = 0) (w : World) :
    Calls Try.prog 29 #[.int .u32 a, .int .i64 k] w fun e w' => e = .returned (.int .u32 (Flt.canon a)) ∧ w' = w := by
  unfold Flt.canon
  cases hn : Flt.isNaN a
  · rw [if_neg (by simp)]
    by_cases hi : Flt.absF a = 2139095040
    · have hi' : (Flt.absF a == 2139095040) = true := by simp [hi]
      clear hx hi
      go_enter Try.func29, Try.ntmps29
      go_wp2_with (first | (go_at_call 43; refine (risNone_any _ (by assumption) (by assumption) _).mono ?_; rintro e w' ⟨rfl, rfl⟩) | (go_at_call 42; refine (rabs_any _ (by assumption) (by assumption) _).mono ?_; rintro e w' ⟨rfl, rfl⟩))
      go_ret
      exact ⟨rfl, rfl⟩
    · have hi' : (Flt.absF a == 2139095040) = false := by simp [hi]
      have hz : (Flt.absF a == 0) = true := by
        rcases hx with h | h | h
        · rw [hn] at h; cases h
        · exact absurd h hi
        · simp [h]
      clear hx hi
      go_enter Try.func29, Try.ntmps29
      go_wp2_with (first | (go_at_call 43; refine (risNone_any _ (by assumption) (by assumption) _).mono ?_; rintro e w' ⟨rfl, rfl⟩) | (go_at_call 42; refine (rabs_any _ (by assumption) (by assumption) _).mono ?_; rintro e w' ⟨rfl, rfl⟩))
      go_ret
      exact ⟨rfl, rfl⟩
  · rw [if_pos rfl]
    clear hx
    go_enter Try.func29, Try.ntmps29
    go_wp2_with (first | (go_at_call 43; refine (risNone_any _ (by assumption) (by assumption) _).mono ?_; rintro e w' ⟨rfl, rfl⟩) | (go_at_call 42; refine (rabs_any _ (by assumption) (by assumption) _).mono ?_; rintro e w' ⟨rfl, rfl⟩))
    go_ret
    exact ⟨rfl, rfl⟩

theorem scale_up (neg : Bool) (e s j v : Nat) (E : Int) (h0 : 1 ≤ s) (h1 : s < 18446744073709551616) (he : e ≤ 253) (hj : j ≤ 700) (hE : E = (e : Int) - 149 + j) (hv : Flt.RN 0 neg (s * 2 ^ e * 2 ^ j) ((1 : Int).toNat) v) :
    Flt.rnd 0 neg E (s : Int) false = Flt.signBit neg + (v : Int) := by
  obtain ⟨r, r1, r2⟩ := Flt.rnd_exact 0 neg (e + j) s (s * 2 ^ e * 2 ^ j) h0 h1 (by omega) (by rw [Nat.pow_add, Nat.mul_assoc])
  have e1 : ((e + j : Nat) : Int) - 149 = E := by omega
  rw [e1] at r1
  rw [r1]
  have := Flt.RN_one (show 0 < ((1 : Int).toNat) by decide) hv r2
  rw [this]
theorem scale_down (neg : Bool) (e s j v : Nat) (E : Int) (h0 : 1 ≤ s) (h1 : s < 18446744073709551616) (he : e ≤ 253) (hj : j ≤ 700) (hE : E = (e : Int) - 149 - j) (hv : Flt.RN 0 neg (s * 2 ^ e) ((1 : Int).toNat * 2 ^ j) v) :
    Flt.rnd 0 neg E (s : Int) false = Flt.signBit neg + (v : Int) := by
  have o : ((1 : Int).toNat) = 1 := rfl
  rw [o, Nat.one_mul] at hv
  obtain ⟨r, r1, r2⟩ := Flt.rnd_RN 0 neg E s false (s * 2 ^ e) (2 ^ j) j e h0 h1 (by omega) (by omega) (Nat.two_pow_pos _) (by omega) (.inl ⟨rfl, by rw [Nat.mul_right_comm]⟩)
  rw [r1, Flt.RN_one (Nat.two_pow_pos _) hv r2]

theorem rscale_any (a k : Int) (h0 : 0 ≤ a) (h1 : a < 4294967296) (w : World) :
    Calls Try.prog 29 #[.int .u32 a, .int .i64 k] w fun e w' => e = .returned (.int .u32 (scaleC a k)) ∧ Below w.heap.size w w' := by
  unfold scaleC
  by_cases hf : Flt.mg a < 2139095040 ∧ Flt.mg a ≠ 0
  · obtain ⟨n1, n2⟩ := (Flt.fin_iff a).2 hf.1
    rw [if_neg (by simp [n1, n2])]
    obtain ⟨e, s, x1, x2, x3, x4, x5, x6, x7⟩ := Flt.amt a h0 hf.1
    have s1 : 1 ≤ s := by rcases Nat.eq_zero_or_pos s with h | h; (exact absurd (x7.1 h) hf.2); exact h
    rw [x1, x2]
    have hc : clampK k = (if k ≤ -1000 then -1000 else if 1000 ≤ k then 1000 else k) := rfl
    rcases Int.lt_or_le 700 k with hk | hk
    · refine (rscale_hi_up a k 700 h0 h1 hf.1 hf.2 hk rfl w).mono ?_
      rintro e' w1 ⟨⟨v, rfl, hv⟩, hb1⟩
      rw [x6] at hv
      refine ⟨ret_int ?_, hb1⟩
      have := scale_up (Flt.sgn a) e s 700 v ((e : Int) - 149 + 700) s1 (by omega) x4 (by omega) rfl hv
      rw [← this]
      rw [Flt.rnd_high 0 _ ((e : Int) - 149 + 700) s false s1 (by omega) (by omega), Flt.rnd_high 0 _ ((e : Int) - 149 + clampK k) s false s1 (by omega) (by rw [hc]; (repeat' split) <;> omega)]
    · rcases Int.lt_or_le k (-700) with hk2 | hk2
      · refine (rscale_lo_down a k 700 h0 h1 hf.1 hf.2 hk2 rfl w).mono ?_
        rintro e' w1 ⟨⟨v, rfl, hv⟩, hb1⟩
        rw [x6] at hv
        refine ⟨ret_int ?_, hb1⟩
        have := scale_down (Flt.sgn a) e s 700 v ((e : Int) - 149 - 700) s1 (by omega) x4 (by omega) rfl hv
        rw [← this]
        rw [Flt.rnd_low2 0 _ ((e : Int) - 149 - 700) s false s1 (by omega) (by omega), Flt.rnd_low2 0 _ ((e : Int) - 149 + clampK k) s false s1 (by omega) (by rw [hc]; (repeat' split) <;> omega)]
      · have hck : clampK k = k := by rw [hc]; (repeat' split) <;> omega
        rw [hck]
        rcases Int.lt_or_le k 0 with hk3 | hk3
        · obtain ⟨j, hj⟩ : ∃ j : Nat, (j : Int) = -k := ⟨(-k).toNat, by omega⟩
          refine (rscale_mid_down a k j h0 h1 hf.1 hf.2 hk3 hk2 hj w).mono ?_
          rintro e' w1 ⟨⟨v, rfl, hv⟩, hb1⟩
          rw [x6] at hv
          exact ⟨ret_int (scale_down (Flt.sgn a) e s j v _ s1 (by omega) x4 (by omega) (by omega) hv).symm, hb1⟩
        · obtain ⟨j, hj⟩ : ∃ j : Nat, (j : Int) = k := ⟨k.toNat, by omega⟩
          refine (rscale_mid_up a k j h0 h1 hf.1 hf.2 hk3 hk hj w).mono ?_
          rintro e' w1 ⟨⟨v, rfl, hv⟩, hb1⟩
          rw [x6] at hv
          exact ⟨ret_int (scale_up (Flt.sgn a) e s j v _ s1 (by omega) x4 (by omega) (by omega) hv).symm, hb1⟩
  · have hx : Flt.isNaN a = true ∨ Flt.absF a = 2139095040 ∨ Flt.absF a = 0 := by
      rw [Flt.isNaN_iff]
      unfold Flt.absF
      unfold Flt.mg at *
      omega
    refine (rscale_x a k h0 h1 hx w).mono ?_
    rintro e w1 ⟨rfl, rfl⟩
    refine ⟨ret_int ?_, Below.refl _ _⟩
    by_cases hc : Flt.isNaN a = true ∨ Flt.isInf a = true
    · rw [if_pos hc]
    · rw [if_neg hc]
      have nn : Flt.isNaN a = false := by cases h : Flt.isNaN a <;> simp_all
      have ni : Flt.isInf a = false := by cases h : Flt.isInf a <;> simp_all
      have hfin := (Flt.fin_iff a).1 ⟨nn, ni⟩
      have hz : Flt.mg a = 0 := by omega
      obtain ⟨e, s, x1, x2, x3, x4, x5, x6, x7⟩ := Flt.amt a h0 hfin
      rw [x2, x7.2 hz]
      have es := Flt.signed_eq a h0 h1
      rw [hz] at es
      unfold Flt.canon
      rw [nn, if_neg (by simp)]
      simp only [Flt.rnd, Int.ofNat_zero]
      have es2 : a = Flt.signBit (Flt.sgn a) := by omega
      simpa using es2
end Go.Proofs.Ytblfbopdphnmoaa
