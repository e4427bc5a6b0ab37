import Derived.Test.YtkbniebahledmabGreatGH
import Derived.Test.YtkbniebahledmabGreatGE
import Derived.Test.YtkbniebahledmabGreatGA

/-
  The document's answers of layer 2 are what package round's functions come to: fused products and sums, roots, whole numbers.
-/
namespace Go.Proofs.YtkbniebahledmabGreat
open Go.RowKit
set_option linter.unusedVariables false

theorem rfmaBy_any (way a b c : Int) (h0 : 0 ≤ a) (h1 : a < 4294967296) (g0 : 0 ≤ b) (g1 : b < 4294967296) (k0 : 0 ≤ c) (k1 : c < 4294967296) (w : World) :
    Calls Tryz.prog 109 #[.int .i64 way, .int .u32 a, .int .u32 b, .int .u32 c] w fun e w' => e = .returned (.int .u32 (Flt.fmaC way a b c)) ∧ Below w.heap.size w w' := by
  by_cases hx : (Flt.isNaN a || Flt.isNaN b || Flt.isNaN c || Flt.isNaN (Flt.mulBy 0 a b) || Flt.isInf a || Flt.isInf b || Flt.isInf c) = true
  · refine (rfmaBy_x way a b c h0 h1 g0 g1 k0 k1 hx w).mono ?_
    rintro e w1 ⟨rfl, hb1⟩
    exact ⟨ret_int (Flt.fmaC_x way a b c h0 g0 k0 k1 hx).symm, hb1⟩
  · have hx' := hx
    rw [Bool.not_eq_true] at hx'
    simp only [Bool.or_eq_false_iff] at hx'
    obtain ⟨⟨⟨⟨⟨⟨na, nb⟩, nc⟩, _⟩, ia⟩, ib⟩, ic⟩ := hx'
    have ha := (Flt.fin_iff a).1 ⟨na, ia⟩
    have hb := (Flt.fin_iff b).1 ⟨nb, ib⟩
    have hc := (Flt.fin_iff c).1 ⟨nc, ic⟩
    refine (rfmaBy_fin way a b c h0 h1 g0 g1 k0 k1 ha hb hc w).mono ?_
    rintro e w1 ⟨⟨r, rfl, hr⟩, hb1⟩
    exact ⟨ret_int (Flt.SumQ_one (Nat.two_pow_pos 149) hr (Flt.fmaC_fin way a b c h0 g0 k0 k1 ha hb hc)), hb1⟩
theorem rfma_any (a b c : Int) (h0 : 0 ≤ a) (h1 : a < 4294967296) (g0 : 0 ≤ b) (g1 : b < 4294967296) (k0 : 0 ≤ c) (k1 : c < 4294967296) (w : World) :
    Calls Tryz.prog 78 #[.int .u32 a, .int .u32 b, .int .u32 c] w fun e w' => e = .returned (.int .u32 (Flt.fmaC 0 a b c)) ∧ Below w.heap.size w w' := by
  go_enter Tryz.func78, Tryz.ntmps78
  go_wp2_with fail
  refine (rfmaBy_any 0 a b c h0 h1 g0 g1 k0 k1 _).mono ?_
  rintro e w1 ⟨rfl, hb1⟩
  go_wp2_with fail
  go_ret
  exact ⟨ret_int rfl, hb1⟩

theorem rfromIntBy_any (way n : Int) (h0 : -9223372036854775808 ≤ n) (h1 : n < 9223372036854775808) (w : World) :
    Calls Tryz.prog 110 #[.int .i64 way, .int .i64 n] w fun e w' => e = .returned (.int .u32 (Flt.rnd way (decide (n < 0)) 0 (n.natAbs : Int) false)) ∧ Below w.heap.size w w' := by
  rcases Int.lt_trichotomy n 0 with hn | hn | hn
  · have d1 : decide (n < 0) = true := by simp [hn]
    obtain ⟨v, v1, v2⟩ := Flt.rnd_exact way true 149 n.natAbs (n.natAbs * 2 ^ 149) (by omega) (by omega) (by omega) rfl
    refine (rfromInt_neg way n hn h0 w).mono ?_
    rintro e w1 ⟨⟨r, rfl, hr⟩, hb1⟩
    rw [show (-n).toNat = n.natAbs by omega] at hr
    have e := Flt.RN_one (by decide) hr v2
    subst e
    rw [d1]
    exact ⟨ret_int (by rw [← v1]; rfl), hb1⟩
  · subst hn
    refine (rfromInt_zero way w).mono ?_
    rintro e w1 ⟨rfl, rfl⟩
    exact ⟨ret_int (by simp [Flt.rnd, Flt.signBit]), Below.refl _ _⟩
  · have d1 : decide (n < 0) = false := by simp; omega
    obtain ⟨v, v1, v2⟩ := Flt.rnd_exact way false 149 n.natAbs (n.natAbs * 2 ^ 149) (by omega) (by omega) (by omega) rfl
    refine (rfromInt_pos way n hn h1 w).mono ?_
    rintro e w1 ⟨⟨r, rfl, hr⟩, hb1⟩
    rw [show n.toNat = n.natAbs by omega] at hr
    have e := Flt.RN_one (by decide) hr v2
    subst e
    rw [d1]
    exact ⟨ret_int (by rw [← v1]; rfl), hb1⟩
theorem rfromInt_any (n : Int) (h0 : -9223372036854775808 ≤ n) (h1 : n < 9223372036854775808) (w : World) :
    Calls Tryz.prog 82 #[.int .i64 n] w fun e w' => e = .returned (.int .u32 (Flt.rnd 0 (decide (n < 0)) 0 (n.natAbs : Int) false)) ∧ Below w.heap.size w w' := by
  go_enter Tryz.func82, Tryz.ntmps82
  go_wp2_with fail
  refine (rfromIntBy_any 0 n h0 h1 _).mono ?_
  rintro e w1 ⟨rfl, hb1⟩
  go_wp2_with fail
  go_ret
  exact ⟨rfl, hb1⟩
end Go.Proofs.YtkbniebahledmabGreat

/-
  The document's powers of two and whole numbers of floats are what package round's functions come to.
-/
namespace Go.Proofs.YtkbniebahledmabGreat
open Go.RowKit
set_option linter.unusedVariables false

set_option maxRecDepth 100000 in
set_option maxHeartbeats 1000000 in
theorem rscale_x (a k : Int) (h0 : 0 ≤ a) (h1 : a < 4294967296) (hx : Flt.isNaN a = true ∨ Flt.absF a = 2139095040 ∨ Flt.absF a = 0) (w : World) :
    Calls Tryz.prog 74 #[.int .u32 a, .int .i64 k] w fun e w' => e = .returned (.int .u32 (Flt.canon a)) ∧ w' = w := by
  unfold Flt.canon
  cases hn : Flt.isNaN a
  · rw [if_neg (by simp)]
    by_cases hi : Flt.absF a = 2139095040
    · have hi' : (Flt.absF a == 2139095040) = true := by simp [hi]
      clear hx hi
      go_enter Tryz.func74, Tryz.ntmps74
      go_wp2_with (first | (go_at_call 30; refine (risNone_any _ (by assumption) (by assumption) _).mono ?_; rintro e w' ⟨rfl, rfl⟩) | (go_at_call 68; refine (rabs_any _ (by assumption) (by assumption) _).mono ?_; rintro e w' ⟨rfl, rfl⟩))
      go_ret
      exact ⟨rfl, rfl⟩
    · have hi' : (Flt.absF a == 2139095040) = false := by simp [hi]
      have hz : (Flt.absF a == 0) = true := by
        rcases hx with h | h | h
        · rw [hn] at h; cases h
        · exact absurd h hi
        · simp [h]
      clear hx hi
      go_enter Tryz.func74, Tryz.ntmps74
      go_wp2_with (first | (go_at_call 30; refine (risNone_any _ (by assumption) (by assumption) _).mono ?_; rintro e w' ⟨rfl, rfl⟩) | (go_at_call 68; refine (rabs_any _ (by assumption) (by assumption) _).mono ?_; rintro e w' ⟨rfl, rfl⟩))
      go_ret
      exact ⟨rfl, rfl⟩
  · rw [if_pos rfl]
    clear hx
    go_enter Tryz.func74, Tryz.ntmps74
    go_wp2_with (first | (go_at_call 30; refine (risNone_any _ (by assumption) (by assumption) _).mono ?_; rintro e w' ⟨rfl, rfl⟩) | (go_at_call 68; refine (rabs_any _ (by assumption) (by assumption) _).mono ?_; rintro e w' ⟨rfl, rfl⟩))
    go_ret
    exact ⟨rfl, rfl⟩

theorem scale_up (neg : Bool) (e s j v : Nat) (E : Int) (h0 : 1 ≤ s) (h1 : s < 18446744073709551616) (he : e ≤ 253) (hj : j ≤ 700) (hE : E = (e : Int) - 149 + j) (hv : Flt.RN 0 neg (s * 2 ^ e * 2 ^ j) ((1 : Int).toNat) v) :
    Flt.rnd 0 neg E (s : Int) false = Flt.signBit neg + (v : Int) := by
  obtain ⟨r, r1, r2⟩ := Flt.rnd_exact 0 neg (e + j) s (s * 2 ^ e * 2 ^ j) h0 h1 (by omega) (by rw [Nat.pow_add, Nat.mul_assoc])
  have e1 : ((e + j : Nat) : Int) - 149 = E := by omega
  rw [e1] at r1
  rw [r1]
  have := Flt.RN_one (show 0 < ((1 : Int).toNat) by decide) hv r2
  rw [this]
theorem scale_down (neg : Bool) (e s j v : Nat) (E : Int) (h0 : 1 ≤ s) (h1 : s < 18446744073709551616) (he : e ≤ 253) (hj : j ≤ 700) (hE : E = (e : Int) - 149 - j) (hv : Flt.RN 0 neg (s * 2 ^ e) ((1 : Int).toNat * 2 ^ j) v) :
    Flt.rnd 0 neg E (s : Int) false = Flt.signBit neg + (v : Int) := by
  have o : ((1 : Int).toNat) = 1 := rfl
  rw [o, Nat.one_mul] at hv
  obtain ⟨r, r1, r2⟩ := Flt.rnd_RN 0 neg E s false (s * 2 ^ e) (2 ^ j) j e h0 h1 (by omega) (by omega) (Nat.two_pow_pos _) (by omega) (.inl ⟨rfl, by rw [Nat.mul_right_comm]⟩)
  rw [r1, Flt.RN_one (Nat.two_pow_pos _) hv r2]

theorem rscale_any (a k : Int) (h0 : 0 ≤ a) (h1 : a < 4294967296) (w : World) :
    Calls Tryz.prog 74 #[.int .u32 a, .int .i64 k] w fun e w' => e = .returned (.int .u32 (scaleC a k)) ∧ Below w.heap.size w w' := by
  unfold scaleC
  by_cases hf : Flt.mg a < 2139095040 ∧ Flt.mg a ≠ 0
  · obtain ⟨n1, n2⟩ := (Flt.fin_iff a).2 hf.1
    rw [if_neg (by simp [n1, n2])]
    obtain ⟨e, s, x1, x2, x3, x4, x5, x6, x7⟩ := Flt.amt a h0 hf.1
    have s1 : 1 ≤ s := by rcases Nat.eq_zero_or_pos s with h | h; (exact absurd (x7.1 h) hf.2); exact h
    rw [x1, x2]
    have hc : clampK k = (if k ≤ -1000 then -1000 else if 1000 ≤ k then 1000 else k) := rfl
    rcases Int.lt_or_le 700 k with hk | hk
    · refine (rscale_hi_up a k 700 h0 h1 hf.1 hf.2 hk rfl w).mono ?_
      rintro e' w1 ⟨⟨v, rfl, hv⟩, hb1⟩
      rw [x6] at hv
      refine ⟨ret_int ?_, hb1⟩
      have := scale_up (Flt.sgn a) e s 700 v ((e : Int) - 149 + 700) s1 (by omega) x4 (by omega) rfl hv
      rw [← this]
      rw [Flt.rnd_high 0 _ ((e : Int) - 149 + 700) s false s1 (by omega) (by omega), Flt.rnd_high 0 _ ((e : Int) - 149 + clampK k) s false s1 (by omega) (by rw [hc]; (repeat' split) <;> omega)]
    · rcases Int.lt_or_le k (-700) with hk2 | hk2
      · refine (rscale_lo_down a k 700 h0 h1 hf.1 hf.2 hk2 rfl w).mono ?_
        rintro e' w1 ⟨⟨v, rfl, hv⟩, hb1⟩
        rw [x6] at hv
        refine ⟨ret_int ?_, hb1⟩
        have := scale_down (Flt.sgn a) e s 700 v ((e : Int) - 149 - 700) s1 (by omega) x4 (by omega) rfl hv
        rw [← this]
        rw [Flt.rnd_low2 0 _ ((e : Int) - 149 - 700) s false s1 (by omega) (by omega), Flt.rnd_low2 0 _ ((e : Int) - 149 + clampK k) s false s1 (by omega) (by rw [hc]; (repeat' split) <;> omega)]
      · have hck : clampK k = k := by rw [hc]; (repeat' split) <;> omega
        rw [hck]
        rcases Int.lt_or_le k 0 with hk3 | hk3
        · obtain ⟨j, hj⟩ : ∃ j : Nat, (j : Int) = -k := ⟨(-k).toNat, by omega⟩
          refine (rscale_mid_down a k j h0 h1 hf.1 hf.2 hk3 hk2 hj w).mono ?_
          rintro e' w1 ⟨⟨v, rfl, hv⟩, hb1⟩
          rw [x6] at hv
          exact ⟨ret_int (scale_down (Flt.sgn a) e s j v _ s1 (by omega) x4 (by omega) (by omega) hv).symm, hb1⟩
        · obtain ⟨j, hj⟩ : ∃ j : Nat, (j : Int) = k := ⟨k.toNat, by omega⟩
          refine (rscale_mid_up a k j h0 h1 hf.1 hf.2 hk3 hk hj w).mono ?_
          rintro e' w1 ⟨⟨v, rfl, hv⟩, hb1⟩
          rw [x6] at hv
          exact ⟨ret_int (scale_up (Flt.sgn a) e s j v _ s1 (by omega) x4 (by omega) (by omega) hv).symm, hb1⟩
  · have hx : Flt.isNaN a = true ∨ Flt.absF a = 2139095040 ∨ Flt.absF a = 0 := by
      rw [Flt.isNaN_iff]
      unfold Flt.absF
      unfold Flt.mg at *
      omega
    refine (rscale_x a k h0 h1 hx w).mono ?_
    rintro e w1 ⟨rfl, rfl⟩
    refine ⟨ret_int ?_, Below.refl _ _⟩
    by_cases hc : Flt.isNaN a = true ∨ Flt.isInf a = true
    · rw [if_pos hc]
    · rw [if_neg hc]
      have nn : Flt.isNaN a = false := by cases h : Flt.isNaN a <;> simp_all
      have ni : Flt.isInf a = false := by cases h : Flt.isInf a <;> simp_all
      have hfin := (Flt.fin_iff a).1 ⟨nn, ni⟩
      have hz : Flt.mg a = 0 := by omega
      obtain ⟨e, s, x1, x2, x3, x4, x5, x6, x7⟩ := Flt.amt a h0 hfin
      rw [x2, x7.2 hz]
      have es := Flt.signed_eq a h0 h1
      rw [hz] at es
      unfold Flt.canon
      rw [nn, if_neg (by simp)]
      simp only [Flt.rnd, Int.ofNat_zero]
      have es2 : a = Flt.signBit (Flt.sgn a) := by omega
      simpa using es2
end Go.Proofs.YtkbniebahledmabGreat

/-
  The walk of the document's answer to Floor, Ceil and Even.
-/
namespace Go.Proofs.YtkbniebahledmabGreat
open Go.RowKit
set_option linter.unusedVariables false

theorem mod_of {ni : Int} {n : Nat} (h : ni = (n : Int)) : ni % 2 = ((n % 2 : Nat) : Int) := by omega
theorem two_of {ni : Int} {n : Nat} (h : ni = (n : Int)) : (2 * ni + 1).toNat = 2 * n + 1 := by omega
theorem odd_of (n : Nat) (h : ((n % 2 : Nat) : Int) = 1) : n % 2 = 1 := by omega
theorem lt_of_cmp {x y : Nat} {d : Int} (h : d ≤ 0 ↔ x ≤ y) (hd : 0 < d) : y < x := by
  rcases Nat.lt_or_ge y x with g | g
  · exact g
  · have := h.2 g; omega
theorem cmp_neg {x y : Nat} {d : Int} (h : d ≤ 0 ↔ x ≤ y) (hz : d = 0 ↔ x = y) (hd : x < y) : d < 0 := by
  have a := h.2 (Nat.le_of_lt hd)
  have b : d ≠ 0 := fun e => by have := hz.1 e; omega
  omega
theorem ne_neg {d : Int} (h : d < 0) : (d == 0) = false := by rw [beq_eq_false_iff_ne]; omega
theorem gt_neg {d : Int} (h : d < 0) : decide (0 < d) = false := by rw [decide_eq_false_iff_not]; omega
theorem mod_val {ni : Int} {n b : Nat} (h : ni = (n : Int)) (hb : n % 2 = b) : ni % 2 = (b : Int) := by omega
theorem cmp_of_lt {x y : Nat} {d : Int} (h : d ≤ 0 ↔ x ≤ y) (hd : y < x) : 0 < d := by
  rcases Int.lt_or_le 0 d with g | g
  · exact g
  · have := h.1 g; omega

set_option maxRecDepth 100000 in
set_option maxHeartbeats 1000000 in
theorem rwhole_x (how a : Int) (h0 : 0 ≤ a) (h1 : a < 4294967296) (hx : Flt.isNaN a = true ∨ 1266679808 ≤ Flt.absF a ∨ Flt.absF a = 0) (w : World) :
    Calls Tryz.prog 100 #[.int .i64 how, .int .u32 a] w fun e w' => e = .returned (.int .u32 (Flt.canon a)) ∧ w' = w := by
  unfold Flt.canon
  have ra : 0 ≤ Flt.absF a ∧ Flt.absF a < 2147483648 := by unfold Flt.absF; omega
  obtain ⟨ra0, ra1⟩ := ra
  cases hn : Flt.isNaN a
  · rw [if_neg (by simp)]
    rcases hx with h | h | h
    · rw [hn] at h; cases h
    · have hi' : decide (1266679808 ≤ Flt.absF a) = true := by simp [h]
      go_enter Tryz.func100, Tryz.ntmps100
      go_wp2_with (first | (go_at_call 30; refine (risNone_any _ (by assumption) (by assumption) _).mono ?_; rintro e w' ⟨rfl, rfl⟩) | (go_at_call 68; refine (rabs_any _ (by assumption) (by assumption) _).mono ?_; rintro e w' ⟨rfl, rfl⟩))
      go_ret
      exact ⟨rfl, rfl⟩
    · go_enter Tryz.func100, Tryz.ntmps100
      go_wp2_with (first | (go_at_call 30; refine (risNone_any _ (by assumption) (by assumption) _).mono ?_; rintro e w' ⟨rfl, rfl⟩) | (go_at_call 68; refine (rabs_any _ (by assumption) (by assumption) _).mono ?_; rintro e w' ⟨rfl, rfl⟩))
      go_ret
      exact ⟨rfl, rfl⟩
  · rw [if_pos rfl]
    clear hx
    go_enter Tryz.func100, Tryz.ntmps100
    go_wp2_with (first | (go_at_call 30; refine (risNone_any _ (by assumption) (by assumption) _).mono ?_; rintro e w' ⟨rfl, rfl⟩) | (go_at_call 68; refine (rabs_any _ (by assumption) (by assumption) _).mono ?_; rintro e w' ⟨rfl, rfl⟩))
    go_ret
    exact ⟨rfl, rfl⟩

set_option maxRecDepth 100000 in
set_option maxHeartbeats 1000000 in
theorem rwhole_ex0 (a ni : Int) (ma n : Nat) (h0 : 0 ≤ a) (h1 : a < 4294967296) (nn : Flt.isNaN a = false) (ea : Flt.absF a = (ma : Int)) (i1 : decide (1266679808 ≤ (ma : Int)) = false) (i2 : ((ma : Int) == 0) = false) (hma : (ma : Int) ≤ 2139095041)
    (hcut : ∀ w, Calls Tryz.prog 85 #[.int .u32 a] w fun e w' => e = .returned (.tuple #[.int .u64 ni, .bool false]) ∧ w' = w) (hni : ni = (n : Int)) (n0 : 0 ≤ ni) (n1 : ni < 16777216) (hex : n * 2 ^ 149 = Flt.A ma) (w : World) :
    Calls Tryz.prog 100 #[.int .i64 0, .int .u32 a] w fun e w' => e = .returned (.int .u32 a) ∧ Below w.heap.size w w' := by
  have HCUT := hide hcut
  have HNI := hide hni
  have HMA := hide (show ma ≤ 2139095041 by omega)
  clear hcut hni hma
  have HEX := hide hex
  clear hex
  go_enter Tryz.func100, Tryz.ntmps100
  go_wp2_with (first | (go_at_call 30; refine (risNone_any _ (by assumption) (by assumption) _).mono ?_; rintro e w' ⟨rfl, rfl⟩) | (go_at_call 68; refine (rabs_any _ (by assumption) (by assumption) _).mono ?_; rintro e w' ⟨rfl, rfl⟩) | (go_at_call 80; refine (rbelow_any _ (by assumption) (by assumption) _).mono ?_; rintro e w' ⟨rfl, rfl⟩) | (go_at_call 85; refine (unhide HCUT _).mono ?_; rintro e w' ⟨rfl, rfl⟩))
  refine (amount_any ma (unhide HMA) _).mono ?_
  rintro e x1 ⟨⟨v1, rfl, hv1⟩, hb1⟩
  go_wp2_with fail
  refine (of_any ni n0 (by omega) _).mono ?_
  rintro e x2 ⟨⟨v2, rfl, hv2⟩, hb2⟩
  have hbel2 := bl_tr hb1 hb2
  rw [unhide HNI, Int.toNat_natCast] at hv2
  go_wp2_with fail
  refine (twice_any v2 _ 2 149 (by omega) (by omega) _ hv2).mono ?_
  rintro e x3 ⟨⟨v3, rfl, hv3⟩, hb3⟩
  have hbel3 := bl_tr hbel2 hb3
  have hv1' := (hv1.below hb2).below hb3
  go_wp2_with fail
  refine (compare_any v3 v1 _ _ 12 (by omega) _ (hv3.le (by omega)) (hv1'.le (by omega))).mono ?_
  rintro e x4 ⟨rfl, hb4⟩
  have hbel4 := bl_tr hbel3 hb4
  have hv1b := hv1'.below hb4
  have hcz := cmpN_eq (n * 2 ^ 149) (Flt.A ma)
  generalize cmpN (n * 2 ^ 149) (Flt.A ma) = c at hcz ⊢
  have hc : (c == 0) = true := by simp only [beq_iff_eq]; exact hcz.2 (unhide HEX)
  clear hcz
  have HV1 := hide hv1b
  have HB4 := hide hbel4
  clear hv1 hv2 hv3 hv1' hv1b hb1 hb2 hb3 hb4 hbel2 hbel3 hbel4
  go_wp2_with fail
  go_ret
  exact ⟨rfl, unhide HB4⟩

set_option maxRecDepth 100000 in
set_option maxHeartbeats 1000000 in
theorem rwhole_ex1 (a ni : Int) (ma n : Nat) (h0 : 0 ≤ a) (h1 : a < 4294967296) (nn : Flt.isNaN a = false) (ea : Flt.absF a = (ma : Int)) (i1 : decide (1266679808 ≤ (ma : Int)) = false) (i2 : ((ma : Int) == 0) = false) (hma : (ma : Int) ≤ 2139095041)
    (hcut : ∀ w, Calls Tryz.prog 85 #[.int .u32 a] w fun e w' => e = .returned (.tuple #[.int .u64 ni, .bool false]) ∧ w' = w) (hni : ni = (n : Int)) (n0 : 0 ≤ ni) (n1 : ni < 16777216) (hex : n * 2 ^ 149 = Flt.A ma) (w : World) :
    Calls Tryz.prog 100 #[.int .i64 1, .int .u32 a] w fun e w' => e = .returned (.int .u32 a) ∧ Below w.heap.size w w' := by
  have HCUT := hide hcut
  have HNI := hide hni
  have HMA := hide (show ma ≤ 2139095041 by omega)
  clear hcut hni hma
  have HEX := hide hex
  clear hex
  go_enter Tryz.func100, Tryz.ntmps100
  go_wp2_with (first | (go_at_call 30; refine (risNone_any _ (by assumption) (by assumption) _).mono ?_; rintro e w' ⟨rfl, rfl⟩) | (go_at_call 68; refine (rabs_any _ (by assumption) (by assumption) _).mono ?_; rintro e w' ⟨rfl, rfl⟩) | (go_at_call 80; refine (rbelow_any _ (by assumption) (by assumption) _).mono ?_; rintro e w' ⟨rfl, rfl⟩) | (go_at_call 85; refine (unhide HCUT _).mono ?_; rintro e w' ⟨rfl, rfl⟩))
  refine (amount_any ma (unhide HMA) _).mono ?_
  rintro e x1 ⟨⟨v1, rfl, hv1⟩, hb1⟩
  go_wp2_with fail
  refine (of_any ni n0 (by omega) _).mono ?_
  rintro e x2 ⟨⟨v2, rfl, hv2⟩, hb2⟩
  have hbel2 := bl_tr hb1 hb2
  rw [unhide HNI, Int.toNat_natCast] at hv2
  go_wp2_with fail
  refine (twice_any v2 _ 2 149 (by omega) (by omega) _ hv2).mono ?_
  rintro e x3 ⟨⟨v3, rfl, hv3⟩, hb3⟩
  have hbel3 := bl_tr hbel2 hb3
  have hv1' := (hv1.below hb2).below hb3
  go_wp2_with fail
  refine (compare_any v3 v1 _ _ 12 (by omega) _ (hv3.le (by omega)) (hv1'.le (by omega))).mono ?_
  rintro e x4 ⟨rfl, hb4⟩
  have hbel4 := bl_tr hbel3 hb4
  have hv1b := hv1'.below hb4
  have hcz := cmpN_eq (n * 2 ^ 149) (Flt.A ma)
  generalize cmpN (n * 2 ^ 149) (Flt.A ma) = c at hcz ⊢
  have hc : (c == 0) = true := by simp only [beq_iff_eq]; exact hcz.2 (unhide HEX)
  clear hcz
  have HV1 := hide hv1b
  have HB4 := hide hbel4
  clear hv1 hv2 hv3 hv1' hv1b hb1 hb2 hb3 hb4 hbel2 hbel3 hbel4
  go_wp2_with fail
  go_ret
  exact ⟨rfl, unhide HB4⟩

set_option maxRecDepth 100000 in
set_option maxHeartbeats 1000000 in
theorem rwhole_ex2 (a ni : Int) (ma n : Nat) (h0 : 0 ≤ a) (h1 : a < 4294967296) (nn : Flt.isNaN a = false) (ea : Flt.absF a = (ma : Int)) (i1 : decide (1266679808 ≤ (ma : Int)) = false) (i2 : ((ma : Int) == 0) = false) (hma : (ma : Int) ≤ 2139095041)
    (hcut : ∀ w, Calls Tryz.prog 85 #[.int .u32 a] w fun e w' => e = .returned (.tuple #[.int .u64 ni, .bool false]) ∧ w' = w) (hni : ni = (n : Int)) (n0 : 0 ≤ ni) (n1 : ni < 16777216) (hex : n * 2 ^ 149 = Flt.A ma) (w : World) :
    Calls Tryz.prog 100 #[.int .i64 2, .int .u32 a] w fun e w' => e = .returned (.int .u32 a) ∧ Below w.heap.size w w' := by
  have HCUT := hide hcut
  have HNI := hide hni
  have HMA := hide (show ma ≤ 2139095041 by omega)
  clear hcut hni hma
  have HEX := hide hex
  clear hex
  go_enter Tryz.func100, Tryz.ntmps100
  go_wp2_with (first | (go_at_call 30; refine (risNone_any _ (by assumption) (by assumption) _).mono ?_; rintro e w' ⟨rfl, rfl⟩) | (go_at_call 68; refine (rabs_any _ (by assumption) (by assumption) _).mono ?_; rintro e w' ⟨rfl, rfl⟩) | (go_at_call 80; refine (rbelow_any _ (by assumption) (by assumption) _).mono ?_; rintro e w' ⟨rfl, rfl⟩) | (go_at_call 85; refine (unhide HCUT _).mono ?_; rintro e w' ⟨rfl, rfl⟩))
  refine (amount_any ma (unhide HMA) _).mono ?_
  rintro e x1 ⟨⟨v1, rfl, hv1⟩, hb1⟩
  go_wp2_with fail
  refine (of_any ni n0 (by omega) _).mono ?_
  rintro e x2 ⟨⟨v2, rfl, hv2⟩, hb2⟩
  have hbel2 := bl_tr hb1 hb2
  rw [unhide HNI, Int.toNat_natCast] at hv2
  go_wp2_with fail
  refine (twice_any v2 _ 2 149 (by omega) (by omega) _ hv2).mono ?_
  rintro e x3 ⟨⟨v3, rfl, hv3⟩, hb3⟩
  have hbel3 := bl_tr hbel2 hb3
  have hv1' := (hv1.below hb2).below hb3
  go_wp2_with fail
  refine (compare_any v3 v1 _ _ 12 (by omega) _ (hv3.le (by omega)) (hv1'.le (by omega))).mono ?_
  rintro e x4 ⟨rfl, hb4⟩
  have hbel4 := bl_tr hbel3 hb4
  have hv1b := hv1'.below hb4
  have hcz := cmpN_eq (n * 2 ^ 149) (Flt.A ma)
  generalize cmpN (n * 2 ^ 149) (Flt.A ma) = c at hcz ⊢
  have hc : (c == 0) = true := by simp only [beq_iff_eq]; exact hcz.2 (unhide HEX)
  clear hcz
  have HV1 := hide hv1b
  have HB4 := hide hbel4
  clear hv1 hv2 hv3 hv1' hv1b hb1 hb2 hb3 hb4 hbel2 hbel3 hbel4
  go_wp2_with fail
  go_ret
  exact ⟨rfl, unhide HB4⟩

set_option maxRecDepth 100000 in
set_option maxHeartbeats 1000000 in
theorem rwhole_0f (a ni : Int) (ma n : Nat) (h0 : 0 ≤ a) (h1 : a < 4294967296) (nn : Flt.isNaN a = false) (ea : Flt.absF a = (ma : Int)) (i1 : decide (1266679808 ≤ (ma : Int)) = false) (i2 : ((ma : Int) == 0) = false) (hma : (ma : Int) ≤ 2139095041) (hg : Flt.sgn a = false)
    (hcut : ∀ w, Calls Tryz.prog 85 #[.int .u32 a] w fun e w' => e = .returned (.tuple #[.int .u64 ni, .bool false]) ∧ w' = w) (hni : ni = (n : Int)) (n0 : 0 ≤ ni) (n1 : ni < 16777216) (hex : ¬ n * 2 ^ 149 = Flt.A ma) (w : World) :
    Calls Tryz.prog 100 #[.int .i64 0, .int .u32 a] w fun e w' => (∃ r : Nat, e = .returned (.int .u32 (Flt.signBit false + (r : Int))) ∧ Flt.RN 0 false (n * 2 ^ 149) 1 r) ∧ Below w.heap.size w w' := by
  have HCUT := hide hcut
  have HNI := hide hni
  have HMA := hide (show ma ≤ 2139095041 by omega)
  clear hcut hni hma
  have HEX := hide hex
  clear hex
  go_enter Tryz.func100, Tryz.ntmps100
  go_wp2_with (first | (go_at_call 30; refine (risNone_any _ (by assumption) (by assumption) _).mono ?_; rintro e w' ⟨rfl, rfl⟩) | (go_at_call 68; refine (rabs_any _ (by assumption) (by assumption) _).mono ?_; rintro e w' ⟨rfl, rfl⟩) | (go_at_call 80; refine (rbelow_any _ (by assumption) (by assumption) _).mono ?_; rintro e w' ⟨rfl, rfl⟩) | (go_at_call 85; refine (unhide HCUT _).mono ?_; rintro e w' ⟨rfl, rfl⟩))
  refine (amount_any ma (unhide HMA) _).mono ?_
  rintro e x1 ⟨⟨v1, rfl, hv1⟩, hb1⟩
  go_wp2_with fail
  refine (of_any ni n0 (by omega) _).mono ?_
  rintro e x2 ⟨⟨v2, rfl, hv2⟩, hb2⟩
  have hbel2 := bl_tr hb1 hb2
  rw [unhide HNI, Int.toNat_natCast] at hv2
  go_wp2_with fail
  refine (twice_any v2 _ 2 149 (by omega) (by omega) _ hv2).mono ?_
  rintro e x3 ⟨⟨v3, rfl, hv3⟩, hb3⟩
  have hbel3 := bl_tr hbel2 hb3
  have hv1' := (hv1.below hb2).below hb3
  go_wp2_with fail
  refine (compare_any v3 v1 _ _ 12 (by omega) _ (hv3.le (by omega)) (hv1'.le (by omega))).mono ?_
  rintro e x4 ⟨rfl, hb4⟩
  have hbel4 := bl_tr hbel3 hb4
  have hv1b := hv1'.below hb4
  have hcz := cmpN_eq (n * 2 ^ 149) (Flt.A ma)
  generalize cmpN (n * 2 ^ 149) (Flt.A ma) = c at hcz ⊢
  have hc : (c == 0) = false := by rw [beq_eq_false_iff_ne]; exact fun h => unhide HEX (hcz.1 h)
  clear hcz
  have HV1 := hide hv1b
  have HB4 := hide hbel4
  clear hv1 hv2 hv3 hv1' hv1b hb1 hb2 hb3 hb4 hbel2 hbel3 hbel4
  go_wp2_with fail
  refine (of_any (ni) (by omega) (by omega) _).mono ?_
  rintro e y1 ⟨⟨u1, rfl, hu1⟩, hd1⟩
  have hbd1 := bl_tr (unhide HB4) hd1
  rw [show (ni).toNat = n by have := unhide HNI; omega] at hu1
  go_wp2_with fail
  refine (twice_any u1 _ 2 149 (by omega) (by omega) _ hu1).mono ?_
  rintro e y2 ⟨⟨u2, rfl, hu2⟩, hd2⟩
  have hbd2 := bl_tr hbd1 hd2
  go_wp2_with fail
  refine (of_any 1 (by omega) (by omega) _).mono ?_
  rintro e y3 ⟨⟨u3, rfl, hu3⟩, hd3⟩
  have hbd3 := bl_tr hbd2 hd3
  go_wp2_with fail
  refine (rounded_any 0 false u2 u3 _ 1 12 (by omega) (by decide) _ ((hu2.below hd3).le (by omega)) ((hu3.cast (by simp)).le (by omega))).mono ?_
  rintro e y4 ⟨⟨r, rfl, hr⟩, hd4⟩
  go_wp2_with fail
  go_ret
  exact ⟨⟨r, rfl, hr⟩, bl_tr hbd3 hd4⟩

set_option maxRecDepth 100000 in
set_option maxHeartbeats 1000000 in
theorem rwhole_0t (a ni : Int) (ma n : Nat) (h0 : 0 ≤ a) (h1 : a < 4294967296) (nn : Flt.isNaN a = false) (ea : Flt.absF a = (ma : Int)) (i1 : decide (1266679808 ≤ (ma : Int)) = false) (i2 : ((ma : Int) == 0) = false) (hma : (ma : Int) ≤ 2139095041) (hg : Flt.sgn a = true)
    (hcut : ∀ w, Calls Tryz.prog 85 #[.int .u32 a] w fun e w' => e = .returned (.tuple #[.int .u64 ni, .bool false]) ∧ w' = w) (hni : ni = (n : Int)) (n0 : 0 ≤ ni) (n1 : ni < 16777216) (hex : ¬ n * 2 ^ 149 = Flt.A ma) (w : World) :
    Calls Tryz.prog 100 #[.int .i64 0, .int .u32 a] w fun e w' => (∃ r : Nat, e = .returned (.int .u32 (Flt.signBit true + (r : Int))) ∧ Flt.RN 0 true ((n + 1) * 2 ^ 149) 1 r) ∧ Below w.heap.size w w' := by
  have HCUT := hide hcut
  have HNI := hide hni
  have HMA := hide (show ma ≤ 2139095041 by omega)
  clear hcut hni hma
  have HEX := hide hex
  clear hex
  go_enter Tryz.func100, Tryz.ntmps100
  go_wp2_with (first | (go_at_call 30; refine (risNone_any _ (by assumption) (by assumption) _).mono ?_; rintro e w' ⟨rfl, rfl⟩) | (go_at_call 68; refine (rabs_any _ (by assumption) (by assumption) _).mono ?_; rintro e w' ⟨rfl, rfl⟩) | (go_at_call 80; refine (rbelow_any _ (by assumption) (by assumption) _).mono ?_; rintro e w' ⟨rfl, rfl⟩) | (go_at_call 85; refine (unhide HCUT _).mono ?_; rintro e w' ⟨rfl, rfl⟩))
  refine (amount_any ma (unhide HMA) _).mono ?_
  rintro e x1 ⟨⟨v1, rfl, hv1⟩, hb1⟩
  go_wp2_with fail
  refine (of_any ni n0 (by omega) _).mono ?_
  rintro e x2 ⟨⟨v2, rfl, hv2⟩, hb2⟩
  have hbel2 := bl_tr hb1 hb2
  rw [unhide HNI, Int.toNat_natCast] at hv2
  go_wp2_with fail
  refine (twice_any v2 _ 2 149 (by omega) (by omega) _ hv2).mono ?_
  rintro e x3 ⟨⟨v3, rfl, hv3⟩, hb3⟩
  have hbel3 := bl_tr hbel2 hb3
  have hv1' := (hv1.below hb2).below hb3
  go_wp2_with fail
  refine (compare_any v3 v1 _ _ 12 (by omega) _ (hv3.le (by omega)) (hv1'.le (by omega))).mono ?_
  rintro e x4 ⟨rfl, hb4⟩
  have hbel4 := bl_tr hbel3 hb4
  have hv1b := hv1'.below hb4
  have hcz := cmpN_eq (n * 2 ^ 149) (Flt.A ma)
  generalize cmpN (n * 2 ^ 149) (Flt.A ma) = c at hcz ⊢
  have hc : (c == 0) = false := by rw [beq_eq_false_iff_ne]; exact fun h => unhide HEX (hcz.1 h)
  clear hcz
  have HV1 := hide hv1b
  have HB4 := hide hbel4
  clear hv1 hv2 hv3 hv1' hv1b hb1 hb2 hb3 hb4 hbel2 hbel3 hbel4
  go_wp2_with fail
  refine (of_any (ni + 1) (by omega) (by omega) _).mono ?_
  rintro e y1 ⟨⟨u1, rfl, hu1⟩, hd1⟩
  have hbd1 := bl_tr (unhide HB4) hd1
  rw [show (ni + 1).toNat = (n + 1) by have := unhide HNI; omega] at hu1
  go_wp2_with fail
  refine (twice_any u1 _ 2 149 (by omega) (by omega) _ hu1).mono ?_
  rintro e y2 ⟨⟨u2, rfl, hu2⟩, hd2⟩
  have hbd2 := bl_tr hbd1 hd2
  go_wp2_with fail
  refine (of_any 1 (by omega) (by omega) _).mono ?_
  rintro e y3 ⟨⟨u3, rfl, hu3⟩, hd3⟩
  have hbd3 := bl_tr hbd2 hd3
  go_wp2_with fail
  refine (rounded_any 0 true u2 u3 _ 1 12 (by omega) (by decide) _ ((hu2.below hd3).le (by omega)) ((hu3.cast (by simp)).le (by omega))).mono ?_
  rintro e y4 ⟨⟨r, rfl, hr⟩, hd4⟩
  go_wp2_with fail
  go_ret
  exact ⟨⟨r, rfl, hr⟩, bl_tr hbd3 hd4⟩

set_option maxRecDepth 100000 in
set_option maxHeartbeats 1000000 in
theorem rwhole_1f (a ni : Int) (ma n : Nat) (h0 : 0 ≤ a) (h1 : a < 4294967296) (nn : Flt.isNaN a = false) (ea : Flt.absF a = (ma : Int)) (i1 : decide (1266679808 ≤ (ma : Int)) = false) (i2 : ((ma : Int) == 0) = false) (hma : (ma : Int) ≤ 2139095041) (hg : Flt.sgn a = false)
    (hcut : ∀ w, Calls Tryz.prog 85 #[.int .u32 a] w fun e w' => e = .returned (.tuple #[.int .u64 ni, .bool false]) ∧ w' = w) (hni : ni = (n : Int)) (n0 : 0 ≤ ni) (n1 : ni < 16777216) (hex : ¬ n * 2 ^ 149 = Flt.A ma) (w : World) :
    Calls Tryz.prog 100 #[.int .i64 1, .int .u32 a] w fun e w' => (∃ r : Nat, e = .returned (.int .u32 (Flt.signBit false + (r : Int))) ∧ Flt.RN 0 false ((n + 1) * 2 ^ 149) 1 r) ∧ Below w.heap.size w w' := by
  have HCUT := hide hcut
  have HNI := hide hni
  have HMA := hide (show ma ≤ 2139095041 by omega)
  clear hcut hni hma
  have HEX := hide hex
  clear hex
  go_enter Tryz.func100, Tryz.ntmps100
  go_wp2_with (first | (go_at_call 30; refine (risNone_any _ (by assumption) (by assumption) _).mono ?_; rintro e w' ⟨rfl, rfl⟩) | (go_at_call 68; refine (rabs_any _ (by assumption) (by assumption) _).mono ?_; rintro e w' ⟨rfl, rfl⟩) | (go_at_call 80; refine (rbelow_any _ (by assumption) (by assumption) _).mono ?_; rintro e w' ⟨rfl, rfl⟩) | (go_at_call 85; refine (unhide HCUT _).mono ?_; rintro e w' ⟨rfl, rfl⟩))
  refine (amount_any ma (unhide HMA) _).mono ?_
  rintro e x1 ⟨⟨v1, rfl, hv1⟩, hb1⟩
  go_wp2_with fail
  refine (of_any ni n0 (by omega) _).mono ?_
  rintro e x2 ⟨⟨v2, rfl, hv2⟩, hb2⟩
  have hbel2 := bl_tr hb1 hb2
  rw [unhide HNI, Int.toNat_natCast] at hv2
  go_wp2_with fail
  refine (twice_any v2 _ 2 149 (by omega) (by omega) _ hv2).mono ?_
  rintro e x3 ⟨⟨v3, rfl, hv3⟩, hb3⟩
  have hbel3 := bl_tr hbel2 hb3
  have hv1' := (hv1.below hb2).below hb3
  go_wp2_with fail
  refine (compare_any v3 v1 _ _ 12 (by omega) _ (hv3.le (by omega)) (hv1'.le (by omega))).mono ?_
  rintro e x4 ⟨rfl, hb4⟩
  have hbel4 := bl_tr hbel3 hb4
  have hv1b := hv1'.below hb4
  have hcz := cmpN_eq (n * 2 ^ 149) (Flt.A ma)
  generalize cmpN (n * 2 ^ 149) (Flt.A ma) = c at hcz ⊢
  have hc : (c == 0) = false := by rw [beq_eq_false_iff_ne]; exact fun h => unhide HEX (hcz.1 h)
  clear hcz
  have HV1 := hide hv1b
  have HB4 := hide hbel4
  clear hv1 hv2 hv3 hv1' hv1b hb1 hb2 hb3 hb4 hbel2 hbel3 hbel4
  go_wp2_with fail
  refine (of_any (ni + 1) (by omega) (by omega) _).mono ?_
  rintro e y1 ⟨⟨u1, rfl, hu1⟩, hd1⟩
  have hbd1 := bl_tr (unhide HB4) hd1
  rw [show (ni + 1).toNat = (n + 1) by have := unhide HNI; omega] at hu1
  go_wp2_with fail
  refine (twice_any u1 _ 2 149 (by omega) (by omega) _ hu1).mono ?_
  rintro e y2 ⟨⟨u2, rfl, hu2⟩, hd2⟩
  have hbd2 := bl_tr hbd1 hd2
  go_wp2_with fail
  refine (of_any 1 (by omega) (by omega) _).mono ?_
  rintro e y3 ⟨⟨u3, rfl, hu3⟩, hd3⟩
  have hbd3 := bl_tr hbd2 hd3
  go_wp2_with fail
  refine (rounded_any 0 false u2 u3 _ 1 12 (by omega) (by decide) _ ((hu2.below hd3).le (by omega)) ((hu3.cast (by simp)).le (by omega))).mono ?_
  rintro e y4 ⟨⟨r, rfl, hr⟩, hd4⟩
  go_wp2_with fail
  go_ret
  exact ⟨⟨r, rfl, hr⟩, bl_tr hbd3 hd4⟩

set_option maxRecDepth 100000 in
set_option maxHeartbeats 1000000 in
theorem rwhole_1t (a ni : Int) (ma n : Nat) (h0 : 0 ≤ a) (h1 : a < 4294967296) (nn : Flt.isNaN a = false) (ea : Flt.absF a = (ma : Int)) (i1 : decide (1266679808 ≤ (ma : Int)) = false) (i2 : ((ma : Int) == 0) = false) (hma : (ma : Int) ≤ 2139095041) (hg : Flt.sgn a = true)
    (hcut : ∀ w, Calls Tryz.prog 85 #[.int .u32 a] w fun e w' => e = .returned (.tuple #[.int .u64 ni, .bool false]) ∧ w' = w) (hni : ni = (n : Int)) (n0 : 0 ≤ ni) (n1 : ni < 16777216) (hex : ¬ n * 2 ^ 149 = Flt.A ma) (w : World) :
    Calls Tryz.prog 100 #[.int .i64 1, .int .u32 a] w fun e w' => (∃ r : Nat, e = .returned (.int .u32 (Flt.signBit true + (r : Int))) ∧ Flt.RN 0 true (n * 2 ^ 149) 1 r) ∧ Below w.heap.size w w' := by
  have HCUT := hide hcut
  have HNI := hide hni
  have HMA := hide (show ma ≤ 2139095041 by omega)
  clear hcut hni hma
  have HEX := hide hex
  clear hex
  go_enter Tryz.func100, Tryz.ntmps100
  go_wp2_with (first | (go_at_call 30; refine (risNone_any _ (by assumption) (by assumption) _).mono ?_; rintro e w' ⟨rfl, rfl⟩) | (go_at_call 68; refine (rabs_any _ (by assumption) (by assumption) _).mono ?_; rintro e w' ⟨rfl, rfl⟩) | (go_at_call 80; refine (rbelow_any _ (by assumption) (by assumption) _).mono ?_; rintro e w' ⟨rfl, rfl⟩) | (go_at_call 85; refine (unhide HCUT _).mono ?_; rintro e w' ⟨rfl, rfl⟩))
  refine (amount_any ma (unhide HMA) _).mono ?_
  rintro e x1 ⟨⟨v1, rfl, hv1⟩, hb1⟩
  go_wp2_with fail
  refine (of_any ni n0 (by omega) _).mono ?_
  rintro e x2 ⟨⟨v2, rfl, hv2⟩, hb2⟩
  have hbel2 := bl_tr hb1 hb2
  rw [unhide HNI, Int.toNat_natCast] at hv2
  go_wp2_with fail
  refine (twice_any v2 _ 2 149 (by omega) (by omega) _ hv2).mono ?_
  rintro e x3 ⟨⟨v3, rfl, hv3⟩, hb3⟩
  have hbel3 := bl_tr hbel2 hb3
  have hv1' := (hv1.below hb2).below hb3
  go_wp2_with fail
  refine (compare_any v3 v1 _ _ 12 (by omega) _ (hv3.le (by omega)) (hv1'.le (by omega))).mono ?_
  rintro e x4 ⟨rfl, hb4⟩
  have hbel4 := bl_tr hbel3 hb4
  have hv1b := hv1'.below hb4
  have hcz := cmpN_eq (n * 2 ^ 149) (Flt.A ma)
  generalize cmpN (n * 2 ^ 149) (Flt.A ma) = c at hcz ⊢
  have hc : (c == 0) = false := by rw [beq_eq_false_iff_ne]; exact fun h => unhide HEX (hcz.1 h)
  clear hcz
  have HV1 := hide hv1b
  have HB4 := hide hbel4
  clear hv1 hv2 hv3 hv1' hv1b hb1 hb2 hb3 hb4 hbel2 hbel3 hbel4
  go_wp2_with fail
  refine (of_any (ni) (by omega) (by omega) _).mono ?_
  rintro e y1 ⟨⟨u1, rfl, hu1⟩, hd1⟩
  have hbd1 := bl_tr (unhide HB4) hd1
  rw [show (ni).toNat = n by have := unhide HNI; omega] at hu1
  go_wp2_with fail
  refine (twice_any u1 _ 2 149 (by omega) (by omega) _ hu1).mono ?_
  rintro e y2 ⟨⟨u2, rfl, hu2⟩, hd2⟩
  have hbd2 := bl_tr hbd1 hd2
  go_wp2_with fail
  refine (of_any 1 (by omega) (by omega) _).mono ?_
  rintro e y3 ⟨⟨u3, rfl, hu3⟩, hd3⟩
  have hbd3 := bl_tr hbd2 hd3
  go_wp2_with fail
  refine (rounded_any 0 true u2 u3 _ 1 12 (by omega) (by decide) _ ((hu2.below hd3).le (by omega)) ((hu3.cast (by simp)).le (by omega))).mono ?_
  rintro e y4 ⟨⟨r, rfl, hr⟩, hd4⟩
  go_wp2_with fail
  go_ret
  exact ⟨⟨r, rfl, hr⟩, bl_tr hbd3 hd4⟩

set_option maxRecDepth 100000 in
set_option maxHeartbeats 1000000 in
theorem rwhole_2gt (a ni : Int) (ma n : Nat) (h0 : 0 ≤ a) (h1 : a < 4294967296) (nn : Flt.isNaN a = false) (ea : Flt.absF a = (ma : Int)) (i1 : decide (1266679808 ≤ (ma : Int)) = false) (i2 : ((ma : Int) == 0) = false) (hma : (ma : Int) ≤ 2139095041)
    (hcut : ∀ w, Calls Tryz.prog 85 #[.int .u32 a] w fun e w' => e = .returned (.tuple #[.int .u64 ni, .bool false]) ∧ w' = w) (hni : ni = (n : Int)) (n0 : 0 ≤ ni) (n1 : ni < 16777216) (hex : ¬ n * 2 ^ 149 = Flt.A ma) (hup : (2 * n + 1) * 2 ^ 149 < Flt.A ma * 2) (w : World) :
    Calls Tryz.prog 100 #[.int .i64 2, .int .u32 a] w fun e w' => (∃ r : Nat, e = .returned (.int .u32 (Flt.signBit (Flt.sgn a) + (r : Int))) ∧ Flt.RN 0 (Flt.sgn a) ((n + 1) * 2 ^ 149) 1 r) ∧ Below w.heap.size w w' := by
  have HCUT := hide hcut
  have HNI := hide hni
  have HMA := hide (show ma ≤ 2139095041 by omega)
  clear hcut hni hma
  have HEX := hide hex
  have HUP := hide hup
  clear hex hup
  go_enter Tryz.func100, Tryz.ntmps100
  go_wp2_with (first | (go_at_call 30; refine (risNone_any _ (by assumption) (by assumption) _).mono ?_; rintro e w' ⟨rfl, rfl⟩) | (go_at_call 68; refine (rabs_any _ (by assumption) (by assumption) _).mono ?_; rintro e w' ⟨rfl, rfl⟩) | (go_at_call 80; refine (rbelow_any _ (by assumption) (by assumption) _).mono ?_; rintro e w' ⟨rfl, rfl⟩) | (go_at_call 85; refine (unhide HCUT _).mono ?_; rintro e w' ⟨rfl, rfl⟩))
  refine (amount_any ma (unhide HMA) _).mono ?_
  rintro e x1 ⟨⟨v1, rfl, hv1⟩, hb1⟩
  go_wp2_with fail
  refine (of_any ni n0 (by omega) _).mono ?_
  rintro e x2 ⟨⟨v2, rfl, hv2⟩, hb2⟩
  have hbel2 := bl_tr hb1 hb2
  rw [unhide HNI, Int.toNat_natCast] at hv2
  go_wp2_with fail
  refine (twice_any v2 _ 2 149 (by omega) (by omega) _ hv2).mono ?_
  rintro e x3 ⟨⟨v3, rfl, hv3⟩, hb3⟩
  have hbel3 := bl_tr hbel2 hb3
  have hv1' := (hv1.below hb2).below hb3
  go_wp2_with fail
  refine (compare_any v3 v1 _ _ 12 (by omega) _ (hv3.le (by omega)) (hv1'.le (by omega))).mono ?_
  rintro e x4 ⟨rfl, hb4⟩
  have hbel4 := bl_tr hbel3 hb4
  have hv1b := hv1'.below hb4
  have hcz := cmpN_eq (n * 2 ^ 149) (Flt.A ma)
  generalize cmpN (n * 2 ^ 149) (Flt.A ma) = c at hcz ⊢
  have hc : (c == 0) = false := by rw [beq_eq_false_iff_ne]; exact fun h => unhide HEX (hcz.1 h)
  clear hcz
  have HV1 := hide hv1b
  have HB4 := hide hbel4
  clear hv1 hv2 hv3 hv1' hv1b hb1 hb2 hb3 hb4 hbel2 hbel3 hbel4
  go_wp2_with fail
  refine (twice_any v1 _ 12 1 (by omega) (by omega) _ (unhide HV1)).mono ?_
  rintro e z1 ⟨⟨t1, rfl, ht1⟩, hc1⟩
  have hbc1 := bl_tr (unhide HB4) hc1
  go_wp2_with fail
  refine (of_any (2 * ni + 1) (by omega) (by omega) _).mono ?_
  rintro e z2 ⟨⟨t2, rfl, ht2⟩, hc2⟩
  have hbc2 := bl_tr hbc1 hc2
  rw [show (2 * ni + 1).toNat = 2 * n + 1 from two_of (unhide HNI)] at ht2
  go_wp2_with fail
  refine (twice_any t2 _ 2 149 (by omega) (by omega) _ ht2).mono ?_
  rintro e z3 ⟨⟨t3, rfl, ht3⟩, hc3⟩
  have hbc3 := bl_tr hbc2 hc3
  go_wp2_with fail
  refine (compare_any t1 t3 _ _ 13 (by omega) _ (((ht1.below hc2).below hc3).le (by omega)) (ht3.le (by omega))).mono ?_
  rintro e z4 ⟨rfl, hc4⟩
  have HB4 := hide (bl_tr hbc3 hc4)
  have hdz := cmpN_eq (Flt.A ma * 2 ^ 1) ((2 * n + 1) * 2 ^ 149)
  have hdl := cmpN_le (Flt.A ma * 2 ^ 1) ((2 * n + 1) * 2 ^ 149)
  rw [Nat.pow_one] at hdz hdl ⊢
  generalize cmpN (Flt.A ma * 2) ((2 * n + 1) * 2 ^ 149) = d at hdz hdl ⊢
  clear ht1 ht2 ht3 hc1 hc2 hc3 hc4 hbc1 hbc2 hbc3 HV1
  have d0 : 0 < d := cmp_of_lt hdl (unhide HUP)
  clear hdz hdl HUP
  go_wp2_with fail
  refine (of_any (ni + 1) (by omega) (by omega) _).mono ?_
  rintro e y1 ⟨⟨u1, rfl, hu1⟩, hd1⟩
  have hbd1 := bl_tr (unhide HB4) hd1
  rw [show (ni + 1).toNat = (n + 1) by have := unhide HNI; omega] at hu1
  go_wp2_with fail
  refine (twice_any u1 _ 2 149 (by omega) (by omega) _ hu1).mono ?_
  rintro e y2 ⟨⟨u2, rfl, hu2⟩, hd2⟩
  have hbd2 := bl_tr hbd1 hd2
  go_wp2_with fail
  refine (of_any 1 (by omega) (by omega) _).mono ?_
  rintro e y3 ⟨⟨u3, rfl, hu3⟩, hd3⟩
  have hbd3 := bl_tr hbd2 hd3
  go_wp2_with fail
  refine (rounded_any 0 (Flt.sgn a) u2 u3 _ 1 12 (by omega) (by decide) _ ((hu2.below hd3).le (by omega)) ((hu3.cast (by simp)).le (by omega))).mono ?_
  rintro e y4 ⟨⟨r, rfl, hr⟩, hd4⟩
  go_wp2_with fail
  go_ret
  exact ⟨⟨r, rfl, hr⟩, bl_tr hbd3 hd4⟩

set_option maxRecDepth 100000 in
set_option maxHeartbeats 1000000 in
theorem rwhole_2odd (a ni : Int) (ma n : Nat) (h0 : 0 ≤ a) (h1 : a < 4294967296) (nn : Flt.isNaN a = false) (ea : Flt.absF a = (ma : Int)) (i1 : decide (1266679808 ≤ (ma : Int)) = false) (i2 : ((ma : Int) == 0) = false) (hma : (ma : Int) ≤ 2139095041)
    (hcut : ∀ w, Calls Tryz.prog 85 #[.int .u32 a] w fun e w' => e = .returned (.tuple #[.int .u64 ni, .bool false]) ∧ w' = w) (hni : ni = (n : Int)) (n0 : 0 ≤ ni) (n1 : ni < 16777216) (hex : ¬ n * 2 ^ 149 = Flt.A ma) (hup : Flt.A ma * 2 = (2 * n + 1) * 2 ^ 149) (hodd : n % 2 = 1) (w : World) :
    Calls Tryz.prog 100 #[.int .i64 2, .int .u32 a] w fun e w' => (∃ r : Nat, e = .returned (.int .u32 (Flt.signBit (Flt.sgn a) + (r : Int))) ∧ Flt.RN 0 (Flt.sgn a) ((n + 1) * 2 ^ 149) 1 r) ∧ Below w.heap.size w w' := by
  have HCUT := hide hcut
  have HNI := hide hni
  have HMA := hide (show ma ≤ 2139095041 by omega)
  clear hcut hni hma
  have HEX := hide hex
  have HUP := hide hup
  clear hex hup
  have HODD := hide hodd
  clear hodd
  go_enter Tryz.func100, Tryz.ntmps100
  go_wp2_with (first | (go_at_call 30; refine (risNone_any _ (by assumption) (by assumption) _).mono ?_; rintro e w' ⟨rfl, rfl⟩) | (go_at_call 68; refine (rabs_any _ (by assumption) (by assumption) _).mono ?_; rintro e w' ⟨rfl, rfl⟩) | (go_at_call 80; refine (rbelow_any _ (by assumption) (by assumption) _).mono ?_; rintro e w' ⟨rfl, rfl⟩) | (go_at_call 85; refine (unhide HCUT _).mono ?_; rintro e w' ⟨rfl, rfl⟩))
  refine (amount_any ma (unhide HMA) _).mono ?_
  rintro e x1 ⟨⟨v1, rfl, hv1⟩, hb1⟩
  go_wp2_with fail
  refine (of_any ni n0 (by omega) _).mono ?_
  rintro e x2 ⟨⟨v2, rfl, hv2⟩, hb2⟩
  have hbel2 := bl_tr hb1 hb2
  rw [unhide HNI, Int.toNat_natCast] at hv2
  go_wp2_with fail
  refine (twice_any v2 _ 2 149 (by omega) (by omega) _ hv2).mono ?_
  rintro e x3 ⟨⟨v3, rfl, hv3⟩, hb3⟩
  have hbel3 := bl_tr hbel2 hb3
  have hv1' := (hv1.below hb2).below hb3
  go_wp2_with fail
  refine (compare_any v3 v1 _ _ 12 (by omega) _ (hv3.le (by omega)) (hv1'.le (by omega))).mono ?_
  rintro e x4 ⟨rfl, hb4⟩
  have hbel4 := bl_tr hbel3 hb4
  have hv1b := hv1'.below hb4
  have hcz := cmpN_eq (n * 2 ^ 149) (Flt.A ma)
  generalize cmpN (n * 2 ^ 149) (Flt.A ma) = c at hcz ⊢
  have hc : (c == 0) = false := by rw [beq_eq_false_iff_ne]; exact fun h => unhide HEX (hcz.1 h)
  clear hcz
  have HV1 := hide hv1b
  have HB4 := hide hbel4
  clear hv1 hv2 hv3 hv1' hv1b hb1 hb2 hb3 hb4 hbel2 hbel3 hbel4
  go_wp2_with fail
  refine (twice_any v1 _ 12 1 (by omega) (by omega) _ (unhide HV1)).mono ?_
  rintro e z1 ⟨⟨t1, rfl, ht1⟩, hc1⟩
  have hbc1 := bl_tr (unhide HB4) hc1
  go_wp2_with fail
  refine (of_any (2 * ni + 1) (by omega) (by omega) _).mono ?_
  rintro e z2 ⟨⟨t2, rfl, ht2⟩, hc2⟩
  have hbc2 := bl_tr hbc1 hc2
  rw [show (2 * ni + 1).toNat = 2 * n + 1 from two_of (unhide HNI)] at ht2
  go_wp2_with fail
  refine (twice_any t2 _ 2 149 (by omega) (by omega) _ ht2).mono ?_
  rintro e z3 ⟨⟨t3, rfl, ht3⟩, hc3⟩
  have hbc3 := bl_tr hbc2 hc3
  go_wp2_with fail
  refine (compare_any t1 t3 _ _ 13 (by omega) _ (((ht1.below hc2).below hc3).le (by omega)) (ht3.le (by omega))).mono ?_
  rintro e z4 ⟨rfl, hc4⟩
  have HB4 := hide (bl_tr hbc3 hc4)
  have hdz := cmpN_eq (Flt.A ma * 2 ^ 1) ((2 * n + 1) * 2 ^ 149)
  have hdl := cmpN_le (Flt.A ma * 2 ^ 1) ((2 * n + 1) * 2 ^ 149)
  rw [Nat.pow_one] at hdz hdl ⊢
  generalize cmpN (Flt.A ma * 2) ((2 * n + 1) * 2 ^ 149) = d at hdz hdl ⊢
  clear ht1 ht2 ht3 hc1 hc2 hc3 hc4 hbc1 hbc2 hbc3 HV1
  have d0 : d = 0 := hdz.2 (unhide HUP)
  subst d0
  have hm1 : ni % 2 = 1 := mod_val (unhide HNI) (unhide HODD)
  clear hdz hdl HUP HODD
  go_wp2_with fail
  refine (of_any (ni + 1) (by omega) (by omega) _).mono ?_
  rintro e y1 ⟨⟨u1, rfl, hu1⟩, hd1⟩
  have hbd1 := bl_tr (unhide HB4) hd1
  rw [show (ni + 1).toNat = (n + 1) by have := unhide HNI; omega] at hu1
  go_wp2_with fail
  refine (twice_any u1 _ 2 149 (by omega) (by omega) _ hu1).mono ?_
  rintro e y2 ⟨⟨u2, rfl, hu2⟩, hd2⟩
  have hbd2 := bl_tr hbd1 hd2
  go_wp2_with fail
  refine (of_any 1 (by omega) (by omega) _).mono ?_
  rintro e y3 ⟨⟨u3, rfl, hu3⟩, hd3⟩
  have hbd3 := bl_tr hbd2 hd3
  go_wp2_with fail
  refine (rounded_any 0 (Flt.sgn a) u2 u3 _ 1 12 (by omega) (by decide) _ ((hu2.below hd3).le (by omega)) ((hu3.cast (by simp)).le (by omega))).mono ?_
  rintro e y4 ⟨⟨r, rfl, hr⟩, hd4⟩
  go_wp2_with fail
  go_ret
  exact ⟨⟨r, rfl, hr⟩, bl_tr hbd3 hd4⟩

set_option maxRecDepth 100000 in
set_option maxHeartbeats 1000000 in
theorem rwhole_2ev (a ni : Int) (ma n : Nat) (h0 : 0 ≤ a) (h1 : a < 4294967296) (nn : Flt.isNaN a = false) (ea : Flt.absF a = (ma : Int)) (i1 : decide (1266679808 ≤ (ma : Int)) = false) (i2 : ((ma : Int) == 0) = false) (hma : (ma : Int) ≤ 2139095041)
    (hcut : ∀ w, Calls Tryz.prog 85 #[.int .u32 a] w fun e w' => e = .returned (.tuple #[.int .u64 ni, .bool false]) ∧ w' = w) (hni : ni = (n : Int)) (n0 : 0 ≤ ni) (n1 : ni < 16777216) (hex : ¬ n * 2 ^ 149 = Flt.A ma) (hup : Flt.A ma * 2 = (2 * n + 1) * 2 ^ 149) (hodd : n % 2 = 0) (w : World) :
    Calls Tryz.prog 100 #[.int .i64 2, .int .u32 a] w fun e w' => (∃ r : Nat, e = .returned (.int .u32 (Flt.signBit (Flt.sgn a) + (r : Int))) ∧ Flt.RN 0 (Flt.sgn a) (n * 2 ^ 149) 1 r) ∧ Below w.heap.size w w' := by
  have HCUT := hide hcut
  have HNI := hide hni
  have HMA := hide (show ma ≤ 2139095041 by omega)
  clear hcut hni hma
  have HEX := hide hex
  have HUP := hide hup
  clear hex hup
  have HODD := hide hodd
  clear hodd
  go_enter Tryz.func100, Tryz.ntmps100
  go_wp2_with (first | (go_at_call 30; refine (risNone_any _ (by assumption) (by assumption) _).mono ?_; rintro e w' ⟨rfl, rfl⟩) | (go_at_call 68; refine (rabs_any _ (by assumption) (by assumption) _).mono ?_; rintro e w' ⟨rfl, rfl⟩) | (go_at_call 80; refine (rbelow_any _ (by assumption) (by assumption) _).mono ?_; rintro e w' ⟨rfl, rfl⟩) | (go_at_call 85; refine (unhide HCUT _).mono ?_; rintro e w' ⟨rfl, rfl⟩))
  refine (amount_any ma (unhide HMA) _).mono ?_
  rintro e x1 ⟨⟨v1, rfl, hv1⟩, hb1⟩
  go_wp2_with fail
  refine (of_any ni n0 (by omega) _).mono ?_
  rintro e x2 ⟨⟨v2, rfl, hv2⟩, hb2⟩
  have hbel2 := bl_tr hb1 hb2
  rw [unhide HNI, Int.toNat_natCast] at hv2
  go_wp2_with fail
  refine (twice_any v2 _ 2 149 (by omega) (by omega) _ hv2).mono ?_
  rintro e x3 ⟨⟨v3, rfl, hv3⟩, hb3⟩
  have hbel3 := bl_tr hbel2 hb3
  have hv1' := (hv1.below hb2).below hb3
  go_wp2_with fail
  refine (compare_any v3 v1 _ _ 12 (by omega) _ (hv3.le (by omega)) (hv1'.le (by omega))).mono ?_
  rintro e x4 ⟨rfl, hb4⟩
  have hbel4 := bl_tr hbel3 hb4
  have hv1b := hv1'.below hb4
  have hcz := cmpN_eq (n * 2 ^ 149) (Flt.A ma)
  generalize cmpN (n * 2 ^ 149) (Flt.A ma) = c at hcz ⊢
  have hc : (c == 0) = false := by rw [beq_eq_false_iff_ne]; exact fun h => unhide HEX (hcz.1 h)
  clear hcz
  have HV1 := hide hv1b
  have HB4 := hide hbel4
  clear hv1 hv2 hv3 hv1' hv1b hb1 hb2 hb3 hb4 hbel2 hbel3 hbel4
  go_wp2_with fail
  refine (twice_any v1 _ 12 1 (by omega) (by omega) _ (unhide HV1)).mono ?_
  rintro e z1 ⟨⟨t1, rfl, ht1⟩, hc1⟩
  have hbc1 := bl_tr (unhide HB4) hc1
  go_wp2_with fail
  refine (of_any (2 * ni + 1) (by omega) (by omega) _).mono ?_
  rintro e z2 ⟨⟨t2, rfl, ht2⟩, hc2⟩
  have hbc2 := bl_tr hbc1 hc2
  rw [show (2 * ni + 1).toNat = 2 * n + 1 from two_of (unhide HNI)] at ht2
  go_wp2_with fail
  refine (twice_any t2 _ 2 149 (by omega) (by omega) _ ht2).mono ?_
  rintro e z3 ⟨⟨t3, rfl, ht3⟩, hc3⟩
  have hbc3 := bl_tr hbc2 hc3
  go_wp2_with fail
  refine (compare_any t1 t3 _ _ 13 (by omega) _ (((ht1.below hc2).below hc3).le (by omega)) (ht3.le (by omega))).mono ?_
  rintro e z4 ⟨rfl, hc4⟩
  have HB4 := hide (bl_tr hbc3 hc4)
  have hdz := cmpN_eq (Flt.A ma * 2 ^ 1) ((2 * n + 1) * 2 ^ 149)
  have hdl := cmpN_le (Flt.A ma * 2 ^ 1) ((2 * n + 1) * 2 ^ 149)
  rw [Nat.pow_one] at hdz hdl ⊢
  generalize cmpN (Flt.A ma * 2) ((2 * n + 1) * 2 ^ 149) = d at hdz hdl ⊢
  clear ht1 ht2 ht3 hc1 hc2 hc3 hc4 hbc1 hbc2 hbc3 HV1
  have d0 : d = 0 := hdz.2 (unhide HUP)
  subst d0
  have hm1 : ni % 2 = 0 := mod_val (unhide HNI) (unhide HODD)
  clear hdz hdl HUP HODD
  go_wp2_with fail
  refine (of_any (ni) (by omega) (by omega) _).mono ?_
  rintro e y1 ⟨⟨u1, rfl, hu1⟩, hd1⟩
  have hbd1 := bl_tr (unhide HB4) hd1
  rw [show (ni).toNat = n by have := unhide HNI; omega] at hu1
  go_wp2_with fail
  refine (twice_any u1 _ 2 149 (by omega) (by omega) _ hu1).mono ?_
  rintro e y2 ⟨⟨u2, rfl, hu2⟩, hd2⟩
  have hbd2 := bl_tr hbd1 hd2
  go_wp2_with fail
  refine (of_any 1 (by omega) (by omega) _).mono ?_
  rintro e y3 ⟨⟨u3, rfl, hu3⟩, hd3⟩
  have hbd3 := bl_tr hbd2 hd3
  go_wp2_with fail
  refine (rounded_any 0 (Flt.sgn a) u2 u3 _ 1 12 (by omega) (by decide) _ ((hu2.below hd3).le (by omega)) ((hu3.cast (by simp)).le (by omega))).mono ?_
  rintro e y4 ⟨⟨r, rfl, hr⟩, hd4⟩
  go_wp2_with fail
  go_ret
  exact ⟨⟨r, rfl, hr⟩, bl_tr hbd3 hd4⟩
end Go.Proofs.YtkbniebahledmabGreat

/-
  The walk of the document's answer to Even, where it is below the middle.
-/
namespace Go.Proofs.YtkbniebahledmabGreat
open Go.RowKit
set_option linter.unusedVariables false

set_option maxRecDepth 100000 in
set_option maxHeartbeats 1000000 in
theorem rwhole_2lt (a ni : Int) (ma n : Nat) (h0 : 0 ≤ a) (h1 : a < 4294967296) (nn : Flt.isNaN a = false) (ea : Flt.absF a = (ma : Int)) (i1 : decide (1266679808 ≤ (ma : Int)) = false) (i2 : ((ma : Int) == 0) = false) (hma : (ma : Int) ≤ 2139095041)
    (hcut : ∀ w, Calls Tryz.prog 85 #[.int .u32 a] w fun e w' => e = .returned (.tuple #[.int .u64 ni, .bool false]) ∧ w' = w) (hni : ni = (n : Int)) (n0 : 0 ≤ ni) (n1 : ni < 16777216) (hex : ¬ n * 2 ^ 149 = Flt.A ma) (hup : Flt.A ma * 2 < (2 * n + 1) * 2 ^ 149) (w : World) :
    Calls Tryz.prog 100 #[.int .i64 2, .int .u32 a] w fun e w' => (∃ r : Nat, e = .returned (.int .u32 (Flt.signBit (Flt.sgn a) + (r : Int))) ∧ Flt.RN 0 (Flt.sgn a) (n * 2 ^ 149) 1 r) ∧ Below w.heap.size w w' := by
  have HCUT := hide hcut
  have HNI := hide hni
  have HMA := hide (show ma ≤ 2139095041 by omega)
  clear hcut hni hma
  have HEX := hide hex
  have HUP := hide hup
  clear hex hup
  go_enter Tryz.func100, Tryz.ntmps100
  go_wp2_with (first | (go_at_call 30; refine (risNone_any _ (by assumption) (by assumption) _).mono ?_; rintro e w' ⟨rfl, rfl⟩) | (go_at_call 68; refine (rabs_any _ (by assumption) (by assumption) _).mono ?_; rintro e w' ⟨rfl, rfl⟩) | (go_at_call 80; refine (rbelow_any _ (by assumption) (by assumption) _).mono ?_; rintro e w' ⟨rfl, rfl⟩) | (go_at_call 85; refine (unhide HCUT _).mono ?_; rintro e w' ⟨rfl, rfl⟩))
  refine (amount_any ma (unhide HMA) _).mono ?_
  rintro e x1 ⟨⟨v1, rfl, hv1⟩, hb1⟩
  go_wp2_with fail
  refine (of_any ni n0 (by omega) _).mono ?_
  rintro e x2 ⟨⟨v2, rfl, hv2⟩, hb2⟩
  have hbel2 := bl_tr hb1 hb2
  rw [unhide HNI, Int.toNat_natCast] at hv2
  go_wp2_with fail
  refine (twice_any v2 _ 2 149 (by omega) (by omega) _ hv2).mono ?_
  rintro e x3 ⟨⟨v3, rfl, hv3⟩, hb3⟩
  have hbel3 := bl_tr hbel2 hb3
  have hv1' := (hv1.below hb2).below hb3
  go_wp2_with fail
  refine (compare_any v3 v1 _ _ 12 (by omega) _ (hv3.le (by omega)) (hv1'.le (by omega))).mono ?_
  rintro e x4 ⟨rfl, hb4⟩
  have hbel4 := bl_tr hbel3 hb4
  have hv1b := hv1'.below hb4
  have hcz := cmpN_eq (n * 2 ^ 149) (Flt.A ma)
  generalize cmpN (n * 2 ^ 149) (Flt.A ma) = c at hcz ⊢
  have hc : (c == 0) = false := by rw [beq_eq_false_iff_ne]; exact fun h => unhide HEX (hcz.1 h)
  clear hcz
  have HV1 := hide hv1b
  have HB4 := hide hbel4
  clear hv1 hv2 hv3 hv1' hv1b hb1 hb2 hb3 hb4 hbel2 hbel3 hbel4
  go_wp2_with fail
  refine (twice_any v1 _ 12 1 (by omega) (by omega) _ (unhide HV1)).mono ?_
  rintro e z1 ⟨⟨t1, rfl, ht1⟩, hc1⟩
  have hbc1 := bl_tr (unhide HB4) hc1
  go_wp2_with fail
  refine (of_any (2 * ni + 1) (by omega) (by omega) _).mono ?_
  rintro e z2 ⟨⟨t2, rfl, ht2⟩, hc2⟩
  have hbc2 := bl_tr hbc1 hc2
  rw [show (2 * ni + 1).toNat = 2 * n + 1 from two_of (unhide HNI)] at ht2
  go_wp2_with fail
  refine (twice_any t2 _ 2 149 (by omega) (by omega) _ ht2).mono ?_
  rintro e z3 ⟨⟨t3, rfl, ht3⟩, hc3⟩
  have hbc3 := bl_tr hbc2 hc3
  go_wp2_with fail
  refine (compare_any t1 t3 _ _ 13 (by omega) _ (((ht1.below hc2).below hc3).le (by omega)) (ht3.le (by omega))).mono ?_
  rintro e z4 ⟨rfl, hc4⟩
  have HB4 := hide (bl_tr hbc3 hc4)
  have hdz := cmpN_eq (Flt.A ma * 2 ^ 1) ((2 * n + 1) * 2 ^ 149)
  have hdl := cmpN_le (Flt.A ma * 2 ^ 1) ((2 * n + 1) * 2 ^ 149)
  rw [Nat.pow_one] at hdz hdl ⊢
  generalize cmpN (Flt.A ma * 2) ((2 * n + 1) * 2 ^ 149) = d at hdz hdl ⊢
  clear ht1 ht2 ht3 hc1 hc2 hc3 hc4 hbc1 hbc2 hbc3 HV1
  have d0 : d < 0 := cmp_neg hdl hdz (unhide HUP)
  have dz : (d == 0) = false := ne_neg d0
  have dg : decide (0 < d) = false := gt_neg d0
  clear hdz hdl HUP d0
  go_wp2_with fail
  refine (of_any (ni) (by omega) (by omega) _).mono ?_
  rintro e y1 ⟨⟨u1, rfl, hu1⟩, hd1⟩
  have hbd1 := bl_tr (unhide HB4) hd1
  rw [show (ni).toNat = n by have := unhide HNI; omega] at hu1
  go_wp2_with fail
  refine (twice_any u1 _ 2 149 (by omega) (by omega) _ hu1).mono ?_
  rintro e y2 ⟨⟨u2, rfl, hu2⟩, hd2⟩
  have hbd2 := bl_tr hbd1 hd2
  go_wp2_with fail
  refine (of_any 1 (by omega) (by omega) _).mono ?_
  rintro e y3 ⟨⟨u3, rfl, hu3⟩, hd3⟩
  have hbd3 := bl_tr hbd2 hd3
  go_wp2_with fail
  refine (rounded_any 0 (Flt.sgn a) u2 u3 _ 1 12 (by omega) (by decide) _ ((hu2.below hd3).le (by omega)) ((hu3.cast (by simp)).le (by omega))).mono ?_
  rintro e y4 ⟨⟨r, rfl, hr⟩, hd4⟩
  go_wp2_with fail
  go_ret
  exact ⟨⟨r, rfl, hr⟩, bl_tr hbd3 hd4⟩

end Go.Proofs.YtkbniebahledmabGreat

/-
  The document's answer to Floor, Ceil and Even is what package round's functions come to.
-/
namespace Go.Proofs.YtkbniebahledmabGreat
open Go.RowKit
set_option linter.unusedVariables false

theorem even_gt (V K : Nat) : (2 * (V / K) + 1) * K < V * 2 ↔ K < 2 * (V % K) := by
  have h := Nat.div_add_mod V K
  have e : (2 * (V / K) + 1) * K = 2 * (K * (V / K)) + K := by rw [Nat.add_mul, Nat.one_mul, Nat.mul_assoc, Nat.mul_comm (V / K) K]
  rw [e]; omega
theorem even_eq (V K : Nat) : V * 2 = (2 * (V / K) + 1) * K ↔ 2 * (V % K) = K := by
  have h := Nat.div_add_mod V K
  have e : (2 * (V / K) + 1) * K = 2 * (K * (V / K)) + K := by rw [Nat.add_mul, Nat.one_mul, Nat.mul_assoc, Nat.mul_comm (V / K) K]
  rw [e]; omega
theorem exact_iff (V K : Nat) : V / K * K = V ↔ V % K = 0 := by
  have h := Nat.div_add_mod V K
  rw [Nat.mul_comm]; omega

theorem rwhole_any (how way a : Int) (hw : (how = 0 ∧ way = 2) ∨ (how = 1 ∧ way = 1) ∨ (how = 2 ∧ way = 0)) (h0 : 0 ≤ a) (h1 : a < 4294967296) (w : World) :
    Calls Tryz.prog 100 #[.int .i64 how, .int .u32 a] w fun e w' => e = .returned (.int .u32 (Flt.wholeC way a)) ∧ Below w.heap.size w w' := by
  have eabs : Flt.absF a = (Flt.mg a : Int) := by unfold Flt.absF Flt.mg; omega
  by_cases hx : Flt.isNaN a = true ∨ 1266679808 ≤ Flt.absF a ∨ Flt.absF a = 0
  · refine (rwhole_x how a h0 h1 hx w).mono ?_
    rintro e w1 ⟨rfl, rfl⟩
    refine ⟨ret_int ?_, Below.refl _ _⟩
    cases hn : Flt.isNaN a
    · have hc : Flt.canon a = a := by unfold Flt.canon; rw [hn, if_neg (by simp)]
      rw [hc]
      by_cases hg : 1266679808 ≤ Flt.absF a
      · unfold Flt.wholeC
        rw [hn, if_neg (by simp), if_pos]
        unfold Flt.expo; unfold Flt.absF at hg
        split <;> omega
      · have hz : Flt.mg a = 0 := by
          rcases hx with h | h | h
          · rw [hn] at h; cases h
          · exact absurd h hg
          · omega
        have hf : Flt.mg a < 2139095040 := by omega
        have es := Flt.signed_eq a h0 h1
        have := Flt.whole_fix way (Flt.sgn a) (Flt.mg a) 0 hf (by rw [hz, Flt.A_zero, Nat.zero_mul])
        rw [← es] at this
        exact this.symm
    · unfold Flt.canon Flt.wholeC; rw [hn, if_pos rfl, if_pos rfl]
  · have hn : Flt.isNaN a = false := by cases h : Flt.isNaN a <;> simp_all
    have hb : Flt.mg a < 1266679808 ∧ Flt.mg a ≠ 0 := by omega
    clear hx
    have hf : Flt.mg a < 2139095040 := by omega
    have es := Flt.signed_eq a h0 h1
    have hcut := fun w => cut_any a h0 h1 (by omega) w
    have hn1 : Flt.A (Flt.mg a) / 2 ^ 149 < 16777216 := by
      rw [Nat.div_lt_iff_lt_mul (Nat.two_pow_pos 149)]
      have := Flt.A_strict hb.1
      have e : Flt.A 1266679808 = 16777216 * 2 ^ 149 := by
        have := Flt.A_form 150 8388608 (by omega) (by omega)
        rw [show (150 : Nat) * 8388608 + 8388608 = 1266679808 by decide] at this
        rw [this]
      rw [e] at this; exact this
    obtain ⟨m, N, x1, x2, x3, x4⟩ := Flt.wholeC_spec way a h0 h1 hf
    have i1 : decide (1266679808 ≤ (Flt.mg a : Int)) = false := by simp; omega
    have i2 : ((Flt.mg a : Int) == 0) = false := by simp; omega
    have i3 : (Flt.mg a : Int) ≤ 2139095041 := by omega
    have one : ∀ (neg : Bool) (M r : Nat), Flt.sgn a = neg → N = M → Flt.RN 0 neg (M * 2 ^ 149) 1 r → Flt.signBit neg + (r : Int) = Flt.wholeC way a := by
      intro neg M r hs hM hr
      rw [← hM, ← x3] at hr
      have := Flt.RN_exact (q := 1) (m := m) (by decide) x2 (by rw [Nat.mul_one]; exact hr)
      rw [x1, this, hs]
    have goN : Flt.goes way (Flt.sgn a) (Flt.A (Flt.mg a)) → N = Flt.A (Flt.mg a) / 2 ^ 149 + 1 := by
      intro g; rcases x4 with ⟨_, h⟩ | ⟨h, _⟩; exact h; exact absurd g h
    have stN : ¬ Flt.goes way (Flt.sgn a) (Flt.A (Flt.mg a)) → N = Flt.A (Flt.mg a) / 2 ^ 149 := by
      intro g; rcases x4 with ⟨h, _⟩ | ⟨_, h⟩; exact absurd h g; exact h
    by_cases hex : Flt.A (Flt.mg a) / 2 ^ 149 * 2 ^ 149 = Flt.A (Flt.mg a)
    · have hfix : a = Flt.wholeC way a := by
        have := Flt.whole_fix way (Flt.sgn a) (Flt.mg a) _ hf hex.symm
        rw [← es] at this
        exact this.symm
      rcases hw with ⟨rfl, rfl⟩ | ⟨rfl, rfl⟩ | ⟨rfl, rfl⟩
      · refine (rwhole_ex0 a _ (Flt.mg a) _ h0 h1 hn eabs i1 i2 i3 hcut rfl (by omega) (by omega) hex w).mono ?_
        rintro e w1 ⟨rfl, hb1⟩
        exact ⟨ret_int hfix, hb1⟩
      · refine (rwhole_ex1 a _ (Flt.mg a) _ h0 h1 hn eabs i1 i2 i3 hcut rfl (by omega) (by omega) hex w).mono ?_
        rintro e w1 ⟨rfl, hb1⟩
        exact ⟨ret_int hfix, hb1⟩
      · refine (rwhole_ex2 a _ (Flt.mg a) _ h0 h1 hn eabs i1 i2 i3 hcut rfl (by omega) (by omega) hex w).mono ?_
        rintro e w1 ⟨rfl, hb1⟩
        exact ⟨ret_int hfix, hb1⟩
    · have hR : Flt.A (Flt.mg a) % 2 ^ 149 ≠ 0 := fun h => hex ((exact_iff _ _).2 h)
      rcases hw with ⟨rfl, rfl⟩ | ⟨rfl, rfl⟩ | ⟨rfl, rfl⟩
      · cases hs : Flt.sgn a
        · refine (rwhole_0f a _ (Flt.mg a) _ h0 h1 hn eabs i1 i2 i3 hs hcut rfl (by omega) (by omega) hex w).mono ?_
          rintro e w1 ⟨⟨r, rfl, hr⟩, hb1⟩
          refine ⟨ret_int (one false _ r hs (stN ?_) hr), hb1⟩
          rw [hs]; rintro ⟨_, g⟩; rw [if_neg (by decide), if_pos rfl] at g; cases g
        · refine (rwhole_0t a _ (Flt.mg a) _ h0 h1 hn eabs i1 i2 i3 hs hcut rfl (by omega) (by omega) hex w).mono ?_
          rintro e w1 ⟨⟨r, rfl, hr⟩, hb1⟩
          refine ⟨ret_int (one true _ r hs (goN ?_) hr), hb1⟩
          rw [hs]; exact ⟨hR, by rw [if_neg (by decide), if_pos rfl]⟩
      · cases hs : Flt.sgn a
        · refine (rwhole_1f a _ (Flt.mg a) _ h0 h1 hn eabs i1 i2 i3 hs hcut rfl (by omega) (by omega) hex w).mono ?_
          rintro e w1 ⟨⟨r, rfl, hr⟩, hb1⟩
          refine ⟨ret_int (one false _ r hs (goN ?_) hr), hb1⟩
          rw [hs]; exact ⟨hR, by rw [if_pos rfl]⟩
        · refine (rwhole_1t a _ (Flt.mg a) _ h0 h1 hn eabs i1 i2 i3 hs hcut rfl (by omega) (by omega) hex w).mono ?_
          rintro e w1 ⟨⟨r, rfl, hr⟩, hb1⟩
          refine ⟨ret_int (one true _ r hs (stN ?_) hr), hb1⟩
          rw [hs]; rintro ⟨_, g⟩; rw [if_pos rfl] at g; cases g
      · have hg : Flt.goes 0 (Flt.sgn a) (Flt.A (Flt.mg a)) ↔ ((2 * (Flt.A (Flt.mg a) / 2 ^ 149) + 1) * 2 ^ 149 < Flt.A (Flt.mg a) * 2 ∨ (Flt.A (Flt.mg a) * 2 = (2 * (Flt.A (Flt.mg a) / 2 ^ 149) + 1) * 2 ^ 149 ∧ Flt.A (Flt.mg a) / 2 ^ 149 % 2 = 1)) := by
          unfold Flt.goes
          rw [if_neg (by decide), if_neg (by decide), even_gt, even_eq]
          exact ⟨fun h => h.2, fun h => ⟨hR, h⟩⟩
        rcases Nat.lt_trichotomy ((2 * (Flt.A (Flt.mg a) / 2 ^ 149) + 1) * 2 ^ 149) (Flt.A (Flt.mg a) * 2) with hc | hc | hc
        · refine (rwhole_2gt a _ (Flt.mg a) _ h0 h1 hn eabs i1 i2 i3 hcut rfl (by omega) (by omega) hex hc w).mono ?_
          rintro e w1 ⟨⟨r, rfl, hr⟩, hb1⟩
          exact ⟨ret_int (one _ _ r rfl (goN (hg.2 (.inl hc))) hr), hb1⟩
        · rcases Nat.mod_two_eq_zero_or_one (Flt.A (Flt.mg a) / 2 ^ 149) with hp | hp
          · refine (rwhole_2ev a _ (Flt.mg a) _ h0 h1 hn eabs i1 i2 i3 hcut rfl (by omega) (by omega) hex hc.symm hp w).mono ?_
            rintro e w1 ⟨⟨r, rfl, hr⟩, hb1⟩
            refine ⟨ret_int (one _ _ r rfl (stN ?_) hr), hb1⟩
            rw [hg]; rintro (g | ⟨_, g⟩)
            · rw [hc] at g; exact absurd g (Nat.lt_irrefl _)
            · rw [hp] at g; cases g
          · refine (rwhole_2odd a _ (Flt.mg a) _ h0 h1 hn eabs i1 i2 i3 hcut rfl (by omega) (by omega) hex hc.symm hp w).mono ?_
            rintro e w1 ⟨⟨r, rfl, hr⟩, hb1⟩
            exact ⟨ret_int (one _ _ r rfl (goN (hg.2 (.inr ⟨hc.symm, hp⟩))) hr), hb1⟩
        · refine (rwhole_2lt a _ (Flt.mg a) _ h0 h1 hn eabs i1 i2 i3 hcut rfl (by omega) (by omega) hex hc w).mono ?_
          rintro e w1 ⟨⟨r, rfl, hr⟩, hb1⟩
          refine ⟨ret_int (one _ _ r rfl (stN ?_) hr), hb1⟩
          rw [hg]; rintro (g | ⟨g, _⟩)
          · exact absurd (Nat.lt_trans g hc) (Nat.lt_irrefl _)
          · rw [g] at hc; exact absurd hc (Nat.lt_irrefl _)
end Go.Proofs.YtkbniebahledmabGreat
