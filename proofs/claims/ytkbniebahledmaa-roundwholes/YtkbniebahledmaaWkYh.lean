/-
  The walk of the document's answer to Floor, Ceil and Even.
-/
import Derived.Test.YtkbniebahledmaaWkYg
namespace Go.Proofs.Ytkbniebahledmaa
open Go.RowKit
set_option linter.unusedVariables false

theorem mod_of {ni : Int} {n : Nat} (h : ni = (n : Int)) : ni % 2 = ((n % 2 : Nat) : Int) := by omega
theorem two_of {ni : Int} {n : Nat} (h : ni = (n : Int)) : (2 * ni + 1).toNat = 2 * n + 1 := by omega
theorem odd_of (n : Nat) (h : ((n % 2 : Nat) : Int) = 1) : n % 2 = 1 := by omega
theorem lt_of_cmp {x y : Nat} {d : Int} (h : d ≤ 0 ↔ x ≤ y) (hd : 0 < d) : y < x := by
  rcases Nat.lt_or_ge y x with g | g
  · exact g
  · have := h.2 g; omega
theorem cmp_neg {x y : Nat} {d : Int} (h : d ≤ 0 ↔ x ≤ y) (hz : d = 0 ↔ x = y) (hd : x < y) : d < 0 := by
  have a := h.2 (Nat.le_of_lt hd)
  have b : d ≠ 0 := fun e => by have := hz.1 e; omega
  omega
theorem ne_neg {d : Int} (h : d < 0) : (d == 0) = false := by rw [beq_eq_false_iff_ne]; omega
theorem gt_neg {d : Int} (h : d < 0) : decide (0 < d) = false := by rw [decide_eq_false_iff_not]; omega
theorem mod_val {ni : Int} {n b : Nat} (h : ni = (n : Int)) (hb : n % 2 = b) : ni % 2 = (b : Int) := by omega
theorem cmp_of_lt {x y : Nat} {d : Int} (h : d ≤ 0 ↔ x ≤ y) (hd : y < x) : 0 < d := by
  rcases Int.lt_or_le 0 d with g | g
  · exact g
  · have := h.1 g; omega

set_option maxRecDepth 100000 in
set_option maxHeartbeats 1000000 in
theorem rwhole_x (how a : Int) (h0 : 0 ≤ a) (h1 : a < 4294967296) (hx : Flt.isNaN a = true ∨ 1266679808 ≤ Flt.absF a ∨ Flt.absF a = 0) (w : World) :
    Calls Try.prog 9 #[.int .i64 how, .int .u32 a] w fun e w' => e = .returned (.int .u32 (Flt.canon a)) ∧ w' = w := by
  unfold Flt.canon
  have ra : 0 ≤ Flt.absF a ∧ Flt.absF a < 2147483648 := by unfold Flt.absF; omega
  obtain ⟨ra0, ra1⟩ := ra
  cases hn : Flt.isNaN a
  · rw [if_neg (by simp)]
    rcases hx with h | h | h
    · rw [hn] at h; cases h
    · have hi' : decide (1266679808 ≤ Flt.absF a) = true := by simp [h]
      go_enter Try.func9, Try.ntmps9
      go_wp2_with (first | (go_at_call 29; refine (risNone_any _ (by assumption) (by assumption) _).mono ?_; rintro e w' ⟨rfl, rfl⟩) | (go_at_call 30; refine (rabs_any _ (by assumption) (by assumption) _).mono ?_; rintro e w' ⟨rfl, rfl⟩))
      go_ret
      exact ⟨rfl, rfl⟩
    · go_enter Try.func9, Try.ntmps9
      go_wp2_with (first | (go_at_call 29; refine (risNone_any _ (by assumption) (by assumption) _).mono ?_; rintro e w' ⟨rfl, rfl⟩) | (go_at_call 30; refine (rabs_any _ (by assumption) (by assumption) _).mono ?_; rintro e w' ⟨rfl, rfl⟩))
      go_ret
      exact ⟨rfl, rfl⟩
  · rw [if_pos rfl]
    clear hx
    go_enter Try.func9, Try.ntmps9
    go_wp2_with (first | (go_at_call 29; refine (risNone_any _ (by assumption) (by assumption) _).mono ?_; rintro e w' ⟨rfl, rfl⟩) | (go_at_call 30; refine (rabs_any _ (by assumption) (by assumption) _).mono ?_; rintro e w' ⟨rfl, rfl⟩))
    go_ret
    exact ⟨rfl, rfl⟩

set_option maxRecDepth 100000 in
set_option maxHeartbeats 1000000 in
theorem rwhole_ex0 (a ni : Int) (ma n : Nat) (h0 : 0 ≤ a) (h1 : a < 4294967296) (nn : Flt.isNaN a = false) (ea : Flt.absF a = (ma : Int)) (i1 : decide (1266679808 ≤ (ma : Int)) = false) (i2 : ((ma : Int) == 0) = false) (hma : (ma : Int) ≤ 2139095041)
    (hcut : ∀ w, Calls Try.prog 32 #[.int .u32 a] w fun e w' => e = .returned (.tuple #[.int .u64 ni, .bool false]) ∧ w' = w) (hni : ni = (n : Int)) (n0 : 0 ≤ ni) (n1 : ni < 16777216) (hex : n * 2 ^ 149 = Flt.A ma) (w : World) :
    Calls Try.prog 9 #[.int .i64 0, .int .u32 a] w fun e w' => e = .returned (.int .u32 a) ∧ Below w.heap.size w w' := by
  have HCUT := hide hcut
  have HNI := hide hni
  have HMA := hide (show ma ≤ 2139095041 by omega)
  clear hcut hni hma
  have HEX := hide hex
  clear hex
  go_enter Try.func9, Try.ntmps9
  go_wp2_with (first | (go_at_call 29; refine (risNone_any _ (by assumption) (by assumption) _).mono ?_; rintro e w' ⟨rfl, rfl⟩) | (go_at_call 30; refine (rabs_any _ (by assumption) (by assumption) _).mono ?_; rintro e w' ⟨rfl, rfl⟩) | (go_at_call 31; refine (rbelow_any _ (by assumption) (by assumption) _).mono ?_; rintro e w' ⟨rfl, rfl⟩) | (go_at_call 32; refine (unhide HCUT _).mono ?_; rintro e w' ⟨rfl, rfl⟩))
  refine (amount_any ma (unhide HMA) _).mono ?_
  rintro e x1 ⟨⟨v1, rfl, hv1⟩, hb1⟩
  go_wp2_with fail
  refine (of_any ni n0 (by omega) _).mono ?_
  rintro e x2 ⟨⟨v2, rfl, hv2⟩, hb2⟩
  have hbel2 := bl_tr hb1 hb2
  rw [unhide HNI, Int.toNat_natCast] at hv2
  go_wp2_with fail
  refine (twice_any v2 _ 2 149 (by omega) (by omega) _ hv2).mono ?_
  rintro e x3 ⟨⟨v3, rfl, hv3⟩, hb3⟩
  have hbel3 := bl_tr hbel2 hb3
  have hv1' := (hv1.below hb2).below hb3
  go_wp2_with fail
  refine (compare_any v3 v1 _ _ 12 (by omega) _ (hv3.le (by omega)) (hv1'.le (by omega))).mono ?_
  rintro e x4 ⟨rfl, hb4⟩
  have hbel4 := bl_tr hbel3 hb4
  have hv1b := hv1'.below hb4
  have hcz := cmpN_eq (n * 2 ^ 149) (Flt.A ma)
  generalize cmpN (n * 2 ^ 149) (Flt.A ma) = c at hcz ⊢
  have hc : (c == 0) = true := by simp only [beq_iff_eq]; exact hcz.2 (unhide HEX)
  clear hcz
  have HV1 := hide hv1b
  have HB4 := hide hbel4
  clear hv1 hv2 hv3 hv1' hv1b hb1 hb2 hb3 hb4 hbel2 hbel3 hbel4
  go_wp2_with fail
  go_ret
  exact ⟨rfl, unhide HB4⟩

set_option maxRecDepth 100000 in
set_option maxHeartbeats 1000000 in
theorem rwhole_ex1 (a ni : Int) (ma n : Nat) (h0 : 0 ≤ a) (h1 : a < 4294967296) (nn : Flt.isNaN a = false) (ea : Flt.absF a = (ma : Int)) (i1 : decide (1266679808 ≤ (ma : Int)) = false) (i2 : ((ma : Int) == 0) = false) (hma : (ma : Int) ≤ 2139095041)
    (hcut : ∀ w, Calls Try.prog 32 #[.int .u32 a] w fun e w' => e = .returned (.tuple #[.int .u64 ni, .bool false]) ∧ w' = w) (hni : ni = (n : Int)) (n0 : 0 ≤ ni) (n1 : ni < 16777216) (hex : n * 2 ^ 149 = Flt.A ma) (w : World) :
    Calls Try.prog 9 #[.int .i64 1, .int .u32 a] w fun e w' => e = .returned (.int .u32 a) ∧ Below w.heap.size w w' := by
  have HCUT := hide hcut
  have HNI := hide hni
  have HMA := hide (show ma ≤ 2139095041 by omega)
  clear hcut hni hma
  have HEX := hide hex
  clear hex
  go_enter Try.func9, Try.ntmps9
  go_wp2_with (first | (go_at_call 29; refine (risNone_any _ (by assumption) (by assumption) _).mono ?_; rintro e w' ⟨rfl, rfl⟩) | (go_at_call 30; refine (rabs_any _ (by assumption) (by assumption) _).mono ?_; rintro e w' ⟨rfl, rfl⟩) | (go_at_call 31; refine (rbelow_any _ (by assumption) (by assumption) _).mono ?_; rintro e w' ⟨rfl, rfl⟩) | (go_at_call 32; refine (unhide HCUT _).mono ?_; rintro e w' ⟨rfl, rfl⟩))
  refine (amount_any ma (unhide HMA) _).mono ?_
  rintro e x1 ⟨⟨v1, rfl, hv1⟩, hb1⟩
  go_wp2_with fail
  refine (of_any ni n0 (by omega) _).mono ?_
  rintro e x2 ⟨⟨v2, rfl, hv2⟩, hb2⟩
  have hbel2 := bl_tr hb1 hb2
  rw [unhide HNI, Int.toNat_natCast] at hv2
  go_wp2_with fail
  refine (twice_any v2 _ 2 149 (by omega) (by omega) _ hv2).mono ?_
  rintro e x3 ⟨⟨v3, rfl, hv3⟩, hb3⟩
  have hbel3 := bl_tr hbel2 hb3
  have hv1' := (hv1.below hb2).below hb3
  go_wp2_with fail
  refine (compare_any v3 v1 _ _ 12 (by omega) _ (hv3.le (by omega)) (hv1'.le (by omega))).mono ?_
  rintro e x4 ⟨rfl, hb4⟩
  have hbel4 := bl_tr hbel3 hb4
  have hv1b := hv1'.below hb4
  have hcz := cmpN_eq (n * 2 ^ 149) (Flt.A ma)
  generalize cmpN (n * 2 ^ 149) (Flt.A ma) = c at hcz ⊢
  have hc : (c == 0) = true := by simp only [beq_iff_eq]; exact hcz.2 (unhide HEX)
  clear hcz
  have HV1 := hide hv1b
  have HB4 := hide hbel4
  clear hv1 hv2 hv3 hv1' hv1b hb1 hb2 hb3 hb4 hbel2 hbel3 hbel4
  go_wp2_with fail
  go_ret
  exact ⟨rfl, unhide HB4⟩

set_option maxRecDepth 100000 in
set_option maxHeartbeats 1000000 in
theorem rwhole_ex2 (a ni : Int) (ma n : Nat) (h0 : 0 ≤ a) (h1 : a < 4294967296) (nn : Flt.isNaN a = false) (ea : Flt.absF a = (ma : Int)) (i1 : decide (1266679808 ≤ (ma : Int)) = false) (i2 : ((ma : Int) == 0) = false) (hma : (ma : Int) ≤ 2139095041)
    (hcut : ∀ w, Calls Try.prog 32 #[.int .u32 a] w fun e w' => e = .returned (.tuple #[.int .u64 ni, .bool false]) ∧ w' = w) (hni : ni = (n : Int)) (n0 : 0 ≤ ni) (n1 : ni < 16777216) (hex : n * 2 ^ 149 = Flt.A ma) (w : World) :
    Calls Try.prog 9 #[.int .i64 2, .int .u32 a] w fun e w' => e = .returned (.int .u32 a) ∧ Below w.heap.size w w' := by
  have HCUT := hide hcut
  have HNI := hide hni
  have HMA := hide (show ma ≤ 2139095041 by omega)
  clear hcut hni hma
  have HEX := hide hex
  clear hex
  go_enter Try.func9, Try.ntmps9
  go_wp2_with (first | (go_at_call 29; refine (risNone_any _ (by assumption) (by assumption) _).mono ?_; rintro e w' ⟨rfl, rfl⟩) | (go_at_call 30; refine (rabs_any _ (by assumption) (by assumption) _).mono ?_; rintro e w' ⟨rfl, rfl⟩) | (go_at_call 31; refine (rbelow_any _ (by assumption) (by assumption) _).mono ?_; rintro e w' ⟨rfl, rfl⟩) | (go_at_call 32; refine (unhide HCUT _).mono ?_; rintro e w' ⟨rfl, rfl⟩))
  refine (amount_any ma (unhide HMA) _).mono ?_
  rintro e x1 ⟨⟨v1, rfl, hv1⟩, hb1⟩
  go_wp2_with fail
  refine (of_any ni n0 (by omega) _).mono ?_
  rintro e x2 ⟨⟨v2, rfl, hv2⟩, hb2⟩
  have hbel2 := bl_tr hb1 hb2
  rw [unhide HNI, Int.toNat_natCast] at hv2
  go_wp2_with fail
  refine (twice_any v2 _ 2 149 (by omega) (by omega) _ hv2).mono ?_
  rintro e x3 ⟨⟨v3, rfl, hv3⟩, hb3⟩
  have hbel3 := bl_tr hbel2 hb3
  have hv1' := (hv1.below hb2).below hb3
  go_wp2_with fail
  refine (compare_any v3 v1 _ _ 12 (by omega) _ (hv3.le (by omega)) (hv1'.le (by omega))).mono ?_
  rintro e x4 ⟨rfl, hb4⟩
  have hbel4 := bl_tr hbel3 hb4
  have hv1b := hv1'.below hb4
  have hcz := cmpN_eq (n * 2 ^ 149) (Flt.A ma)
  generalize cmpN (n * 2 ^ 149) (Flt.A ma) = c at hcz ⊢
  have hc : (c == 0) = true := by simp only [beq_iff_eq]; exact hcz.2 (unhide HEX)
  clear hcz
  have HV1 := hide hv1b
  have HB4 := hide hbel4
  clear hv1 hv2 hv3 hv1' hv1b hb1 hb2 hb3 hb4 hbel2 hbel3 hbel4
  go_wp2_with fail
  go_ret
  exact ⟨rfl, unhide HB4⟩

set_option maxRecDepth 100000 in
set_option maxHeartbeats 1000000 in
theorem rwhole_0f (a ni : Int) (ma n : Nat) (h0 : 0 ≤ a) (h1 : a < 4294967296) (nn : Flt.isNaN a = false) (ea : Flt.absF a = (ma : Int)) (i1 : decide (1266679808 ≤ (ma : Int)) = false) (i2 : ((ma : Int) == 0) = false) (hma : (ma : Int) ≤ 2139095041) (hg : Flt.sgn a = false)
    (hcut : ∀ w, Calls Try.prog 32 #[.int .u32 a] w fun e w' => e = .returned (.tuple #[.int .u64 ni, .bool false]) ∧ w' = w) (hni : ni = (n : Int)) (n0 : 0 ≤ ni) (n1 : ni < 16777216) (hex : ¬ n * 2 ^ 149 = Flt.A ma) (w : World) :
    Calls Try.prog 9 #[.int .i64 0, .int .u32 a] w fun e w' => (∃ r : Nat, e = .returned (.int .u32 (Flt.signBit false + (r : Int))) ∧ Flt.RN 0 false (n * 2 ^ 149) 1 r) ∧ Below w.heap.size w w' := by
  have HCUT := hide hcut
  have HNI := hide hni
  have HMA := hide (show ma ≤ 2139095041 by omega)
  clear hcut hni hma
  have HEX := hide hex
  clear hex
  go_enter Try.func9, Try.ntmps9
  go_wp2_with (first | (go_at_call 29; refine (risNone_any _ (by assumption) (by assumption) _).mono ?_; rintro e w' ⟨rfl, rfl⟩) | (go_at_call 30; refine (rabs_any _ (by assumption) (by assumption) _).mono ?_; rintro e w' ⟨rfl, rfl⟩) | (go_at_call 31; refine (rbelow_any _ (by assumption) (by assumption) _).mono ?_; rintro e w' ⟨rfl, rfl⟩) | (go_at_call 32; refine (unhide HCUT _).mono ?_; rintro e w' ⟨rfl, rfl⟩))
  refine (amount_any ma (unhide HMA) _).mono ?_
  rintro e x1 ⟨⟨v1, rfl, hv1⟩, hb1⟩
  go_wp2_with fail
  refine (of_any ni n0 (by omega) _).mono ?_
  rintro e x2 ⟨⟨v2, rfl, hv2⟩, hb2⟩
  have hbel2 := bl_tr hb1 hb2
  rw [unhide HNI, Int.toNat_natCast] at hv2
  go_wp2_with fail
  refine (twice_any v2 _ 2 149 (by omega) (by omega) _ hv2).mono ?_
  rintro e x3 ⟨⟨v3, rfl, hv3⟩, hb3⟩
  have hbel3 := bl_tr hbel2 hb3
  have hv1' := (hv1.below hb2).below hb3
  go_wp2_with fail
  refine (compare_any v3 v1 _ _ 12 (by omega) _ (hv3.le (by omega)) (hv1'.le (by omega))).mono ?_
  rintro e x4 ⟨rfl, hb4⟩
  have hbel4 := bl_tr hbel3 hb4
  have hv1b := hv1'.below hb4
  have hcz := cmpN_eq (n * 2 ^ 149) (Flt.A ma)
  generalize cmpN (n * 2 ^ 149) (Flt.A ma) = c at hcz ⊢
  have hc : (c == 0) = false := by rw [beq_eq_false_iff_ne]; exact fun h => unhide HEX (hcz.1 h)
  clear hcz
  have HV1 := hide hv1b
  have HB4 := hide hbel4
  clear hv1 hv2 hv3 hv1' hv1b hb1 hb2 hb3 hb4 hbel2 hbel3 hbel4
  go_wp2_with fail
  refine (of_any (ni) (by omega) (by omega) _).mono ?_
  rintro e y1 ⟨⟨u1, rfl, hu1⟩, hd1⟩
  have hbd1 := bl_tr (unhide HB4) hd1
  rw [show (ni).toNat = n by have := unhide HNI; omega] at hu1
  go_wp2_with fail
  refine (twice_any u1 _ 2 149 (by omega) (by omega) _ hu1).mono ?_
  rintro e y2 ⟨⟨u2, rfl, hu2⟩, hd2⟩
  have hbd2 := bl_tr hbd1 hd2
  go_wp2_with fail
  refine (of_any 1 (by omega) (by omega) _).mono ?_
  rintro e y3 ⟨⟨u3, rfl, hu3⟩, hd3⟩
  have hbd3 := bl_tr hbd2 hd3
  go_wp2_with fail
  refine (rounded_any 0 false u2 u3 _ 1 12 (by omega) (by decide) _ ((hu2.below hd3).le (by omega)) ((hu3.cast (by simp)).le (by omega))).mono ?_
  rintro e y4 ⟨⟨r, rfl, hr⟩, hd4⟩
  go_wp2_with fail
  go_ret
  exact ⟨⟨r, rfl, hr⟩, bl_tr hbd3 hd4⟩

set_option maxRecDepth 100000 in
set_option maxHeartbeats 1000000 in
theorem rwhole_0t (a ni : Int) (ma n : Nat) (h0 : 0 ≤ a) (h1 : a < 4294967296) (nn : Flt.isNaN a = false) (ea : Flt.absF a = (ma : Int)) (i1 : decide (1266679808 ≤ (ma : Int)) = false) (i2 : ((ma : Int) == 0) = false) (hma : (ma : Int) ≤ 2139095041) (hg : Flt.sgn a = true)
    (hcut : ∀ w, Calls Try.prog 32 #[.int .u32 a] w fun e w' => e = .returned (.tuple #[.int .u64 ni, .bool false]) ∧ w' = w) (hni : ni = (n : Int)) (n0 : 0 ≤ ni) (n1 : ni < 16777216) (hex : ¬ n * 2 ^ 149 = Flt.A ma) (w : World) :
    Calls Try.prog 9 #[.int .i64 0, .int .u32 a] w fun e w' => (∃ r : Nat, e = .returned (.int .u32 (Flt.signBit true + (r : Int))) ∧ Flt.RN 0 true ((n + 1) * 2 ^ 149) 1 r) ∧ Below w.heap.size w w' := by
  have HCUT := hide hcut
  have HNI := hide hni
  have HMA := hide (show ma ≤ 2139095041 by omega)
  clear hcut hni hma
  have HEX := hide hex
  clear hex
  go_enter Try.func9, Try.ntmps9
  go_wp2_with (first | (go_at_call 29; refine (risNone_any _ (by assumption) (by assumption) _).mono ?_; rintro e w' ⟨rfl, rfl⟩) | (go_at_call 30; refine (rabs_any _ (by assumption) (by assumption) _).mono ?_; rintro e w' ⟨rfl, rfl⟩) | (go_at_call 31; refine (rbelow_any _ (by assumption) (by assumption) _).mono ?_; rintro e w' ⟨rfl, rfl⟩) | (go_at_call 32; refine (unhide HCUT _).mono ?_; rintro e w' ⟨rfl, rfl⟩))
  refine (amount_any ma (unhide HMA) _).mono ?_
  rintro e x1 ⟨⟨v1, rfl, hv1⟩, hb1⟩
  go_wp2_with fail
  refine (of_any ni n0 (by omega) _).mono ?_
  rintro e x2 ⟨⟨v2, rfl, hv2⟩, hb2⟩
  have hbel2 := bl_tr hb1 hb2
  rw [unhide HNI, Int.toNat_natCast] at hv2
  go_wp2_with fail
  refine (twice_any v2 _ 2 149 (by omega) (by omega) _ hv2).mono ?_
  rintro e x3 ⟨⟨v3, rfl, hv3⟩, hb3⟩
  have hbel3 := bl_tr hbel2 hb3
  have hv1' := (hv1.below hb2).below hb3
  go_wp2_with fail
  refine (compare_any v3 v1 _ _ 12 (by omega) _ (hv3.le (by omega)) (hv1'.le (by omega))).mono ?_
  rintro e x4 ⟨rfl, hb4⟩
  have hbel4 := bl_tr hbel3 hb4
  have hv1b := hv1'.below hb4
  have hcz := cmpN_eq (n * 2 ^ 149) (Flt.A ma)
  generalize cmpN (n * 2 ^ 149) (Flt.A ma) = c at hcz ⊢
  have hc : (c == 0) = false := by rw [beq_eq_false_iff_ne]; exact fun h => unhide HEX (hcz.1 h)
  clear hcz
  have HV1 := hide hv1b
  have HB4 := hide hbel4
  clear hv1 hv2 hv3 hv1' hv1b hb1 hb2 hb3 hb4 hbel2 hbel3 hbel4
  go_wp2_with fail
  refine (of_any (ni + 1) (by omega) (by omega) _).mono ?_
  rintro e y1 ⟨⟨u1, rfl, hu1⟩, hd1⟩
  have hbd1 := bl_tr (unhide HB4) hd1
  rw [show (ni + 1).toNat = (n + 1) by have := unhide HNI; omega] at hu1
  go_wp2_with fail
  refine (twice_any u1 _ 2 149 (by omega) (by omega) _ hu1).mono ?_
  rintro e y2 ⟨⟨u2, rfl, hu2⟩, hd2⟩
  have hbd2 := bl_tr hbd1 hd2
  go_wp2_with fail
  refine (of_any 1 (by omega) (by omega) _).mono ?_
  rintro e y3 ⟨⟨u3, rfl, hu3⟩, hd3⟩
  have hbd3 := bl_tr hbd2 hd3
  go_wp2_with fail
  refine (rounded_any 0 true u2 u3 _ 1 12 (by omega) (by decide) _ ((hu2.below hd3).le (by omega)) ((hu3.cast (by simp)).le (by omega))).mono ?_
  rintro e y4 ⟨⟨r, rfl, hr⟩, hd4⟩
  go_wp2_with fail
  go_ret
  exact ⟨⟨r, rfl, hr⟩, bl_tr hbd3 hd4⟩

set_option maxRecDepth 100000 in
set_option maxHeartbeats 1000000 in
theorem rwhole_1f (a ni : Int) (ma n : Nat) (h0 : 0 ≤ a) (h1 : a < 4294967296) (nn : Flt.isNaN a = false) (ea : Flt.absF a = (ma : Int)) (i1 : decide (1266679808 ≤ (ma : Int)) = false) (i2 : ((ma : Int) == 0) = false) (hma : (ma : Int) ≤ 2139095041) (hg : Flt.sgn a = false)
    (hcut : ∀ w, Calls Try.prog 32 #[.int .u32 a] w fun e w' => e = .returned (.tuple #[.int .u64 ni, .bool false]) ∧ w' = w) (hni : ni = (n : Int)) (n0 : 0 ≤ ni) (n1 : ni < 16777216) (hex : ¬ n * 2 ^ 149 = Flt.A ma) (w : World) :
    Calls Try.prog 9 #[.int .i64 1, .int .u32 a] w fun e w' => (∃ r : Nat, e = .returned (.int .u32 (Flt.signBit false + (r : Int))) ∧ Flt.RN 0 false ((n + 1) * 2 ^ 149) 1 r) ∧ Below w.heap.size w w' := by
  have HCUT := hide hcut
  have HNI := hide hni
  have HMA := hide (show ma ≤ 2139095041 by omega)
  clear hcut hni hma
  have HEX := hide hex
  clear hex
  go_enter Try.func9, Try.ntmps9
  go_wp2_with (first | (go_at_call 29; refine (risNone_any _ (by assumption) (by assumption) _).mono ?_; rintro e w' ⟨rfl, rfl⟩) | (go_at_call 30; refine (rabs_any _ (by assumption) (by assumption) _).mono ?_; rintro e w' ⟨rfl, rfl⟩) | (go_at_call 31; refine (rbelow_any _ (by assumption) (by assumption) _).mono ?_; rintro e w' ⟨rfl, rfl⟩) | (go_at_call 32; refine (unhide HCUT _).mono ?_; rintro e w' ⟨rfl, rfl⟩))
  refine (amount_any ma (unhide HMA) _).mono ?_
  rintro e x1 ⟨⟨v1, rfl, hv1⟩, hb1⟩
  go_wp2_with fail
  refine (of_any ni n0 (by omega) _).mono ?_
  rintro e x2 ⟨⟨v2, rfl, hv2⟩, hb2⟩
  have hbel2 := bl_tr hb1 hb2
  rw [unhide HNI, Int.toNat_natCast] at hv2
  go_wp2_with fail
  refine (twice_any v2 _ 2 149 (by omega) (by omega) _ hv2).mono ?_
  rintro e x3 ⟨⟨v3, rfl, hv3⟩, hb3⟩
  have hbel3 := bl_tr hbel2 hb3
  have hv1' := (hv1.below hb2).below hb3
  go_wp2_with fail
  refine (compare_any v3 v1 _ _ 12 (by omega) _ (hv3.le (by omega)) (hv1'.le (by omega))).mono ?_
  rintro e x4 ⟨rfl, hb4⟩
  have hbel4 := bl_tr hbel3 hb4
  have hv1b := hv1'.below hb4
  have hcz := cmpN_eq (n * 2 ^ 149) (Flt.A ma)
  generalize cmpN (n * 2 ^ 149) (Flt.A ma) = c at hcz ⊢
  have hc : (c == 0) = false := by rw [beq_eq_false_iff_ne]; exact fun h => unhide HEX (hcz.1 h)
  clear hcz
  have HV1 := hide hv1b
  have HB4 := hide hbel4
  clear hv1 hv2 hv3 hv1' hv1b hb1 hb2 hb3 hb4 hbel2 hbel3 hbel4
  go_wp2_with fail
  refine (of_any (ni + 1) (by omega) (by omega) _).mono ?_
  rintro e y1 ⟨⟨u1, rfl, hu1⟩, hd1⟩
  have hbd1 := bl_tr (unhide HB4) hd1
  rw [show (ni + 1).toNat = (n + 1) by have := unhide HNI; omega] at hu1
  go_wp2_with fail
  refine (twice_any u1 _ 2 149 (by omega) (by omega) _ hu1).mono ?_
  rintro e y2 ⟨⟨u2, rfl, hu2⟩, hd2⟩
  have hbd2 := bl_tr hbd1 hd2
  go_wp2_with fail
  refine (of_any 1 (by omega) (by omega) _).mono ?_
  rintro e y3 ⟨⟨u3, rfl, hu3⟩, hd3⟩
  have hbd3 := bl_tr hbd2 hd3
  go_wp2_with fail
  refine (rounded_any 0 false u2 u3 _ 1 12 (by omega) (by decide) _ ((hu2.below hd3).le (by omega)) ((hu3.cast (by simp)).le (by omega))).mono ?_
  rintro e y4 ⟨⟨r, rfl, hr⟩, hd4⟩
  go_wp2_with fail
  go_ret
  exact ⟨⟨r, rfl, hr⟩, bl_tr hbd3 hd4⟩

set_option maxRecDepth 100000 in
set_option maxHeartbeats 1000000 in
theorem rwhole_1t (a ni : Int) (ma n : Nat) (h0 : 0 ≤ a) (h1 : a < 4294967296) (nn : Flt.isNaN a = false) (ea : Flt.absF a = (ma : Int)) (i1 : decide (1266679808 ≤ (ma : Int)) = false) (i2 : ((ma : Int) == 0) = false) (hma : (ma : Int) ≤ 2139095041) (hg : Flt.sgn a = true)
    (hcut : ∀ w, Calls Try.prog 32 #[.int .u32 a] w fun e w' => e = .returned (.tuple #[.int .u64 ni, .bool false]) ∧ w' = w) (hni : ni = (n : Int)) (n0 : 0 ≤ ni) (n1 : ni < 16777216) (hex : ¬ n * 2 ^ 149 = Flt.A ma) (w : World) :
    Calls Try.prog 9 #[.int .i64 1, .int .u32 a] w fun e w' => (∃ r : Nat, e = .returned (.int .u32 (Flt.signBit true + (r : Int))) ∧ Flt.RN 0 true (n * 2 ^ 149) 1 r) ∧ Below w.heap.size w w' := by
  have HCUT := hide hcut
  have HNI := hide hni
  have HMA := hide (show ma ≤ 2139095041 by omega)
  clear hcut hni hma
  have HEX := hide hex
  clear hex
  go_enter Try.func9, Try.ntmps9
  go_wp2_with (first | (go_at_call 29; refine (risNone_any _ (by assumption) (by assumption) _).mono ?_; rintro e w' ⟨rfl, rfl⟩) | (go_at_call 30; refine (rabs_any _ (by assumption) (by assumption) _).mono ?_; rintro e w' ⟨rfl, rfl⟩) | (go_at_call 31; refine (rbelow_any _ (by assumption) (by assumption) _).mono ?_; rintro e w' ⟨rfl, rfl⟩) | (go_at_call 32; refine (unhide HCUT _).mono ?_; rintro e w' ⟨rfl, rfl⟩))
  refine (amount_any ma (unhide HMA) _).mono ?_
  rintro e x1 ⟨⟨v1, rfl, hv1⟩, hb1⟩
  go_wp2_with fail
  refine (of_any ni n0 (by omega) _).mono ?_
  rintro e x2 ⟨⟨v2, rfl, hv2⟩, hb2⟩
  have hbel2 := bl_tr hb1 hb2
  rw [unhide HNI, Int.toNat_natCast] at hv2
  go_wp2_with fail
  refine (twice_any v2 _ 2 149 (by omega) (by omega) _ hv2).mono ?_
  rintro e x3 ⟨⟨v3, rfl, hv3⟩, hb3⟩
  have hbel3 := bl_tr hbel2 hb3
  have hv1' := (hv1.below hb2).below hb3
  go_wp2_with fail
  refine (compare_any v3 v1 _ _ 12 (by omega) _ (hv3.le (by omega)) (hv1'.le (by omega))).mono ?_
  rintro e x4 ⟨rfl, hb4⟩
  have hbel4 := bl_tr hbel3 hb4
  have hv1b := hv1'.below hb4
  have hcz := cmpN_eq (n * 2 ^ 149) (Flt.A ma)
  generalize cmpN (n * 2 ^ 149) (Flt.A ma) = c at hcz ⊢
  have hc : (c == 0) = false := by rw [beq_eq_false_iff_ne]; exact fun h => unhide HEX (hcz.1 h)
  clear hcz
  have HV1 := hide hv1b
  have HB4 := hide hbel4
  clear hv1 hv2 hv3 hv1' hv1b hb1 hb2 hb3 hb4 hbel2 hbel3 hbel4
  go_wp2_with fail
  refine (of_any (ni) (by omega) (by omega) _).mono ?_
  rintro e y1 ⟨⟨u1, rfl, hu1⟩, hd1⟩
  have hbd1 := bl_tr (unhide HB4) hd1
  rw [show (ni).toNat = n by have := unhide HNI; omega] at hu1
  go_wp2_with fail
  refine (twice_any u1 _ 2 149 (by omega) (by omega) _ hu1).mono ?_
  rintro e y2 ⟨⟨u2, rfl, hu2⟩, hd2⟩
  have hbd2 := bl_tr hbd1 hd2
  go_wp2_with fail
  refine (of_any 1 (by omega) (by omega) _).mono ?_
  rintro e y3 ⟨⟨u3, rfl, hu3⟩, hd3⟩
  have hbd3 := bl_tr hbd2 hd3
  go_wp2_with fail
  refine (rounded_any 0 true u2 u3 _ 1 12 (by omega) (by decide) _ ((hu2.below hd3).le (by omega)) ((hu3.cast (by simp)).le (by omega))).mono ?_
  rintro e y4 ⟨⟨r, rfl, hr⟩, hd4⟩
  go_wp2_with fail
  go_ret
  exact ⟨⟨r, rfl, hr⟩, bl_tr hbd3 hd4⟩

set_option maxRecDepth 100000 in
set_option maxHeartbeats 1000000 in
theorem rwhole_2gt (a ni : Int) (ma n : Nat) (h0 : 0 ≤ a) (h1 : a < 4294967296) (nn : Flt.isNaN a = false) (ea : Flt.absF a = (ma : Int)) (i1 : decide (1266679808 ≤ (ma : Int)) = false) (i2 : ((ma : Int) == 0) = false) (hma : (ma : Int) ≤ 2139095041)
    (hcut : ∀ w, Calls Try.prog 32 #[.int .u32 a] w fun e w' => e = .returned (.tuple #[.int .u64 ni, .bool false]) ∧ w' = w) (hni : ni = (n : Int)) (n0 : 0 ≤ ni) (n1 : ni < 16777216) (hex : ¬ n * 2 ^ 149 = Flt.A ma) (hup : (2 * n + 1) * 2 ^ 149 < Flt.A ma * 2) (w : World) :
    Calls Try.prog 9 #[.int .i64 2, .int .u32 a] w fun e w' => (∃ r : Nat, e = .returned (.int .u32 (Flt.signBit (Flt.sgn a) + (r : Int))) ∧ Flt.RN 0 (Flt.sgn a) ((n + 1) * 2 ^ 149) 1 r) ∧ Below w.heap.size w w' := by
  have HCUT := hide hcut
  have HNI := hide hni
  have HMA := hide (show ma ≤ 2139095041 by omega)
  clear hcut hni hma
  have HEX := hide hex
  have HUP := hide hup
  clear hex hup
  go_enter Try.func9, Try.ntmps9
  go_wp2_with (first | (go_at_call 29; refine (risNone_any _ (by assumption) (by assumption) _).mono ?_; rintro e w' ⟨rfl, rfl⟩) | (go_at_call 30; refine (rabs_any _ (by assumption) (by assumption) _).mono ?_; rintro e w' ⟨rfl, rfl⟩) | (go_at_call 31; refine (rbelow_any _ (by assumption) (by assumption) _).mono ?_; rintro e w' ⟨rfl, rfl⟩) | (go_at_call 32; refine (unhide HCUT _).mono ?_; rintro e w' ⟨rfl, rfl⟩))
  refine (amount_any ma (unhide HMA) _).mono ?_
  rintro e x1 ⟨⟨v1, rfl, hv1⟩, hb1⟩
  go_wp2_with fail
  refine (of_any ni n0 (by omega) _).mono ?_
  rintro e x2 ⟨⟨v2, rfl, hv2⟩, hb2⟩
  have hbel2 := bl_tr hb1 hb2
  rw [unhide HNI, Int.toNat_natCast] at hv2
  go_wp2_with fail
  refine (twice_any v2 _ 2 149 (by omega) (by omega) _ hv2).mono ?_
  rintro e x3 ⟨⟨v3, rfl, hv3⟩, hb3⟩
  have hbel3 := bl_tr hbel2 hb3
  have hv1' := (hv1.below hb2).below hb3
  go_wp2_with fail
  refine (compare_any v3 v1 _ _ 12 (by omega) _ (hv3.le (by omega)) (hv1'.le (by omega))).mono ?_
  rintro e x4 ⟨rfl, hb4⟩
  have hbel4 := bl_tr hbel3 hb4
  have hv1b := hv1'.below hb4
  have hcz := cmpN_eq (n * 2 ^ 149) (Flt.A ma)
  generalize cmpN (n * 2 ^ 149) (Flt.A ma) = c at hcz ⊢
  have hc : (c == 0) = false := by rw [beq_eq_false_iff_ne]; exact fun h => unhide HEX (hcz.1 h)
  clear hcz
  have HV1 := hide hv1b
  have HB4 := hide hbel4
  clear hv1 hv2 hv3 hv1' hv1b hb1 hb2 hb3 hb4 hbel2 hbel3 hbel4
  go_wp2_with fail
  refine (twice_any v1 _ 12 1 (by omega) (by omega) _ (unhide HV1)).mono ?_
  rintro e z1 ⟨⟨t1, rfl, ht1⟩, hc1⟩
  have hbc1 := bl_tr (unhide HB4) hc1
  go_wp2_with fail
  refine (of_any (2 * ni + 1) (by omega) (by omega) _).mono ?_
  rintro e z2 ⟨⟨t2, rfl, ht2⟩, hc2⟩
  have hbc2 := bl_tr hbc1 hc2
  rw [show (2 * ni + 1).toNat = 2 * n + 1 from two_of (unhide HNI)] at ht2
  go_wp2_with fail
  refine (twice_any t2 _ 2 149 (by omega) (by omega) _ ht2).mono ?_
  rintro e z3 ⟨⟨t3, rfl, ht3⟩, hc3⟩
  have hbc3 := bl_tr hbc2 hc3
  go_wp2_with fail
  refine (compare_any t1 t3 _ _ 13 (by omega) _ (((ht1.below hc2).below hc3).le (by omega)) (ht3.le (by omega))).mono ?_
  rintro e z4 ⟨rfl, hc4⟩
  have HB4 := hide (bl_tr hbc3 hc4)
  have hdz := cmpN_eq (Flt.A ma * 2 ^ 1) ((2 * n + 1) * 2 ^ 149)
  have hdl := cmpN_le (Flt.A ma * 2 ^ 1) ((2 * n + 1) * 2 ^ 149)
  rw [Nat.pow_one] at hdz hdl ⊢
  generalize cmpN (Flt.A ma * 2) ((2 * n + 1) * 2 ^ 149) = d at hdz hdl ⊢
  clear ht1 ht2 ht3 hc1 hc2 hc3 hc4 hbc1 hbc2 hbc3 HV1
  have d0 : 0 < d := cmp_of_lt hdl (unhide HUP)
  clear hdz hdl HUP
  go_wp2_with fail
  refine (of_any (ni + 1) (by omega) (by omega) _).mono ?_
  rintro e y1 ⟨⟨u1, rfl, hu1⟩, hd1⟩
  have hbd1 := bl_tr (unhide HB4) hd1
  rw [show (ni + 1).toNat = (n + 1) by have := unhide HNI; omega] at hu1
  go_wp2_with fail
  refine (twice_any u1 _ 2 149 (by omega) (by omega) _ hu1).mono ?_
  rintro e y2 ⟨⟨u2, rfl, hu2⟩, hd2⟩
  have hbd2 := bl_tr hbd1 hd2
  go_wp2_with fail
  refine (of_any 1 (by omega) (by omega) _).mono ?_
  rintro e y3 ⟨⟨u3, rfl, hu3⟩, hd3⟩
  have hbd3 := bl_tr hbd2 hd3
  go_wp2_with fail
  refine (rounded_any 0 (Flt.sgn a) u2 u3 _ 1 12 (by omega) (by decide) _ ((hu2.below hd3).le (by omega)) ((hu3.cast (by simp)).le (by omega))).mono ?_
  rintro e y4 ⟨⟨r, rfl, hr⟩, hd4⟩
  go_wp2_with fail
  go_ret
  exact ⟨⟨r, rfl, hr⟩, bl_tr hbd3 hd4⟩

set_option maxRecDepth 100000 in
set_option maxHeartbeats 1000000 in
theorem rwhole_2odd (a ni : Int) (ma n : Nat) (h0 : 0 ≤ a) (h1 : a < 4294967296) (nn : Flt.isNaN a = false) (ea : Flt.absF a = (ma : Int)) (i1 : decide (1266679808 ≤ (ma : Int)) = false) (i2 : ((ma : Int) == 0) = false) (hma : (ma : Int) ≤ 2139095041)
    (hcut : ∀ w, Calls Try.prog 32 #[.int .u32 a] w fun e w' => e = .returned (.tuple #[.int .u64 ni, .bool false]) ∧ w' = w) (hni : ni = (n : Int)) (n0 : 0 ≤ ni) (n1 : ni < 16777216) (hex : ¬ n * 2 ^ 149 = Flt.A ma) (hup : Flt.A ma * 2 = (2 * n + 1) * 2 ^ 149) (hodd : n % 2 = 1) (w : World) :
    Calls Try.prog 9 #[.int .i64 2, .int .u32 a] w fun e w' => (∃ r : Nat, e = .returned (.int .u32 (Flt.signBit (Flt.sgn a) + (r : Int))) ∧ Flt.RN 0 (Flt.sgn a) ((n + 1) * 2 ^ 149) 1 r) ∧ Below w.heap.size w w' := by
  have HCUT := hide hcut
  have HNI := hide hni
  have HMA := hide (show ma ≤ 2139095041 by omega)
  clear hcut hni hma
  have HEX := hide hex
  have HUP := hide hup
  clear hex hup
  have HODD := hide hodd
  clear hodd
  go_enter Try.func9, Try.ntmps9
  go_wp2_with (first | (go_at_call 29; refine (risNone_any _ (by assumption) (by assumption) _).mono ?_; rintro e w' ⟨rfl, rfl⟩) | (go_at_call 30; refine (rabs_any _ (by assumption) (by assumption) _).mono ?_; rintro e w' ⟨rfl, rfl⟩) | (go_at_call 31; refine (rbelow_any _ (by assumption) (by assumption) _).mono ?_; rintro e w' ⟨rfl, rfl⟩) | (go_at_call 32; refine (unhide HCUT _).mono ?_; rintro e w' ⟨rfl, rfl⟩))
  refine (amount_any ma (unhide HMA) _).mono ?_
  rintro e x1 ⟨⟨v1, rfl, hv1⟩, hb1⟩
  go_wp2_with fail
  refine (of_any ni n0 (by omega) _).mono ?_
  rintro e x2 ⟨⟨v2, rfl, hv2⟩, hb2⟩
  have hbel2 := bl_tr hb1 hb2
  rw [unhide HNI, Int.toNat_natCast] at hv2
  go_wp2_with fail
  refine (twice_any v2 _ 2 149 (by omega) (by omega) _ hv2).mono ?_
  rintro e x3 ⟨⟨v3, rfl, hv3⟩, hb3⟩
  have hbel3 := bl_tr hbel2 hb3
  have hv1' := (hv1.below hb2).below hb3
  go_wp2_with fail
  refine (compare_any v3 v1 _ _ 12 (by omega) _ (hv3.le (by omega)) (hv1'.le (by omega))).mono ?_
  rintro e x4 ⟨rfl, hb4⟩
  have hbel4 := bl_tr hbel3 hb4
  have hv1b := hv1'.below hb4
  have hcz := cmpN_eq (n * 2 ^ 149) (Flt.A ma)
  generalize cmpN (n * 2 ^ 149) (Flt.A ma) = c at hcz ⊢
  have hc : (c == 0) = false := by rw [beq_eq_false_iff_ne]; exact fun h => unhide HEX (hcz.1 h)
  clear hcz
  have HV1 := hide hv1b
  have HB4 := hide hbel4
  clear hv1 hv2 hv3 hv1' hv1b hb1 hb2 hb3 hb4 hbel2 hbel3 hbel4
  go_wp2_with fail
  refine (twice_any v1 _ 12 1 (by omega) (by omega) _ (unhide HV1)).mono ?_
  rintro e z1 ⟨⟨t1, rfl, ht1⟩, hc1⟩
  have hbc1 := bl_tr (unhide HB4) hc1
  go_wp2_with fail
  refine (of_any (2 * ni + 1) (by omega) (by omega) _).mono ?_
  rintro e z2 ⟨⟨t2, rfl, ht2⟩, hc2⟩
  have hbc2 := bl_tr hbc1 hc2
  rw [show (2 * ni + 1).toNat = 2 * n + 1 from two_of (unhide HNI)] at ht2
  go_wp2_with fail
  refine (twice_any t2 _ 2 149 (by omega) (by omega) _ ht2).mono ?_
  rintro e z3 ⟨⟨t3, rfl, ht3⟩, hc3⟩
  have hbc3 := bl_tr hbc2 hc3
  go_wp2_with fail
  refine (compare_any t1 t3 _ _ 13 (by omega) _ (((ht1.below hc2).below hc3).le (by omega)) (ht3.le (by omega))).mono ?_
  rintro e z4 ⟨rfl, hc4⟩
  have HB4 := hide (bl_tr hbc3 hc4)
  have hdz := cmpN_eq (Flt.A ma * 2 ^ 1) ((2 * n + 1) * 2 ^ 149)
  have hdl := cmpN_le (Flt.A ma * 2 ^ 1) ((2 * n + 1) * 2 ^ 149)
  rw [Nat.pow_one] at hdz hdl ⊢
  generalize cmpN (Flt.A ma * 2) ((2 * n + 1) * 2 ^ 149) = d at hdz hdl ⊢
  clear ht1 ht2 ht3 hc1 hc2 hc3 hc4 hbc1 hbc2 hbc3 HV1
  have d0 : d = 0 := hdz.2 (unhide HUP)
  subst d0
  have hm1 : ni % 2 = 1 := mod_val (unhide HNI) (unhide HODD)
  clear hdz hdl HUP HODD
  go_wp2_with fail
  refine (of_any (ni + 1) (by omega) (by omega) _).mono ?_
  rintro e y1 ⟨⟨u1, rfl, hu1⟩, hd1⟩
  have hbd1 := bl_tr (unhide HB4) hd1
  rw [show (ni + 1).toNat = (n + 1) by have := unhide HNI; omega] at hu1
  go_wp2_with fail
  refine (twice_any u1 _ 2 149 (by omega) (by omega) _ hu1).mono ?_
  rintro e y2 ⟨⟨u2, rfl, hu2⟩, hd2⟩
  have hbd2 := bl_tr hbd1 hd2
  go_wp2_with fail
  refine (of_any 1 (by omega) (by omega) _).mono ?_
  rintro e y3 ⟨⟨u3, rfl, hu3⟩, hd3⟩
  have hbd3 := bl_tr hbd2 hd3
  go_wp2_with fail
  refine (rounded_any 0 (Flt.sgn a) u2 u3 _ 1 12 (by omega) (by decide) _ ((hu2.below hd3).le (by omega)) ((hu3.cast (by simp)).le (by omega))).mono ?_
  rintro e y4 ⟨⟨r, rfl, hr⟩, hd4⟩
  go_wp2_with fail
  go_ret
  exact ⟨⟨r, rfl, hr⟩, bl_tr hbd3 hd4⟩

set_option maxRecDepth 100000 in
set_option maxHeartbeats 1000000 in
theorem rwhole_2ev (a ni : Int) (ma n : Nat) (h0 : 0 ≤ a) (h1 : a < 4294967296) (nn : Flt.isNaN a = false) (ea : Flt.absF a = (ma : Int)) (i1 : decide (1266679808 ≤ (ma : Int)) = false) (i2 : ((ma : Int) == 0) = false) (hma : (ma : Int) ≤ 2139095041)
    (hcut : ∀ w, Calls Try.prog 32 #[.int .u32 a] w fun e w' => e = .returned (.tuple #[.int .u64 ni, .bool false]) ∧ w' = w) (hni : ni = (n : Int)) (n0 : 0 ≤ ni) (n1 : ni < 16777216) (hex : ¬ n * 2 ^ 149 = Flt.A ma) (hup : Flt.A ma * 2 = (2 * n + 1) * 2 ^ 149) (hodd : n % 2 = 0) (w : World) :
    Calls Try.prog 9 #[.int .i64 2, .int .u32 a] w fun e w' => (∃ r : Nat, e = .returned (.int .u32 (Flt.signBit (Flt.sgn a) + (r : Int))) ∧ Flt.RN 0 (Flt.sgn a) (n * 2 ^ 149) 1 r) ∧ Below w.heap.size w w' := by
  have HCUT := hide hcut
  have HNI := hide hni
  have HMA := hide (show ma ≤ 2139095041 by omega)
  clear hcut hni hma
  have HEX := hide hex
  have HUP := hide hup
  clear hex hup
  have HODD := hide hodd
  clear hodd
  go_enter Try.func9, Try.ntmps9
  go_wp2_with (first | (go_at_call 29; refine (risNone_any _ (by assumption) (by assumption) _).mono ?_; rintro e w' ⟨rfl, rfl⟩) | (go_at_call 30; refine (rabs_any _ (by assumption) (by assumption) _).mono ?_; rintro e w' ⟨rfl, rfl⟩) | (go_at_call 31; refine (rbelow_any _ (by assumption) (by assumption) _).mono ?_; rintro e w' ⟨rfl, rfl⟩) | (go_at_call 32; refine (unhide HCUT _).mono ?_; rintro e w' ⟨rfl, rfl⟩))
  refine (amount_any ma (unhide HMA) _).mono ?_
  rintro e x1 ⟨⟨v1, rfl, hv1⟩, hb1⟩
  go_wp2_with fail
  refine (of_any ni n0 (by omega) _).mono ?_
  rintro e x2 ⟨⟨v2, rfl, hv2⟩, hb2⟩
  have hbel2 := bl_tr hb1 hb2
  rw [unhide HNI, Int.toNat_natCast] at hv2
  go_wp2_with fail
  refine (twice_any v2 _ 2 149 (by omega) (by omega) _ hv2).mono ?_
  rintro e x3 ⟨⟨v3, rfl, hv3⟩, hb3⟩
  have hbel3 := bl_tr hbel2 hb3
  have hv1' := (hv1.below hb2).below hb3
  go_wp2_with fail
  refine (compare_any v3 v1 _ _ 12 (by omega) _ (hv3.le (by omega)) (hv1'.le (by omega))).mono ?_
  rintro e x4 ⟨rfl, hb4⟩
  have hbel4 := bl_tr hbel3 hb4
  have hv1b := hv1'.below hb4
  have hcz := cmpN_eq (n * 2 ^ 149) (Flt.A ma)
  generalize cmpN (n * 2 ^ 149) (Flt.A ma) = c at hcz ⊢
  have hc : (c == 0) = false := by rw [beq_eq_false_iff_ne]; exact fun h => unhide HEX (hcz.1 h)
  clear hcz
  have HV1 := hide hv1b
  have HB4 := hide hbel4
  clear hv1 hv2 hv3 hv1' hv1b hb1 hb2 hb3 hb4 hbel2 hbel3 hbel4
  go_wp2_with fail
  refine (twice_any v1 _ 12 1 (by omega) (by omega) _ (unhide HV1)).mono ?_
  rintro e z1 ⟨⟨t1, rfl, ht1⟩, hc1⟩
  have hbc1 := bl_tr (unhide HB4) hc1
  go_wp2_with fail
  refine (of_any (2 * ni + 1) (by omega) (by omega) _).mono ?_
  rintro e z2 ⟨⟨t2, rfl, ht2⟩, hc2⟩
  have hbc2 := bl_tr hbc1 hc2
  rw [show (2 * ni + 1).toNat = 2 * n + 1 from two_of (unhide HNI)] at ht2
  go_wp2_with fail
  refine (twice_any t2 _ 2 149 (by omega) (by omega) _ ht2).mono ?_
  rintro e z3 ⟨⟨t3, rfl, ht3⟩, hc3⟩
  have hbc3 := bl_tr hbc2 hc3
  go_wp2_with fail
  refine (compare_any t1 t3 _ _ 13 (by omega) _ (((ht1.below hc2).below hc3).le (by omega)) (ht3.le (by omega))).mono ?_
  rintro e z4 ⟨rfl, hc4⟩
  have HB4 := hide (bl_tr hbc3 hc4)
  have hdz := cmpN_eq (Flt.A ma * 2 ^ 1) ((2 * n + 1) * 2 ^ 149)
  have hdl := cmpN_le (Flt.A ma * 2 ^ 1) ((2 * n + 1) * 2 ^ 149)
  rw [Nat.pow_one] at hdz hdl ⊢
  generalize cmpN (Flt.A ma * 2) ((2 * n + 1) * 2 ^ 149) = d at hdz hdl ⊢
  clear ht1 ht2 ht3 hc1 hc2 hc3 hc4 hbc1 hbc2 hbc3 HV1
  have d0 : d = 0 := hdz.2 (unhide HUP)
  subst d0
  have hm1 : ni % 2 = 0 := mod_val (unhide HNI) (unhide HODD)
  clear hdz hdl HUP HODD
  go_wp2_with fail
  refine (of_any (ni) (by omega) (by omega) _).mono ?_
  rintro e y1 ⟨⟨u1, rfl, hu1⟩, hd1⟩
  have hbd1 := bl_tr (unhide HB4) hd1
  rw [show (ni).toNat = n by have := unhide HNI; omega] at hu1
  go_wp2_with fail
  refine (twice_any u1 _ 2 149 (by omega) (by omega) _ hu1).mono ?_
  rintro e y2 ⟨⟨u2, rfl, hu2⟩, hd2⟩
  have hbd2 := bl_tr hbd1 hd2
  go_wp2_with fail
  refine (of_any 1 (by omega) (by omega) _).mono ?_
  rintro e y3 ⟨⟨u3, rfl, hu3⟩, hd3⟩
  have hbd3 := bl_tr hbd2 hd3
  go_wp2_with fail
  refine (rounded_any 0 (Flt.sgn a) u2 u3 _ 1 12 (by omega) (by decide) _ ((hu2.below hd3).le (by omega)) ((hu3.cast (by simp)).le (by omega))).mono ?_
  rintro e y4 ⟨⟨r, rfl, hr⟩, hd4⟩
  go_wp2_with fail
  go_ret
  exact ⟨⟨r, rfl, hr⟩, bl_tr hbd3 hd4⟩
end Go.Proofs.Ytkbniebahledmaa
