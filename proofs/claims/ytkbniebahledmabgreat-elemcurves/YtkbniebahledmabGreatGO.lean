import Derived.Test.YtkbniebahledmabGreatGN

/-
  Layer 3: the walks of the reference: Tanh, Erf, Sigmoid, Softplus, Pow.
-/
namespace Go.Proofs.YtkbniebahledmabGreat
open Go.RowKit
set_option linter.unusedVariables false

theorem r_signed (y x : Int) (hy : R y) (hx : R x) (w : World) :
    Calls Tryz.prog 37 #[.int .u32 y, .int .u32 x] w fun e w' => ∃ k, e = .returned (.int .u32 k) ∧ Hid (k = withV x y) ∧ R k ∧ Below w.heap.size w w' := by
  cases hs : Flt.sgn x
  · have hd : decide (2147483648 ≤ x) = false := hs
    go_enter Tryz.func37, Tryz.ntmps37
    go_wp2_with fail
    go_ret
    exact ⟨_, rfl, hide (by unfold withV; rw [hs]; rfl), hy, Below.refl _ _⟩
  · have hd : decide (2147483648 ≤ x) = true := hs
    go_enter Tryz.func37, Tryz.ntmps37
    have hb := Below.refl w.heap.size w
    go_wp2_with fail
    refine (r_neg y hy _).mono ?_
    rintro e w1 ⟨k, rfl, Hk, Rk, B1⟩
    replace hb := bl_tr hb B1
    clear B1
    go_wp2_with fail
    go_ret
    refine ⟨_, rfl, hide ?_, Rk, hb⟩
    rw [unhide Hk]
    unfold withV
    rw [hs]
    rfl

set_option maxRecDepth 100000 in
set_option maxHeartbeats 2000000 in
theorem r_tanh (x : Int) (hx : R x) (w : World) :
    Calls Tryz.prog 7 #[.int .u32 x] w fun e w' => ∃ k, e = .returned (.int .u32 k) ∧ Hid (k = tanhV x) ∧ R k ∧ Below w.heap.size w w' := by
  have ra := R_abs x
  obtain ⟨a, ha⟩ : ∃ a, Flt.absF x = a := ⟨_, rfl⟩
  have CA : Hid (∀ w, Calls Tryz.prog 29 #[.int .u32 x] w fun e w' => e = .returned (.int .u32 a) ∧ Below w.heap.size w w') := hide fun w => by
    refine (r_abs x hx w).mono ?_
    rintro e w1 ⟨k, rfl, Hk, _, B1⟩
    exact ⟨ret_int ((unhide Hk).trans ha), B1⟩
  rw [ha] at ra
  have HA := hide ha
  clear ha
  have hb := Below.refl w.heap.size w
  cases hn : Flt.isNaN x
  · cases hl : Flt.lessF a 0x39800000
    · go_enter Tryz.func7, Tryz.ntmps7
      go_wp2_with (first | (go_at_call 29; refine (unhide CA _).mono ?_; rintro e w1 ⟨rfl, hb1⟩; replace hb := bl_tr hb hb1; clear hb1) | (go_at_call 30; refine (risNone_any _ hx.lo hx.hi _).mono ?_; rintro e w1 ⟨rfl, rfl⟩) | (go_at_call 31; refine (r_less _ _ (by first | exact ra | exact ⟨by omega, by omega⟩) (by first | exact ra | exact ⟨by omega, by omega⟩) _).mono ?_; rintro e w1 ⟨rfl, rfl⟩))
      refine (r_mul 0x40000000 a ⟨by omega, by omega⟩ ra _).mono ?_
      rintro e w1 ⟨b, rfl, Hb, Rb, B1⟩
      replace hb := bl_tr hb B1
      clear B1
      go_wp2_with fail
      refine (r_exp b Rb _).mono ?_
      rintro e w2 ⟨ex, rfl, Hex, Rex, B2⟩
      replace hb := bl_tr hb B2
      clear B2
      go_wp2_with fail
      refine (r_add ex 0x3F800000 Rex ⟨by omega, by omega⟩ _).mono ?_
      rintro e w3 ⟨s, rfl, Hs, Rs, B3⟩
      replace hb := bl_tr hb B3
      clear B3
      go_wp2_with fail
      refine (r_div 0x40000000 s ⟨by omega, by omega⟩ Rs _).mono ?_
      rintro e w4 ⟨d, rfl, Hd, Rd, B4⟩
      replace hb := bl_tr hb B4
      clear B4
      go_wp2_with fail
      refine (r_sub 0x3F800000 d ⟨by omega, by omega⟩ Rd _).mono ?_
      rintro e w5 ⟨t, rfl, Ht, Rt, B5⟩
      replace hb := bl_tr hb B5
      clear B5
      go_wp2_with fail
      refine (r_held t 0 0x3F800000 Rt ⟨by omega, by omega⟩ ⟨by omega, by omega⟩ _).mono ?_
      rintro e w6 ⟨h, rfl, Hh, Rh, B6⟩
      replace hb := bl_tr hb B6
      clear B6
      go_wp2_with fail
      refine (r_signed h x Rh hx _).mono ?_
      rintro e w7 ⟨r, rfl, Hr, Rr, B7⟩
      replace hb := bl_tr hb B7
      clear B7
      go_wp2_with fail
      go_ret
      refine ⟨_, rfl, hide ?_, Rr, hb⟩
      rw [unhide Hr, unhide Hh, unhide Ht, unhide Hd, unhide Hs, unhide Hex, unhide Hb]
      unfold tanhV tanhT
      rw [unhide HA, hn, hl, if_neg (by decide), if_neg (by decide)]
    · go_enter Tryz.func7, Tryz.ntmps7
      go_wp2_with (first | (go_at_call 29; refine (unhide CA _).mono ?_; rintro e w1 ⟨rfl, hb1⟩; replace hb := bl_tr hb hb1; clear hb1) | (go_at_call 30; refine (risNone_any _ hx.lo hx.hi _).mono ?_; rintro e w1 ⟨rfl, rfl⟩) | (go_at_call 31; refine (r_less _ _ (by first | exact ra | exact ⟨by omega, by omega⟩) (by first | exact ra | exact ⟨by omega, by omega⟩) _).mono ?_; rintro e w1 ⟨rfl, rfl⟩))
      go_ret
      exact ⟨_, rfl, hide (by unfold tanhV; rw [unhide HA, hn, hl]; rfl), hx, hb⟩
  · go_enter Tryz.func7, Tryz.ntmps7
    go_wp2_with (first | (go_at_call 29; refine (unhide CA _).mono ?_; rintro e w1 ⟨rfl, hb1⟩; replace hb := bl_tr hb hb1; clear hb1) | (go_at_call 30; refine (risNone_any _ hx.lo hx.hi _).mono ?_; rintro e w1 ⟨rfl, rfl⟩) | (go_at_call 31; refine (r_less _ _ (by first | exact ra | exact ⟨by omega, by omega⟩) (by first | exact ra | exact ⟨by omega, by omega⟩) _).mono ?_; rintro e w1 ⟨rfl, rfl⟩))
    go_ret
    exact ⟨_, rfl, hide (by unfold tanhV; rw [hn]; rfl), ⟨by omega, by omega⟩, hb⟩

set_option maxRecDepth 100000 in
set_option maxHeartbeats 2000000 in
theorem r_erf (x : Int) (hx : R x) (w : World) :
    Calls Tryz.prog 9 #[.int .u32 x] w fun e w' => ∃ k, e = .returned (.int .u32 k) ∧ Hid (k = erfV x) ∧ R k ∧ Below w.heap.size w w' := by
  have ra := R_abs x
  obtain ⟨a, ha⟩ : ∃ a, Flt.absF x = a := ⟨_, rfl⟩
  have CA : Hid (∀ w, Calls Tryz.prog 29 #[.int .u32 x] w fun e w' => e = .returned (.int .u32 a) ∧ Below w.heap.size w w') := hide fun w => by
    refine (r_abs x hx w).mono ?_
    rintro e w1 ⟨k, rfl, Hk, _, B1⟩
    exact ⟨ret_int ((unhide Hk).trans ha), B1⟩
  rw [ha] at ra
  have HA := hide ha
  clear ha
  have hb := Below.refl w.heap.size w
  cases hn : Flt.isNaN x
  · by_cases hz : a = 0
    · have hzb : (a == 0) = true := by simp [hz]
      have HZ : Hid (Flt.absF x = 0) := hide ((unhide HA).trans hz)
      clear hz
      go_enter Tryz.func9, Tryz.ntmps9
      go_wp2_with (first | (go_at_call 29; refine (unhide CA _).mono ?_; rintro e w1 ⟨rfl, hb1⟩; replace hb := bl_tr hb hb1; clear hb1) | (go_at_call 30; refine (risNone_any _ hx.lo hx.hi _).mono ?_; rintro e w1 ⟨rfl, rfl⟩) | (go_at_call 31; refine (r_less _ _ (by first | exact ra | exact ⟨by omega, by omega⟩) (by first | exact ra | exact ⟨by omega, by omega⟩) _).mono ?_; rintro e w1 ⟨rfl, rfl⟩))
      go_ret
      exact ⟨_, rfl, hide (by unfold erfV; rw [hn, if_neg (by decide), if_pos (unhide HZ)]), hx, hb⟩
    · have hzb : (a == 0) = false := by simp [hz]
      have HZ : Hid (¬ Flt.absF x = 0) := hide (by rw [unhide HA]; exact hz)
      clear hz
      cases hl : Flt.lessF 0x40800000 a
      · go_enter Tryz.func9, Tryz.ntmps9
        go_wp2_with (first | (go_at_call 29; refine (unhide CA _).mono ?_; rintro e w1 ⟨rfl, hb1⟩; replace hb := bl_tr hb hb1; clear hb1) | (go_at_call 30; refine (risNone_any _ hx.lo hx.hi _).mono ?_; rintro e w1 ⟨rfl, rfl⟩) | (go_at_call 31; refine (r_less _ _ (by first | exact ra | exact ⟨by omega, by omega⟩) (by first | exact ra | exact ⟨by omega, by omega⟩) _).mono ?_; rintro e w1 ⟨rfl, rfl⟩))
        refine (r_fma 0x3EA7BA05 a 0x3F800000 ⟨by omega, by omega⟩ ra ⟨by omega, by omega⟩ _).mono ?_
        rintro e w1 ⟨u, rfl, Hu, Ru, B1⟩
        replace hb := bl_tr hb B1
        clear B1
        go_wp2_with fail
        refine (r_div 0x3F800000 u ⟨by omega, by omega⟩ Ru _).mono ?_
        rintro e w2 ⟨t, rfl, Ht, Rt, B2⟩
        replace hb := bl_tr hb B2
        clear B2
        go_wp2_with fail
        refine (r_row t 0x3F87DC22 Rt ⟨by omega, by omega⟩ _ 5 [0xBFBA00E3, 0x3FB5F0E3, 0xBE91A98E, 0x3E827906] (by intro c h; simp at h; (repeat' (rcases h with rfl | h)) <;> first | exact ⟨by omega, by omega⟩ | (subst h; exact ⟨by omega, by omega⟩)) (by decide) 5 rfl (by decide) _ (by simp) ⟨by simp, by simp, by simp, by simp, by simp, trivial⟩).mono ?_
        rintro e w3 ⟨q, rfl, Hq, Rq, B3⟩
        replace hb := bl_tr (bl_tr hb ((Below.refl _ _).alloc (Nat.le_refl _) _)) B3
        clear B3
        go_wp2_with fail
        refine (r_mul t q Rt Rq _).mono ?_
        rintro e w4 ⟨p, rfl, Hp, Rp, B4⟩
        replace hb := bl_tr hb B4
        clear B4
        go_wp2_with fail
        refine (r_neg p Rp _).mono ?_
        rintro e w5 ⟨np, rfl, Hnp, Rnp, B5⟩
        replace hb := bl_tr hb B5
        clear B5
        go_wp2_with fail
        refine (r_mul a a ra ra _).mono ?_
        rintro e w6 ⟨m, rfl, Hm, Rm, B6⟩
        replace hb := bl_tr hb B6
        clear B6
        go_wp2_with fail
        refine (r_neg m Rm _).mono ?_
        rintro e w7 ⟨nm, rfl, Hnm, Rnm, B7⟩
        replace hb := bl_tr hb B7
        clear B7
        go_wp2_with fail
        refine (r_exp nm Rnm _).mono ?_
        rintro e w8 ⟨ex, rfl, Hex, Rex, B8⟩
        replace hb := bl_tr hb B8
        clear B8
        go_wp2_with fail
        refine (r_fma np ex 0x3F800000 Rnp Rex ⟨by omega, by omega⟩ _).mono ?_
        rintro e w9 ⟨f, rfl, Hf, Rf, B9⟩
        replace hb := bl_tr hb B9
        clear B9
        go_wp2_with fail
        refine (r_held f 0 0x3F800000 Rf ⟨by omega, by omega⟩ ⟨by omega, by omega⟩ _).mono ?_
        rintro e w10 ⟨h, rfl, Hh, Rh, B10⟩
        replace hb := bl_tr hb B10
        clear B10
        go_wp2_with fail
        refine (r_signed h x Rh hx _).mono ?_
        rintro e w11 ⟨r, rfl, Hr, Rr, B11⟩
        replace hb := bl_tr hb B11
        clear B11
        go_wp2_with fail
        go_ret
        refine ⟨_, rfl, hide ?_, Rr, hb⟩
        rw [unhide Hr, unhide Hh, unhide Hf, unhide Hex, unhide Hnm, unhide Hm, unhide Hnp, unhide Hp, unhide Hq, unhide Ht, unhide Hu]
        unfold erfV erfR erfP erfT
        rw [hn, if_neg (by decide), if_neg (unhide HZ), unhide HA, hl, if_neg (by decide)]
      · go_enter Tryz.func9, Tryz.ntmps9
        go_wp2_with (first | (go_at_call 29; refine (unhide CA _).mono ?_; rintro e w1 ⟨rfl, hb1⟩; replace hb := bl_tr hb hb1; clear hb1) | (go_at_call 30; refine (risNone_any _ hx.lo hx.hi _).mono ?_; rintro e w1 ⟨rfl, rfl⟩) | (go_at_call 31; refine (r_less _ _ (by first | exact ra | exact ⟨by omega, by omega⟩) (by first | exact ra | exact ⟨by omega, by omega⟩) _).mono ?_; rintro e w1 ⟨rfl, rfl⟩))
        refine (r_signed 0x3F800000 x ⟨by omega, by omega⟩ hx _).mono ?_
        rintro e w1 ⟨r, rfl, Hr, Rr, B1⟩
        replace hb := bl_tr hb B1
        clear B1
        go_wp2_with fail
        go_ret
        refine ⟨_, rfl, hide ?_, Rr, hb⟩
        rw [unhide Hr]
        unfold erfV
        rw [hn, if_neg (by decide), if_neg (unhide HZ), unhide HA, hl, if_pos rfl]
  · go_enter Tryz.func9, Tryz.ntmps9
    go_wp2_with (first | (go_at_call 29; refine (unhide CA _).mono ?_; rintro e w1 ⟨rfl, hb1⟩; replace hb := bl_tr hb hb1; clear hb1) | (go_at_call 30; refine (risNone_any _ hx.lo hx.hi _).mono ?_; rintro e w1 ⟨rfl, rfl⟩) | (go_at_call 31; refine (r_less _ _ (by first | exact ra | exact ⟨by omega, by omega⟩) (by first | exact ra | exact ⟨by omega, by omega⟩) _).mono ?_; rintro e w1 ⟨rfl, rfl⟩))
    go_ret
    exact ⟨_, rfl, hide (by unfold erfV; rw [hn]; rfl), ⟨by omega, by omega⟩, hb⟩

set_option maxRecDepth 100000 in
set_option maxHeartbeats 2000000 in
theorem r_sig (x : Int) (hx : R x) (w : World) :
    Calls Tryz.prog 11 #[.int .u32 x] w fun e w' => ∃ k, e = .returned (.int .u32 k) ∧ Hid (k = sigV x) ∧ R k ∧ Below w.heap.size w w' := by
  cases hn : Flt.isNaN x
  · go_enter Tryz.func11, Tryz.ntmps11
    have hb := Below.refl w.heap.size w
    go_wp2_with (first | (go_at_call 30; refine (risNone_any _ hx.lo hx.hi _).mono ?_; rintro e w1 ⟨rfl, rfl⟩))
    refine (r_neg x hx _).mono ?_
    rintro e w1 ⟨a, rfl, Ha, Ra, B1⟩
    replace hb := bl_tr hb B1
    clear B1
    go_wp2_with fail
    refine (r_exp a Ra _).mono ?_
    rintro e w2 ⟨ex, rfl, Hex, Rex, B2⟩
    replace hb := bl_tr hb B2
    clear B2
    go_wp2_with fail
    refine (r_add 0x3F800000 ex ⟨by omega, by omega⟩ Rex _).mono ?_
    rintro e w3 ⟨s, rfl, Hs, Rs, B3⟩
    replace hb := bl_tr hb B3
    clear B3
    go_wp2_with fail
    refine (r_div 0x3F800000 s ⟨by omega, by omega⟩ Rs _).mono ?_
    rintro e w4 ⟨d, rfl, Hd, Rd, B4⟩
    replace hb := bl_tr hb B4
    clear B4
    go_wp2_with fail
    refine (r_held d 0 0x3F800000 Rd ⟨by omega, by omega⟩ ⟨by omega, by omega⟩ _).mono ?_
    rintro e w5 ⟨h, rfl, Hh, Rh, B5⟩
    replace hb := bl_tr hb B5
    clear B5
    go_wp2_with fail
    go_ret
    refine ⟨_, rfl, hide ?_, Rh, hb⟩
    rw [unhide Hh, unhide Hd, unhide Hs, unhide Hex, unhide Ha]
    unfold sigV
    rw [hn, if_neg (by decide)]
  · go_enter Tryz.func11, Tryz.ntmps11
    go_wp2_with (first | (go_at_call 30; refine (risNone_any _ hx.lo hx.hi _).mono ?_; rintro e w1 ⟨rfl, rfl⟩))
    go_ret
    exact ⟨_, rfl, hide (by unfold sigV; rw [hn]; rfl), ⟨by omega, by omega⟩, Below.refl _ _⟩

set_option maxRecDepth 100000 in
set_option maxHeartbeats 2000000 in
theorem r_plus (x : Int) (hx : R x) (w : World) :
    Calls Tryz.prog 13 #[.int .u32 x] w fun e w' => ∃ k, e = .returned (.int .u32 k) ∧ Hid (k = plusV x) ∧ R k ∧ Below w.heap.size w w' := by
  cases hn : Flt.isNaN x
  · go_enter Tryz.func13, Tryz.ntmps13
    have hb := Below.refl w.heap.size w
    go_wp2_with (first | (go_at_call 30; refine (risNone_any _ hx.lo hx.hi _).mono ?_; rintro e w1 ⟨rfl, rfl⟩))
    refine (r_max x 0 hx ⟨by omega, by omega⟩ _).mono ?_
    rintro e w1 ⟨m, rfl, Hm, Rm, B1⟩
    replace hb := bl_tr hb B1
    clear B1
    go_wp2_with fail
    refine (r_abs x hx _).mono ?_
    rintro e w2 ⟨a, rfl, Ha, Ra, B2⟩
    replace hb := bl_tr hb B2
    clear B2
    go_wp2_with fail
    refine (r_neg a Ra _).mono ?_
    rintro e w3 ⟨na, rfl, Hna, Rna, B3⟩
    replace hb := bl_tr hb B3
    clear B3
    go_wp2_with fail
    refine (r_exp na Rna _).mono ?_
    rintro e w4 ⟨ex, rfl, Hex, Rex, B4⟩
    replace hb := bl_tr hb B4
    clear B4
    go_wp2_with fail
    refine (r_add 0x3F800000 ex ⟨by omega, by omega⟩ Rex _).mono ?_
    rintro e w5 ⟨s, rfl, Hs, Rs, B5⟩
    replace hb := bl_tr hb B5
    clear B5
    go_wp2_with fail
    refine (r_log s Rs _).mono ?_
    rintro e w6 ⟨l, rfl, Hl, Rl, B6⟩
    replace hb := bl_tr hb B6
    clear B6
    go_wp2_with fail
    refine (r_add m l Rm Rl _).mono ?_
    rintro e w7 ⟨r, rfl, Hr, Rr, B7⟩
    replace hb := bl_tr hb B7
    clear B7
    go_wp2_with fail
    go_ret
    refine ⟨_, rfl, hide ?_, Rr, hb⟩
    rw [unhide Hr, unhide Hl, unhide Hs, unhide Hex, unhide Hna, unhide Ha, unhide Hm]
    unfold plusV
    rw [hn, if_neg (by decide)]
  · go_enter Tryz.func13, Tryz.ntmps13
    go_wp2_with (first | (go_at_call 30; refine (risNone_any _ hx.lo hx.hi _).mono ?_; rintro e w1 ⟨rfl, rfl⟩))
    go_ret
    exact ⟨_, rfl, hide (by unfold plusV; rw [hn]; rfl), ⟨by omega, by omega⟩, Below.refl _ _⟩

set_option maxRecDepth 100000 in
set_option maxHeartbeats 1000000 in
theorem r_whole (b : Int) (hb : R b) (w : World) :
    Calls Tryz.prog 54 #[.int .u32 b] w fun e w' => e = .returned (.bool (finB b && wholeB b)) ∧ Below w.heap.size w w' := by
  have CA : Hid (∀ w, Calls Tryz.prog 29 #[.int .u32 b] w fun e w' => e = .returned (.int .u32 (Flt.absF b)) ∧ Below w.heap.size w w') := hide fun w => by
    refine (r_abs b hb w).mono ?_
    rintro e w1 ⟨k, rfl, Hk, _, B1⟩
    exact ⟨ret_int (unhide Hk), B1⟩
  have hfb : finB b = decide (Flt.absF b < 2139095040) := by
    unfold finB Flt.isNaN Flt.isInf Flt.absF
    rw [Bool.eq_iff_iff]; simp; omega
  rw [hfb]
  cases hf : decide (Flt.absF b < 2139095040)
  · go_enter Tryz.func54, Tryz.ntmps54
    go_wp2_with fail
    refine (unhide CA _).mono ?_
    rintro e w1 ⟨rfl, B1⟩
    go_wp2_with fail
    go_ret
    exact ⟨rfl, B1⟩
  · go_enter Tryz.func54, Tryz.ntmps54
    go_wp2_with fail
    refine (unhide CA _).mono ?_
    rintro e w1 ⟨rfl, B1⟩
    go_wp2_with fail
    refine (r_even b hb _).mono ?_
    rintro e w2 ⟨k, rfl, Hk, Rk, B2⟩
    go_wp2_with fail
    refine (r_equal k b Rk hb _).mono ?_
    rintro e w3 ⟨rfl, rfl⟩
    go_wp2_with fail
    go_ret
    exact ⟨ret_bool (by unfold wholeB; rw [unhide Hk]; rfl), bl_tr B1 B2⟩

theorem tmod_val (n : Int) : (n % 2 = 0 → n.tmod 2 = 0) ∧ (n % 2 = 1 → n.tmod 2 ≠ 0) := by
  rw [Int.tmod_eq_emod]
  constructor
  · intro h
    rw [if_pos (.inr (by omega)), h]; rfl
  · intro h
    split <;> omega
theorem tmod_odd (n : Int) : (n.tmod 2 == 0) = !(n % 2 == 1) := by
  obtain ⟨a, b⟩ := tmod_val n
  rcases (show n % 2 = 0 ∨ n % 2 = 1 by omega) with h | h
  · rw [a h, h]; rfl
  · rw [h]; simp [b h]
theorem tmod_odd2 (n : Int) : (n.tmod 2 != 0) = (n % 2 == 1) := by
  have := tmod_odd n
  rw [bne, this]; simp
set_option maxRecDepth 100000 in
set_option maxHeartbeats 8000000 in
theorem r_pow_end (a b : Int) (hx : R a) (hy : R b) (hzb : (Flt.absF b == 0) = false) (hob : (a == 0x3F800000) = false) (hna : Flt.isNaN a = false) (hnb : Flt.isNaN b = false)
    (c1 : ¬ (Flt.absF b = 0 ∨ a = 0x3F800000)) (c2 : ¬ (Flt.isNaN a = true ∨ Flt.isNaN b = true)) (hm : ¬ (a = 0xBF800000 ∧ Flt.isInf b = true)) (hmi : ((a == 0xBF800000) = true ∧ (Flt.absF b == 2139095040) = false) ∨ (a == 0xBF800000) = false) (hk : ¬ (Flt.lessF a 0 = true ∧ finB b = true ∧ wholeB b = false)) (w : World) :
    Calls Tryz.prog 15 #[.int .u32 a, .int .u32 b] w fun e w' => ∃ k, e = .returned (.int .u32 k) ∧ Hid (k = powV a b) ∧ R k ∧ Below w.heap.size w w' := by
  have hb := Below.refl w.heap.size w
  have CB : Hid (∀ w, Calls Tryz.prog 29 #[.int .u32 b] w fun e w' => e = .returned (.int .u32 (Flt.absF b)) ∧ Below w.heap.size w w') := hide fun w => by
    refine (r_abs b hy w).mono ?_
    rintro e w1 ⟨k, rfl, Hk, _, B1⟩
    exact ⟨ret_int (unhide Hk), B1⟩
  have hfb : finB b = decide (Flt.absF b < 2139095040) := by
    unfold finB Flt.isNaN Flt.isInf Flt.absF
    rw [Bool.eq_iff_iff]; simp; omega
  have HV : Hid (powV a b = if Flt.sgn a = true ∧ oddB b = true then Flt.negF (powY a b) else powY a b) := hide (by unfold powV; rw [if_neg c1, if_neg c2, if_neg hm, if_neg hk])
  have rab := R_abs b
  have hki : (Flt.lessF a 0 = true ∧ decide (Flt.absF b < 2139095040) = true ∧ (finB b && wholeB b) = true) ∨ (Flt.lessF a 0 = true ∧ decide (Flt.absF b < 2139095040) = false ∧ (finB b && wholeB b) = false) ∨ (Flt.lessF a 0 = false ∧ (finB b && wholeB b) = true) ∨ (Flt.lessF a 0 = false ∧ (finB b && wholeB b) = false) := by
    rw [← hfb]
    have h23 : Flt.lessF a 0 = true → finB b = true → wholeB b = true := fun h1 h2 => by
      cases h3 : wholeB b
      · exact absurd ⟨h1, h2, h3⟩ hk
      · rfl
    cases h1 : Flt.lessF a 0
    · cases h4 : (finB b && wholeB b)
      · exact .inr (.inr (.inr ⟨rfl, rfl⟩))
      · exact .inr (.inr (.inl ⟨rfl, rfl⟩))
    · cases h2 : finB b
      · exact .inr (.inl ⟨rfl, rfl, rfl⟩)
      · exact .inl ⟨rfl, rfl, by rw [h23 h1 h2]; rfl⟩
  have hfw : oddB b = ((finB b && wholeB b) && Flt.lessF (Flt.absF b) 0x4B800000 && (Flt.toIntV b % 2 == 1)) := rfl
  clear c1 c2 hm hk hfb
  obtain ⟨FW, hFW⟩ : ∃ FW, (finB b && wholeB b) = FW := ⟨_, rfl⟩
  have CW : Hid (∀ w, Calls Tryz.prog 54 #[.int .u32 b] w fun e w' => e = .returned (.bool FW) ∧ Below w.heap.size w w') := hide fun w => by
    rw [← hFW]; exact r_whole b hy w
  rw [hFW] at hki hfw
  clear hFW
  have HFW := hide hfw
  clear hfw
  have key : ∀ o : Bool, oddB b = o → (Flt.sgn a = true ∧ o = true → powV a b = Flt.negF (powY a b)) ∧ (Flt.sgn a = false ∨ o = false → powV a b = powY a b) := by
    intro o ho
    rw [unhide HV, ho]
    constructor
    · rintro ⟨h1, h2⟩; rw [if_pos ⟨h1, h2⟩]
    · rintro (h | h)
      · rw [if_neg (by rintro ⟨g, _⟩; rw [h] at g; cases g)]
      · rw [if_neg (by rintro ⟨_, g⟩; rw [h] at g; cases g)]
  have KEY := hide key
  clear key HV
  cases hsg : Flt.sgn a
  · have hsd : decide (2147483648 ≤ a) = false := hsg
    rcases hmi with ⟨m1, m2⟩ | m1 <;> rcases hki with ⟨k1, k2, rfl⟩ | ⟨k1, k2, rfl⟩ | ⟨k1, rfl⟩ | ⟨k1, rfl⟩
    · cases hlb : Flt.lessF (Flt.absF b) 0x4B800000
      · go_enter Tryz.func15, Tryz.ntmps15
        go_wp2_with (first | (go_at_call 29; first | (refine (unhide CB _).mono ?_; rintro e w1 ⟨rfl, hb1⟩; replace hb := bl_tr hb hb1; clear hb1)) | (go_at_call 30; first | (refine (risNone_any a hx.lo hx.hi _).mono ?_; rintro e w1 ⟨rfl, rfl⟩) | (refine (risNone_any b hy.lo hy.hi _).mono ?_; rintro e w1 ⟨rfl, rfl⟩)) | (go_at_call 31; refine (r_less a 0 hx ⟨by omega, by omega⟩ _).mono ?_; rintro e w1 ⟨rfl, rfl⟩) | (go_at_call 54; refine (unhide CW _).mono ?_; rintro e w1 ⟨rfl, hb1⟩; replace hb := bl_tr hb hb1; clear hb1))
        refine (r_abs a hx _).mono ?_
        rintro e w1 ⟨ab, rfl, Hab, Rab, B1⟩
        replace hb := bl_tr hb B1
        clear B1
        go_wp2_with fail
        refine (r_log ab Rab _).mono ?_
        rintro e w2 ⟨l, rfl, Hl, Rl, B2⟩
        replace hb := bl_tr hb B2
        clear B2
        go_wp2_with fail
        refine (r_mul b l hy Rl _).mono ?_
        rintro e w3 ⟨m, rfl, Hm, Rm, B3⟩
        replace hb := bl_tr hb B3
        clear B3
        go_wp2_with fail
        refine (r_exp m Rm _).mono ?_
        rintro e w4 ⟨y, rfl, Hy, Ry, B4⟩
        replace hb := bl_tr hb B4
        clear B4
        go_wp2_with (first | (go_at_call 54; refine (unhide CW _).mono ?_; rintro e w1 ⟨rfl, hb1⟩; replace hb := bl_tr hb hb1; clear hb1) | (go_at_call 29; first | (refine (unhide CB _).mono ?_; rintro e w1 ⟨rfl, hb1⟩; replace hb := bl_tr hb hb1; clear hb1)) | (go_at_call 31; refine (r_less (Flt.absF b) 0x4B800000 rab ⟨by omega, by omega⟩ _).mono ?_; rintro e w1 ⟨rfl, rfl⟩))
        go_ret
        refine ⟨_, rfl, hide ?_, Ry, hb⟩
        rw [(unhide KEY false (by rw [unhide HFW, hlb]; rfl)).2 (.inl hsg)]
        unfold powY
        rw [unhide Hy, unhide Hm, unhide Hl, unhide Hab]
      · go_enter Tryz.func15, Tryz.ntmps15
        go_wp2_with (first | (go_at_call 29; first | (refine (unhide CB _).mono ?_; rintro e w1 ⟨rfl, hb1⟩; replace hb := bl_tr hb hb1; clear hb1)) | (go_at_call 30; first | (refine (risNone_any a hx.lo hx.hi _).mono ?_; rintro e w1 ⟨rfl, rfl⟩) | (refine (risNone_any b hy.lo hy.hi _).mono ?_; rintro e w1 ⟨rfl, rfl⟩)) | (go_at_call 31; refine (r_less a 0 hx ⟨by omega, by omega⟩ _).mono ?_; rintro e w1 ⟨rfl, rfl⟩) | (go_at_call 54; refine (unhide CW _).mono ?_; rintro e w1 ⟨rfl, hb1⟩; replace hb := bl_tr hb hb1; clear hb1))
        refine (r_abs a hx _).mono ?_
        rintro e w1 ⟨ab, rfl, Hab, Rab, B1⟩
        replace hb := bl_tr hb B1
        clear B1
        go_wp2_with fail
        refine (r_log ab Rab _).mono ?_
        rintro e w2 ⟨l, rfl, Hl, Rl, B2⟩
        replace hb := bl_tr hb B2
        clear B2
        go_wp2_with fail
        refine (r_mul b l hy Rl _).mono ?_
        rintro e w3 ⟨m, rfl, Hm, Rm, B3⟩
        replace hb := bl_tr hb B3
        clear B3
        go_wp2_with fail
        refine (r_exp m Rm _).mono ?_
        rintro e w4 ⟨y, rfl, Hy, Ry, B4⟩
        replace hb := bl_tr hb B4
        clear B4
        go_wp2_with (first | (go_at_call 54; refine (unhide CW _).mono ?_; rintro e w1 ⟨rfl, hb1⟩; replace hb := bl_tr hb hb1; clear hb1) | (go_at_call 29; first | (refine (unhide CB _).mono ?_; rintro e w1 ⟨rfl, hb1⟩; replace hb := bl_tr hb hb1; clear hb1)) | (go_at_call 31; refine (r_less (Flt.absF b) 0x4B800000 rab ⟨by omega, by omega⟩ _).mono ?_; rintro e w1 ⟨rfl, rfl⟩))
        refine (r_toInt b hy _).mono ?_
        rintro e v9 ⟨n, rfl, Hn, n0, n1, B9⟩
        replace hb := bl_tr hb B9
        clear B9
        have ht := tmod_odd n
        have ht2 := tmod_odd2 n
        have HO : Hid (oddB b = (n % 2 == 1)) := hide (by rw [unhide HFW, hlb, unhide Hn]; rfl)
        cases hodd : (n % 2 == 1)
        · rw [hodd] at ht ht2
          go_wp2_with fail
          go_ret
          refine ⟨_, rfl, hide ?_, Ry, hb⟩
          rw [(unhide KEY false (by rw [unhide HO, hodd])).2 (.inl hsg)]
          unfold powY
          rw [unhide Hy, unhide Hm, unhide Hl, unhide Hab]
        · rw [hodd] at ht ht2
          go_wp2_with fail
          go_ret
          refine ⟨_, rfl, hide ?_, Ry, hb⟩
          rw [(unhide KEY true (by rw [unhide HO, hodd])).2 (.inl hsg)]
          unfold powY
          rw [unhide Hy, unhide Hm, unhide Hl, unhide Hab]
    · go_enter Tryz.func15, Tryz.ntmps15
      go_wp2_with (first | (go_at_call 29; first | (refine (unhide CB _).mono ?_; rintro e w1 ⟨rfl, hb1⟩; replace hb := bl_tr hb hb1; clear hb1)) | (go_at_call 30; first | (refine (risNone_any a hx.lo hx.hi _).mono ?_; rintro e w1 ⟨rfl, rfl⟩) | (refine (risNone_any b hy.lo hy.hi _).mono ?_; rintro e w1 ⟨rfl, rfl⟩)) | (go_at_call 31; refine (r_less a 0 hx ⟨by omega, by omega⟩ _).mono ?_; rintro e w1 ⟨rfl, rfl⟩) | (go_at_call 54; refine (unhide CW _).mono ?_; rintro e w1 ⟨rfl, hb1⟩; replace hb := bl_tr hb hb1; clear hb1))
      refine (r_abs a hx _).mono ?_
      rintro e w1 ⟨ab, rfl, Hab, Rab, B1⟩
      replace hb := bl_tr hb B1
      clear B1
      go_wp2_with fail
      refine (r_log ab Rab _).mono ?_
      rintro e w2 ⟨l, rfl, Hl, Rl, B2⟩
      replace hb := bl_tr hb B2
      clear B2
      go_wp2_with fail
      refine (r_mul b l hy Rl _).mono ?_
      rintro e w3 ⟨m, rfl, Hm, Rm, B3⟩
      replace hb := bl_tr hb B3
      clear B3
      go_wp2_with fail
      refine (r_exp m Rm _).mono ?_
      rintro e w4 ⟨y, rfl, Hy, Ry, B4⟩
      replace hb := bl_tr hb B4
      clear B4
      go_wp2_with (first | (go_at_call 54; refine (unhide CW _).mono ?_; rintro e w1 ⟨rfl, hb1⟩; replace hb := bl_tr hb hb1; clear hb1) | (go_at_call 29; first | (refine (unhide CB _).mono ?_; rintro e w1 ⟨rfl, hb1⟩; replace hb := bl_tr hb hb1; clear hb1)))
      go_ret
      refine ⟨_, rfl, hide ?_, Ry, hb⟩
      rw [(unhide KEY false (by rw [unhide HFW]; rfl)).2 (.inl hsg)]
      unfold powY
      rw [unhide Hy, unhide Hm, unhide Hl, unhide Hab]
    · cases hlb : Flt.lessF (Flt.absF b) 0x4B800000
      · go_enter Tryz.func15, Tryz.ntmps15
        go_wp2_with (first | (go_at_call 29; first | (refine (unhide CB _).mono ?_; rintro e w1 ⟨rfl, hb1⟩; replace hb := bl_tr hb hb1; clear hb1)) | (go_at_call 30; first | (refine (risNone_any a hx.lo hx.hi _).mono ?_; rintro e w1 ⟨rfl, rfl⟩) | (refine (risNone_any b hy.lo hy.hi _).mono ?_; rintro e w1 ⟨rfl, rfl⟩)) | (go_at_call 31; refine (r_less a 0 hx ⟨by omega, by omega⟩ _).mono ?_; rintro e w1 ⟨rfl, rfl⟩) | (go_at_call 54; refine (unhide CW _).mono ?_; rintro e w1 ⟨rfl, hb1⟩; replace hb := bl_tr hb hb1; clear hb1))
        refine (r_abs a hx _).mono ?_
        rintro e w1 ⟨ab, rfl, Hab, Rab, B1⟩
        replace hb := bl_tr hb B1
        clear B1
        go_wp2_with fail
        refine (r_log ab Rab _).mono ?_
        rintro e w2 ⟨l, rfl, Hl, Rl, B2⟩
        replace hb := bl_tr hb B2
        clear B2
        go_wp2_with fail
        refine (r_mul b l hy Rl _).mono ?_
        rintro e w3 ⟨m, rfl, Hm, Rm, B3⟩
        replace hb := bl_tr hb B3
        clear B3
        go_wp2_with fail
        refine (r_exp m Rm _).mono ?_
        rintro e w4 ⟨y, rfl, Hy, Ry, B4⟩
        replace hb := bl_tr hb B4
        clear B4
        go_wp2_with (first | (go_at_call 54; refine (unhide CW _).mono ?_; rintro e w1 ⟨rfl, hb1⟩; replace hb := bl_tr hb hb1; clear hb1) | (go_at_call 29; first | (refine (unhide CB _).mono ?_; rintro e w1 ⟨rfl, hb1⟩; replace hb := bl_tr hb hb1; clear hb1)) | (go_at_call 31; refine (r_less (Flt.absF b) 0x4B800000 rab ⟨by omega, by omega⟩ _).mono ?_; rintro e w1 ⟨rfl, rfl⟩))
        go_ret
        refine ⟨_, rfl, hide ?_, Ry, hb⟩
        rw [(unhide KEY false (by rw [unhide HFW, hlb]; rfl)).2 (.inl hsg)]
        unfold powY
        rw [unhide Hy, unhide Hm, unhide Hl, unhide Hab]
      · go_enter Tryz.func15, Tryz.ntmps15
        go_wp2_with (first | (go_at_call 29; first | (refine (unhide CB _).mono ?_; rintro e w1 ⟨rfl, hb1⟩; replace hb := bl_tr hb hb1; clear hb1)) | (go_at_call 30; first | (refine (risNone_any a hx.lo hx.hi _).mono ?_; rintro e w1 ⟨rfl, rfl⟩) | (refine (risNone_any b hy.lo hy.hi _).mono ?_; rintro e w1 ⟨rfl, rfl⟩)) | (go_at_call 31; refine (r_less a 0 hx ⟨by omega, by omega⟩ _).mono ?_; rintro e w1 ⟨rfl, rfl⟩) | (go_at_call 54; refine (unhide CW _).mono ?_; rintro e w1 ⟨rfl, hb1⟩; replace hb := bl_tr hb hb1; clear hb1))
        refine (r_abs a hx _).mono ?_
        rintro e w1 ⟨ab, rfl, Hab, Rab, B1⟩
        replace hb := bl_tr hb B1
        clear B1
        go_wp2_with fail
        refine (r_log ab Rab _).mono ?_
        rintro e w2 ⟨l, rfl, Hl, Rl, B2⟩
        replace hb := bl_tr hb B2
        clear B2
        go_wp2_with fail
        refine (r_mul b l hy Rl _).mono ?_
        rintro e w3 ⟨m, rfl, Hm, Rm, B3⟩
        replace hb := bl_tr hb B3
        clear B3
        go_wp2_with fail
        refine (r_exp m Rm _).mono ?_
        rintro e w4 ⟨y, rfl, Hy, Ry, B4⟩
        replace hb := bl_tr hb B4
        clear B4
        go_wp2_with (first | (go_at_call 54; refine (unhide CW _).mono ?_; rintro e w1 ⟨rfl, hb1⟩; replace hb := bl_tr hb hb1; clear hb1) | (go_at_call 29; first | (refine (unhide CB _).mono ?_; rintro e w1 ⟨rfl, hb1⟩; replace hb := bl_tr hb hb1; clear hb1)) | (go_at_call 31; refine (r_less (Flt.absF b) 0x4B800000 rab ⟨by omega, by omega⟩ _).mono ?_; rintro e w1 ⟨rfl, rfl⟩))
        refine (r_toInt b hy _).mono ?_
        rintro e v9 ⟨n, rfl, Hn, n0, n1, B9⟩
        replace hb := bl_tr hb B9
        clear B9
        have ht := tmod_odd n
        have ht2 := tmod_odd2 n
        have HO : Hid (oddB b = (n % 2 == 1)) := hide (by rw [unhide HFW, hlb, unhide Hn]; rfl)
        cases hodd : (n % 2 == 1)
        · rw [hodd] at ht ht2
          go_wp2_with fail
          go_ret
          refine ⟨_, rfl, hide ?_, Ry, hb⟩
          rw [(unhide KEY false (by rw [unhide HO, hodd])).2 (.inl hsg)]
          unfold powY
          rw [unhide Hy, unhide Hm, unhide Hl, unhide Hab]
        · rw [hodd] at ht ht2
          go_wp2_with fail
          go_ret
          refine ⟨_, rfl, hide ?_, Ry, hb⟩
          rw [(unhide KEY true (by rw [unhide HO, hodd])).2 (.inl hsg)]
          unfold powY
          rw [unhide Hy, unhide Hm, unhide Hl, unhide Hab]
    · go_enter Tryz.func15, Tryz.ntmps15
      go_wp2_with (first | (go_at_call 29; first | (refine (unhide CB _).mono ?_; rintro e w1 ⟨rfl, hb1⟩; replace hb := bl_tr hb hb1; clear hb1)) | (go_at_call 30; first | (refine (risNone_any a hx.lo hx.hi _).mono ?_; rintro e w1 ⟨rfl, rfl⟩) | (refine (risNone_any b hy.lo hy.hi _).mono ?_; rintro e w1 ⟨rfl, rfl⟩)) | (go_at_call 31; refine (r_less a 0 hx ⟨by omega, by omega⟩ _).mono ?_; rintro e w1 ⟨rfl, rfl⟩) | (go_at_call 54; refine (unhide CW _).mono ?_; rintro e w1 ⟨rfl, hb1⟩; replace hb := bl_tr hb hb1; clear hb1))
      refine (r_abs a hx _).mono ?_
      rintro e w1 ⟨ab, rfl, Hab, Rab, B1⟩
      replace hb := bl_tr hb B1
      clear B1
      go_wp2_with fail
      refine (r_log ab Rab _).mono ?_
      rintro e w2 ⟨l, rfl, Hl, Rl, B2⟩
      replace hb := bl_tr hb B2
      clear B2
      go_wp2_with fail
      refine (r_mul b l hy Rl _).mono ?_
      rintro e w3 ⟨m, rfl, Hm, Rm, B3⟩
      replace hb := bl_tr hb B3
      clear B3
      go_wp2_with fail
      refine (r_exp m Rm _).mono ?_
      rintro e w4 ⟨y, rfl, Hy, Ry, B4⟩
      replace hb := bl_tr hb B4
      clear B4
      go_wp2_with (first | (go_at_call 54; refine (unhide CW _).mono ?_; rintro e w1 ⟨rfl, hb1⟩; replace hb := bl_tr hb hb1; clear hb1) | (go_at_call 29; first | (refine (unhide CB _).mono ?_; rintro e w1 ⟨rfl, hb1⟩; replace hb := bl_tr hb hb1; clear hb1)))
      go_ret
      refine ⟨_, rfl, hide ?_, Ry, hb⟩
      rw [(unhide KEY false (by rw [unhide HFW]; rfl)).2 (.inl hsg)]
      unfold powY
      rw [unhide Hy, unhide Hm, unhide Hl, unhide Hab]
    · cases hlb : Flt.lessF (Flt.absF b) 0x4B800000
      · go_enter Tryz.func15, Tryz.ntmps15
        go_wp2_with (first | (go_at_call 29; first | (refine (unhide CB _).mono ?_; rintro e w1 ⟨rfl, hb1⟩; replace hb := bl_tr hb hb1; clear hb1)) | (go_at_call 30; first | (refine (risNone_any a hx.lo hx.hi _).mono ?_; rintro e w1 ⟨rfl, rfl⟩) | (refine (risNone_any b hy.lo hy.hi _).mono ?_; rintro e w1 ⟨rfl, rfl⟩)) | (go_at_call 31; refine (r_less a 0 hx ⟨by omega, by omega⟩ _).mono ?_; rintro e w1 ⟨rfl, rfl⟩) | (go_at_call 54; refine (unhide CW _).mono ?_; rintro e w1 ⟨rfl, hb1⟩; replace hb := bl_tr hb hb1; clear hb1))
        refine (r_abs a hx _).mono ?_
        rintro e w1 ⟨ab, rfl, Hab, Rab, B1⟩
        replace hb := bl_tr hb B1
        clear B1
        go_wp2_with fail
        refine (r_log ab Rab _).mono ?_
        rintro e w2 ⟨l, rfl, Hl, Rl, B2⟩
        replace hb := bl_tr hb B2
        clear B2
        go_wp2_with fail
        refine (r_mul b l hy Rl _).mono ?_
        rintro e w3 ⟨m, rfl, Hm, Rm, B3⟩
        replace hb := bl_tr hb B3
        clear B3
        go_wp2_with fail
        refine (r_exp m Rm _).mono ?_
        rintro e w4 ⟨y, rfl, Hy, Ry, B4⟩
        replace hb := bl_tr hb B4
        clear B4
        go_wp2_with (first | (go_at_call 54; refine (unhide CW _).mono ?_; rintro e w1 ⟨rfl, hb1⟩; replace hb := bl_tr hb hb1; clear hb1) | (go_at_call 29; first | (refine (unhide CB _).mono ?_; rintro e w1 ⟨rfl, hb1⟩; replace hb := bl_tr hb hb1; clear hb1)) | (go_at_call 31; refine (r_less (Flt.absF b) 0x4B800000 rab ⟨by omega, by omega⟩ _).mono ?_; rintro e w1 ⟨rfl, rfl⟩))
        go_ret
        refine ⟨_, rfl, hide ?_, Ry, hb⟩
        rw [(unhide KEY false (by rw [unhide HFW, hlb]; rfl)).2 (.inl hsg)]
        unfold powY
        rw [unhide Hy, unhide Hm, unhide Hl, unhide Hab]
      · go_enter Tryz.func15, Tryz.ntmps15
        go_wp2_with (first | (go_at_call 29; first | (refine (unhide CB _).mono ?_; rintro e w1 ⟨rfl, hb1⟩; replace hb := bl_tr hb hb1; clear hb1)) | (go_at_call 30; first | (refine (risNone_any a hx.lo hx.hi _).mono ?_; rintro e w1 ⟨rfl, rfl⟩) | (refine (risNone_any b hy.lo hy.hi _).mono ?_; rintro e w1 ⟨rfl, rfl⟩)) | (go_at_call 31; refine (r_less a 0 hx ⟨by omega, by omega⟩ _).mono ?_; rintro e w1 ⟨rfl, rfl⟩) | (go_at_call 54; refine (unhide CW _).mono ?_; rintro e w1 ⟨rfl, hb1⟩; replace hb := bl_tr hb hb1; clear hb1))
        refine (r_abs a hx _).mono ?_
        rintro e w1 ⟨ab, rfl, Hab, Rab, B1⟩
        replace hb := bl_tr hb B1
        clear B1
        go_wp2_with fail
        refine (r_log ab Rab _).mono ?_
        rintro e w2 ⟨l, rfl, Hl, Rl, B2⟩
        replace hb := bl_tr hb B2
        clear B2
        go_wp2_with fail
        refine (r_mul b l hy Rl _).mono ?_
        rintro e w3 ⟨m, rfl, Hm, Rm, B3⟩
        replace hb := bl_tr hb B3
        clear B3
        go_wp2_with fail
        refine (r_exp m Rm _).mono ?_
        rintro e w4 ⟨y, rfl, Hy, Ry, B4⟩
        replace hb := bl_tr hb B4
        clear B4
        go_wp2_with (first | (go_at_call 54; refine (unhide CW _).mono ?_; rintro e w1 ⟨rfl, hb1⟩; replace hb := bl_tr hb hb1; clear hb1) | (go_at_call 29; first | (refine (unhide CB _).mono ?_; rintro e w1 ⟨rfl, hb1⟩; replace hb := bl_tr hb hb1; clear hb1)) | (go_at_call 31; refine (r_less (Flt.absF b) 0x4B800000 rab ⟨by omega, by omega⟩ _).mono ?_; rintro e w1 ⟨rfl, rfl⟩))
        refine (r_toInt b hy _).mono ?_
        rintro e v9 ⟨n, rfl, Hn, n0, n1, B9⟩
        replace hb := bl_tr hb B9
        clear B9
        have ht := tmod_odd n
        have ht2 := tmod_odd2 n
        have HO : Hid (oddB b = (n % 2 == 1)) := hide (by rw [unhide HFW, hlb, unhide Hn]; rfl)
        cases hodd : (n % 2 == 1)
        · rw [hodd] at ht ht2
          go_wp2_with fail
          go_ret
          refine ⟨_, rfl, hide ?_, Ry, hb⟩
          rw [(unhide KEY false (by rw [unhide HO, hodd])).2 (.inl hsg)]
          unfold powY
          rw [unhide Hy, unhide Hm, unhide Hl, unhide Hab]
        · rw [hodd] at ht ht2
          go_wp2_with fail
          go_ret
          refine ⟨_, rfl, hide ?_, Ry, hb⟩
          rw [(unhide KEY true (by rw [unhide HO, hodd])).2 (.inl hsg)]
          unfold powY
          rw [unhide Hy, unhide Hm, unhide Hl, unhide Hab]
    · go_enter Tryz.func15, Tryz.ntmps15
      go_wp2_with (first | (go_at_call 29; first | (refine (unhide CB _).mono ?_; rintro e w1 ⟨rfl, hb1⟩; replace hb := bl_tr hb hb1; clear hb1)) | (go_at_call 30; first | (refine (risNone_any a hx.lo hx.hi _).mono ?_; rintro e w1 ⟨rfl, rfl⟩) | (refine (risNone_any b hy.lo hy.hi _).mono ?_; rintro e w1 ⟨rfl, rfl⟩)) | (go_at_call 31; refine (r_less a 0 hx ⟨by omega, by omega⟩ _).mono ?_; rintro e w1 ⟨rfl, rfl⟩) | (go_at_call 54; refine (unhide CW _).mono ?_; rintro e w1 ⟨rfl, hb1⟩; replace hb := bl_tr hb hb1; clear hb1))
      refine (r_abs a hx _).mono ?_
      rintro e w1 ⟨ab, rfl, Hab, Rab, B1⟩
      replace hb := bl_tr hb B1
      clear B1
      go_wp2_with fail
      refine (r_log ab Rab _).mono ?_
      rintro e w2 ⟨l, rfl, Hl, Rl, B2⟩
      replace hb := bl_tr hb B2
      clear B2
      go_wp2_with fail
      refine (r_mul b l hy Rl _).mono ?_
      rintro e w3 ⟨m, rfl, Hm, Rm, B3⟩
      replace hb := bl_tr hb B3
      clear B3
      go_wp2_with fail
      refine (r_exp m Rm _).mono ?_
      rintro e w4 ⟨y, rfl, Hy, Ry, B4⟩
      replace hb := bl_tr hb B4
      clear B4
      go_wp2_with (first | (go_at_call 54; refine (unhide CW _).mono ?_; rintro e w1 ⟨rfl, hb1⟩; replace hb := bl_tr hb hb1; clear hb1) | (go_at_call 29; first | (refine (unhide CB _).mono ?_; rintro e w1 ⟨rfl, hb1⟩; replace hb := bl_tr hb hb1; clear hb1)))
      go_ret
      refine ⟨_, rfl, hide ?_, Ry, hb⟩
      rw [(unhide KEY false (by rw [unhide HFW]; rfl)).2 (.inl hsg)]
      unfold powY
      rw [unhide Hy, unhide Hm, unhide Hl, unhide Hab]
    · cases hlb : Flt.lessF (Flt.absF b) 0x4B800000
      · go_enter Tryz.func15, Tryz.ntmps15
        go_wp2_with (first | (go_at_call 29; first | (refine (unhide CB _).mono ?_; rintro e w1 ⟨rfl, hb1⟩; replace hb := bl_tr hb hb1; clear hb1)) | (go_at_call 30; first | (refine (risNone_any a hx.lo hx.hi _).mono ?_; rintro e w1 ⟨rfl, rfl⟩) | (refine (risNone_any b hy.lo hy.hi _).mono ?_; rintro e w1 ⟨rfl, rfl⟩)) | (go_at_call 31; refine (r_less a 0 hx ⟨by omega, by omega⟩ _).mono ?_; rintro e w1 ⟨rfl, rfl⟩) | (go_at_call 54; refine (unhide CW _).mono ?_; rintro e w1 ⟨rfl, hb1⟩; replace hb := bl_tr hb hb1; clear hb1))
        refine (r_abs a hx _).mono ?_
        rintro e w1 ⟨ab, rfl, Hab, Rab, B1⟩
        replace hb := bl_tr hb B1
        clear B1
        go_wp2_with fail
        refine (r_log ab Rab _).mono ?_
        rintro e w2 ⟨l, rfl, Hl, Rl, B2⟩
        replace hb := bl_tr hb B2
        clear B2
        go_wp2_with fail
        refine (r_mul b l hy Rl _).mono ?_
        rintro e w3 ⟨m, rfl, Hm, Rm, B3⟩
        replace hb := bl_tr hb B3
        clear B3
        go_wp2_with fail
        refine (r_exp m Rm _).mono ?_
        rintro e w4 ⟨y, rfl, Hy, Ry, B4⟩
        replace hb := bl_tr hb B4
        clear B4
        go_wp2_with (first | (go_at_call 54; refine (unhide CW _).mono ?_; rintro e w1 ⟨rfl, hb1⟩; replace hb := bl_tr hb hb1; clear hb1) | (go_at_call 29; first | (refine (unhide CB _).mono ?_; rintro e w1 ⟨rfl, hb1⟩; replace hb := bl_tr hb hb1; clear hb1)) | (go_at_call 31; refine (r_less (Flt.absF b) 0x4B800000 rab ⟨by omega, by omega⟩ _).mono ?_; rintro e w1 ⟨rfl, rfl⟩))
        go_ret
        refine ⟨_, rfl, hide ?_, Ry, hb⟩
        rw [(unhide KEY false (by rw [unhide HFW, hlb]; rfl)).2 (.inl hsg)]
        unfold powY
        rw [unhide Hy, unhide Hm, unhide Hl, unhide Hab]
      · go_enter Tryz.func15, Tryz.ntmps15
        go_wp2_with (first | (go_at_call 29; first | (refine (unhide CB _).mono ?_; rintro e w1 ⟨rfl, hb1⟩; replace hb := bl_tr hb hb1; clear hb1)) | (go_at_call 30; first | (refine (risNone_any a hx.lo hx.hi _).mono ?_; rintro e w1 ⟨rfl, rfl⟩) | (refine (risNone_any b hy.lo hy.hi _).mono ?_; rintro e w1 ⟨rfl, rfl⟩)) | (go_at_call 31; refine (r_less a 0 hx ⟨by omega, by omega⟩ _).mono ?_; rintro e w1 ⟨rfl, rfl⟩) | (go_at_call 54; refine (unhide CW _).mono ?_; rintro e w1 ⟨rfl, hb1⟩; replace hb := bl_tr hb hb1; clear hb1))
        refine (r_abs a hx _).mono ?_
        rintro e w1 ⟨ab, rfl, Hab, Rab, B1⟩
        replace hb := bl_tr hb B1
        clear B1
        go_wp2_with fail
        refine (r_log ab Rab _).mono ?_
        rintro e w2 ⟨l, rfl, Hl, Rl, B2⟩
        replace hb := bl_tr hb B2
        clear B2
        go_wp2_with fail
        refine (r_mul b l hy Rl _).mono ?_
        rintro e w3 ⟨m, rfl, Hm, Rm, B3⟩
        replace hb := bl_tr hb B3
        clear B3
        go_wp2_with fail
        refine (r_exp m Rm _).mono ?_
        rintro e w4 ⟨y, rfl, Hy, Ry, B4⟩
        replace hb := bl_tr hb B4
        clear B4
        go_wp2_with (first | (go_at_call 54; refine (unhide CW _).mono ?_; rintro e w1 ⟨rfl, hb1⟩; replace hb := bl_tr hb hb1; clear hb1) | (go_at_call 29; first | (refine (unhide CB _).mono ?_; rintro e w1 ⟨rfl, hb1⟩; replace hb := bl_tr hb hb1; clear hb1)) | (go_at_call 31; refine (r_less (Flt.absF b) 0x4B800000 rab ⟨by omega, by omega⟩ _).mono ?_; rintro e w1 ⟨rfl, rfl⟩))
        refine (r_toInt b hy _).mono ?_
        rintro e v9 ⟨n, rfl, Hn, n0, n1, B9⟩
        replace hb := bl_tr hb B9
        clear B9
        have ht := tmod_odd n
        have ht2 := tmod_odd2 n
        have HO : Hid (oddB b = (n % 2 == 1)) := hide (by rw [unhide HFW, hlb, unhide Hn]; rfl)
        cases hodd : (n % 2 == 1)
        · rw [hodd] at ht ht2
          go_wp2_with fail
          go_ret
          refine ⟨_, rfl, hide ?_, Ry, hb⟩
          rw [(unhide KEY false (by rw [unhide HO, hodd])).2 (.inl hsg)]
          unfold powY
          rw [unhide Hy, unhide Hm, unhide Hl, unhide Hab]
        · rw [hodd] at ht ht2
          go_wp2_with fail
          go_ret
          refine ⟨_, rfl, hide ?_, Ry, hb⟩
          rw [(unhide KEY true (by rw [unhide HO, hodd])).2 (.inl hsg)]
          unfold powY
          rw [unhide Hy, unhide Hm, unhide Hl, unhide Hab]
    · go_enter Tryz.func15, Tryz.ntmps15
      go_wp2_with (first | (go_at_call 29; first | (refine (unhide CB _).mono ?_; rintro e w1 ⟨rfl, hb1⟩; replace hb := bl_tr hb hb1; clear hb1)) | (go_at_call 30; first | (refine (risNone_any a hx.lo hx.hi _).mono ?_; rintro e w1 ⟨rfl, rfl⟩) | (refine (risNone_any b hy.lo hy.hi _).mono ?_; rintro e w1 ⟨rfl, rfl⟩)) | (go_at_call 31; refine (r_less a 0 hx ⟨by omega, by omega⟩ _).mono ?_; rintro e w1 ⟨rfl, rfl⟩) | (go_at_call 54; refine (unhide CW _).mono ?_; rintro e w1 ⟨rfl, hb1⟩; replace hb := bl_tr hb hb1; clear hb1))
      refine (r_abs a hx _).mono ?_
      rintro e w1 ⟨ab, rfl, Hab, Rab, B1⟩
      replace hb := bl_tr hb B1
      clear B1
      go_wp2_with fail
      refine (r_log ab Rab _).mono ?_
      rintro e w2 ⟨l, rfl, Hl, Rl, B2⟩
      replace hb := bl_tr hb B2
      clear B2
      go_wp2_with fail
      refine (r_mul b l hy Rl _).mono ?_
      rintro e w3 ⟨m, rfl, Hm, Rm, B3⟩
      replace hb := bl_tr hb B3
      clear B3
      go_wp2_with fail
      refine (r_exp m Rm _).mono ?_
      rintro e w4 ⟨y, rfl, Hy, Ry, B4⟩
      replace hb := bl_tr hb B4
      clear B4
      go_wp2_with (first | (go_at_call 54; refine (unhide CW _).mono ?_; rintro e w1 ⟨rfl, hb1⟩; replace hb := bl_tr hb hb1; clear hb1) | (go_at_call 29; first | (refine (unhide CB _).mono ?_; rintro e w1 ⟨rfl, hb1⟩; replace hb := bl_tr hb hb1; clear hb1)))
      go_ret
      refine ⟨_, rfl, hide ?_, Ry, hb⟩
      rw [(unhide KEY false (by rw [unhide HFW]; rfl)).2 (.inl hsg)]
      unfold powY
      rw [unhide Hy, unhide Hm, unhide Hl, unhide Hab]
  · have hsd : decide (2147483648 ≤ a) = true := hsg
    rcases hmi with ⟨m1, m2⟩ | m1 <;> rcases hki with ⟨k1, k2, rfl⟩ | ⟨k1, k2, rfl⟩ | ⟨k1, rfl⟩ | ⟨k1, rfl⟩
    · cases hlb : Flt.lessF (Flt.absF b) 0x4B800000
      · go_enter Tryz.func15, Tryz.ntmps15
        go_wp2_with (first | (go_at_call 29; first | (refine (unhide CB _).mono ?_; rintro e w1 ⟨rfl, hb1⟩; replace hb := bl_tr hb hb1; clear hb1)) | (go_at_call 30; first | (refine (risNone_any a hx.lo hx.hi _).mono ?_; rintro e w1 ⟨rfl, rfl⟩) | (refine (risNone_any b hy.lo hy.hi _).mono ?_; rintro e w1 ⟨rfl, rfl⟩)) | (go_at_call 31; refine (r_less a 0 hx ⟨by omega, by omega⟩ _).mono ?_; rintro e w1 ⟨rfl, rfl⟩) | (go_at_call 54; refine (unhide CW _).mono ?_; rintro e w1 ⟨rfl, hb1⟩; replace hb := bl_tr hb hb1; clear hb1))
        refine (r_abs a hx _).mono ?_
        rintro e w1 ⟨ab, rfl, Hab, Rab, B1⟩
        replace hb := bl_tr hb B1
        clear B1
        go_wp2_with fail
        refine (r_log ab Rab _).mono ?_
        rintro e w2 ⟨l, rfl, Hl, Rl, B2⟩
        replace hb := bl_tr hb B2
        clear B2
        go_wp2_with fail
        refine (r_mul b l hy Rl _).mono ?_
        rintro e w3 ⟨m, rfl, Hm, Rm, B3⟩
        replace hb := bl_tr hb B3
        clear B3
        go_wp2_with fail
        refine (r_exp m Rm _).mono ?_
        rintro e w4 ⟨y, rfl, Hy, Ry, B4⟩
        replace hb := bl_tr hb B4
        clear B4
        go_wp2_with (first | (go_at_call 54; refine (unhide CW _).mono ?_; rintro e w1 ⟨rfl, hb1⟩; replace hb := bl_tr hb hb1; clear hb1) | (go_at_call 29; first | (refine (unhide CB _).mono ?_; rintro e w1 ⟨rfl, hb1⟩; replace hb := bl_tr hb hb1; clear hb1)) | (go_at_call 31; refine (r_less (Flt.absF b) 0x4B800000 rab ⟨by omega, by omega⟩ _).mono ?_; rintro e w1 ⟨rfl, rfl⟩))
        go_ret
        refine ⟨_, rfl, hide ?_, Ry, hb⟩
        rw [(unhide KEY false (by rw [unhide HFW, hlb]; rfl)).2 (.inr rfl)]
        unfold powY
        rw [unhide Hy, unhide Hm, unhide Hl, unhide Hab]
      · go_enter Tryz.func15, Tryz.ntmps15
        go_wp2_with (first | (go_at_call 29; first | (refine (unhide CB _).mono ?_; rintro e w1 ⟨rfl, hb1⟩; replace hb := bl_tr hb hb1; clear hb1)) | (go_at_call 30; first | (refine (risNone_any a hx.lo hx.hi _).mono ?_; rintro e w1 ⟨rfl, rfl⟩) | (refine (risNone_any b hy.lo hy.hi _).mono ?_; rintro e w1 ⟨rfl, rfl⟩)) | (go_at_call 31; refine (r_less a 0 hx ⟨by omega, by omega⟩ _).mono ?_; rintro e w1 ⟨rfl, rfl⟩) | (go_at_call 54; refine (unhide CW _).mono ?_; rintro e w1 ⟨rfl, hb1⟩; replace hb := bl_tr hb hb1; clear hb1))
        refine (r_abs a hx _).mono ?_
        rintro e w1 ⟨ab, rfl, Hab, Rab, B1⟩
        replace hb := bl_tr hb B1
        clear B1
        go_wp2_with fail
        refine (r_log ab Rab _).mono ?_
        rintro e w2 ⟨l, rfl, Hl, Rl, B2⟩
        replace hb := bl_tr hb B2
        clear B2
        go_wp2_with fail
        refine (r_mul b l hy Rl _).mono ?_
        rintro e w3 ⟨m, rfl, Hm, Rm, B3⟩
        replace hb := bl_tr hb B3
        clear B3
        go_wp2_with fail
        refine (r_exp m Rm _).mono ?_
        rintro e w4 ⟨y, rfl, Hy, Ry, B4⟩
        replace hb := bl_tr hb B4
        clear B4
        go_wp2_with (first | (go_at_call 54; refine (unhide CW _).mono ?_; rintro e w1 ⟨rfl, hb1⟩; replace hb := bl_tr hb hb1; clear hb1) | (go_at_call 29; first | (refine (unhide CB _).mono ?_; rintro e w1 ⟨rfl, hb1⟩; replace hb := bl_tr hb hb1; clear hb1)) | (go_at_call 31; refine (r_less (Flt.absF b) 0x4B800000 rab ⟨by omega, by omega⟩ _).mono ?_; rintro e w1 ⟨rfl, rfl⟩))
        refine (r_toInt b hy _).mono ?_
        rintro e v9 ⟨n, rfl, Hn, n0, n1, B9⟩
        replace hb := bl_tr hb B9
        clear B9
        have ht := tmod_odd n
        have ht2 := tmod_odd2 n
        have HO : Hid (oddB b = (n % 2 == 1)) := hide (by rw [unhide HFW, hlb, unhide Hn]; rfl)
        cases hodd : (n % 2 == 1)
        · rw [hodd] at ht ht2
          go_wp2_with fail
          go_ret
          refine ⟨_, rfl, hide ?_, Ry, hb⟩
          rw [(unhide KEY false (by rw [unhide HO, hodd])).2 (.inr rfl)]
          unfold powY
          rw [unhide Hy, unhide Hm, unhide Hl, unhide Hab]
        · rw [hodd] at ht ht2
          go_wp2_with fail
          refine (r_neg y Ry _).mono ?_
          rintro e w9 ⟨ny, rfl, Hny, Rny, B9⟩
          replace hb := bl_tr hb B9
          clear B9
          go_wp2_with fail
          go_ret
          refine ⟨_, rfl, hide ?_, Rny, hb⟩
          rw [(unhide KEY true (by rw [unhide HO, hodd])).1 ⟨hsg, rfl⟩]
          unfold powY
          rw [unhide Hny, unhide Hy, unhide Hm, unhide Hl, unhide Hab]
    · go_enter Tryz.func15, Tryz.ntmps15
      go_wp2_with (first | (go_at_call 29; first | (refine (unhide CB _).mono ?_; rintro e w1 ⟨rfl, hb1⟩; replace hb := bl_tr hb hb1; clear hb1)) | (go_at_call 30; first | (refine (risNone_any a hx.lo hx.hi _).mono ?_; rintro e w1 ⟨rfl, rfl⟩) | (refine (risNone_any b hy.lo hy.hi _).mono ?_; rintro e w1 ⟨rfl, rfl⟩)) | (go_at_call 31; refine (r_less a 0 hx ⟨by omega, by omega⟩ _).mono ?_; rintro e w1 ⟨rfl, rfl⟩) | (go_at_call 54; refine (unhide CW _).mono ?_; rintro e w1 ⟨rfl, hb1⟩; replace hb := bl_tr hb hb1; clear hb1))
      refine (r_abs a hx _).mono ?_
      rintro e w1 ⟨ab, rfl, Hab, Rab, B1⟩
      replace hb := bl_tr hb B1
      clear B1
      go_wp2_with fail
      refine (r_log ab Rab _).mono ?_
      rintro e w2 ⟨l, rfl, Hl, Rl, B2⟩
      replace hb := bl_tr hb B2
      clear B2
      go_wp2_with fail
      refine (r_mul b l hy Rl _).mono ?_
      rintro e w3 ⟨m, rfl, Hm, Rm, B3⟩
      replace hb := bl_tr hb B3
      clear B3
      go_wp2_with fail
      refine (r_exp m Rm _).mono ?_
      rintro e w4 ⟨y, rfl, Hy, Ry, B4⟩
      replace hb := bl_tr hb B4
      clear B4
      go_wp2_with (first | (go_at_call 54; refine (unhide CW _).mono ?_; rintro e w1 ⟨rfl, hb1⟩; replace hb := bl_tr hb hb1; clear hb1) | (go_at_call 29; first | (refine (unhide CB _).mono ?_; rintro e w1 ⟨rfl, hb1⟩; replace hb := bl_tr hb hb1; clear hb1)))
      go_ret
      refine ⟨_, rfl, hide ?_, Ry, hb⟩
      rw [(unhide KEY false (by rw [unhide HFW]; rfl)).2 (.inr rfl)]
      unfold powY
      rw [unhide Hy, unhide Hm, unhide Hl, unhide Hab]
    · cases hlb : Flt.lessF (Flt.absF b) 0x4B800000
      · go_enter Tryz.func15, Tryz.ntmps15
        go_wp2_with (first | (go_at_call 29; first | (refine (unhide CB _).mono ?_; rintro e w1 ⟨rfl, hb1⟩; replace hb := bl_tr hb hb1; clear hb1)) | (go_at_call 30; first | (refine (risNone_any a hx.lo hx.hi _).mono ?_; rintro e w1 ⟨rfl, rfl⟩) | (refine (risNone_any b hy.lo hy.hi _).mono ?_; rintro e w1 ⟨rfl, rfl⟩)) | (go_at_call 31; refine (r_less a 0 hx ⟨by omega, by omega⟩ _).mono ?_; rintro e w1 ⟨rfl, rfl⟩) | (go_at_call 54; refine (unhide CW _).mono ?_; rintro e w1 ⟨rfl, hb1⟩; replace hb := bl_tr hb hb1; clear hb1))
        refine (r_abs a hx _).mono ?_
        rintro e w1 ⟨ab, rfl, Hab, Rab, B1⟩
        replace hb := bl_tr hb B1
        clear B1
        go_wp2_with fail
        refine (r_log ab Rab _).mono ?_
        rintro e w2 ⟨l, rfl, Hl, Rl, B2⟩
        replace hb := bl_tr hb B2
        clear B2
        go_wp2_with fail
        refine (r_mul b l hy Rl _).mono ?_
        rintro e w3 ⟨m, rfl, Hm, Rm, B3⟩
        replace hb := bl_tr hb B3
        clear B3
        go_wp2_with fail
        refine (r_exp m Rm _).mono ?_
        rintro e w4 ⟨y, rfl, Hy, Ry, B4⟩
        replace hb := bl_tr hb B4
        clear B4
        go_wp2_with (first | (go_at_call 54; refine (unhide CW _).mono ?_; rintro e w1 ⟨rfl, hb1⟩; replace hb := bl_tr hb hb1; clear hb1) | (go_at_call 29; first | (refine (unhide CB _).mono ?_; rintro e w1 ⟨rfl, hb1⟩; replace hb := bl_tr hb hb1; clear hb1)) | (go_at_call 31; refine (r_less (Flt.absF b) 0x4B800000 rab ⟨by omega, by omega⟩ _).mono ?_; rintro e w1 ⟨rfl, rfl⟩))
        go_ret
        refine ⟨_, rfl, hide ?_, Ry, hb⟩
        rw [(unhide KEY false (by rw [unhide HFW, hlb]; rfl)).2 (.inr rfl)]
        unfold powY
        rw [unhide Hy, unhide Hm, unhide Hl, unhide Hab]
      · go_enter Tryz.func15, Tryz.ntmps15
        go_wp2_with (first | (go_at_call 29; first | (refine (unhide CB _).mono ?_; rintro e w1 ⟨rfl, hb1⟩; replace hb := bl_tr hb hb1; clear hb1)) | (go_at_call 30; first | (refine (risNone_any a hx.lo hx.hi _).mono ?_; rintro e w1 ⟨rfl, rfl⟩) | (refine (risNone_any b hy.lo hy.hi _).mono ?_; rintro e w1 ⟨rfl, rfl⟩)) | (go_at_call 31; refine (r_less a 0 hx ⟨by omega, by omega⟩ _).mono ?_; rintro e w1 ⟨rfl, rfl⟩) | (go_at_call 54; refine (unhide CW _).mono ?_; rintro e w1 ⟨rfl, hb1⟩; replace hb := bl_tr hb hb1; clear hb1))
        refine (r_abs a hx _).mono ?_
        rintro e w1 ⟨ab, rfl, Hab, Rab, B1⟩
        replace hb := bl_tr hb B1
        clear B1
        go_wp2_with fail
        refine (r_log ab Rab _).mono ?_
        rintro e w2 ⟨l, rfl, Hl, Rl, B2⟩
        replace hb := bl_tr hb B2
        clear B2
        go_wp2_with fail
        refine (r_mul b l hy Rl _).mono ?_
        rintro e w3 ⟨m, rfl, Hm, Rm, B3⟩
        replace hb := bl_tr hb B3
        clear B3
        go_wp2_with fail
        refine (r_exp m Rm _).mono ?_
        rintro e w4 ⟨y, rfl, Hy, Ry, B4⟩
        replace hb := bl_tr hb B4
        clear B4
        go_wp2_with (first | (go_at_call 54; refine (unhide CW _).mono ?_; rintro e w1 ⟨rfl, hb1⟩; replace hb := bl_tr hb hb1; clear hb1) | (go_at_call 29; first | (refine (unhide CB _).mono ?_; rintro e w1 ⟨rfl, hb1⟩; replace hb := bl_tr hb hb1; clear hb1)) | (go_at_call 31; refine (r_less (Flt.absF b) 0x4B800000 rab ⟨by omega, by omega⟩ _).mono ?_; rintro e w1 ⟨rfl, rfl⟩))
        refine (r_toInt b hy _).mono ?_
        rintro e v9 ⟨n, rfl, Hn, n0, n1, B9⟩
        replace hb := bl_tr hb B9
        clear B9
        have ht := tmod_odd n
        have ht2 := tmod_odd2 n
        have HO : Hid (oddB b = (n % 2 == 1)) := hide (by rw [unhide HFW, hlb, unhide Hn]; rfl)
        cases hodd : (n % 2 == 1)
        · rw [hodd] at ht ht2
          go_wp2_with fail
          go_ret
          refine ⟨_, rfl, hide ?_, Ry, hb⟩
          rw [(unhide KEY false (by rw [unhide HO, hodd])).2 (.inr rfl)]
          unfold powY
          rw [unhide Hy, unhide Hm, unhide Hl, unhide Hab]
        · rw [hodd] at ht ht2
          go_wp2_with fail
          refine (r_neg y Ry _).mono ?_
          rintro e w9 ⟨ny, rfl, Hny, Rny, B9⟩
          replace hb := bl_tr hb B9
          clear B9
          go_wp2_with fail
          go_ret
          refine ⟨_, rfl, hide ?_, Rny, hb⟩
          rw [(unhide KEY true (by rw [unhide HO, hodd])).1 ⟨hsg, rfl⟩]
          unfold powY
          rw [unhide Hny, unhide Hy, unhide Hm, unhide Hl, unhide Hab]
    · go_enter Tryz.func15, Tryz.ntmps15
      go_wp2_with (first | (go_at_call 29; first | (refine (unhide CB _).mono ?_; rintro e w1 ⟨rfl, hb1⟩; replace hb := bl_tr hb hb1; clear hb1)) | (go_at_call 30; first | (refine (risNone_any a hx.lo hx.hi _).mono ?_; rintro e w1 ⟨rfl, rfl⟩) | (refine (risNone_any b hy.lo hy.hi _).mono ?_; rintro e w1 ⟨rfl, rfl⟩)) | (go_at_call 31; refine (r_less a 0 hx ⟨by omega, by omega⟩ _).mono ?_; rintro e w1 ⟨rfl, rfl⟩) | (go_at_call 54; refine (unhide CW _).mono ?_; rintro e w1 ⟨rfl, hb1⟩; replace hb := bl_tr hb hb1; clear hb1))
      refine (r_abs a hx _).mono ?_
      rintro e w1 ⟨ab, rfl, Hab, Rab, B1⟩
      replace hb := bl_tr hb B1
      clear B1
      go_wp2_with fail
      refine (r_log ab Rab _).mono ?_
      rintro e w2 ⟨l, rfl, Hl, Rl, B2⟩
      replace hb := bl_tr hb B2
      clear B2
      go_wp2_with fail
      refine (r_mul b l hy Rl _).mono ?_
      rintro e w3 ⟨m, rfl, Hm, Rm, B3⟩
      replace hb := bl_tr hb B3
      clear B3
      go_wp2_with fail
      refine (r_exp m Rm _).mono ?_
      rintro e w4 ⟨y, rfl, Hy, Ry, B4⟩
      replace hb := bl_tr hb B4
      clear B4
      go_wp2_with (first | (go_at_call 54; refine (unhide CW _).mono ?_; rintro e w1 ⟨rfl, hb1⟩; replace hb := bl_tr hb hb1; clear hb1) | (go_at_call 29; first | (refine (unhide CB _).mono ?_; rintro e w1 ⟨rfl, hb1⟩; replace hb := bl_tr hb hb1; clear hb1)))
      go_ret
      refine ⟨_, rfl, hide ?_, Ry, hb⟩
      rw [(unhide KEY false (by rw [unhide HFW]; rfl)).2 (.inr rfl)]
      unfold powY
      rw [unhide Hy, unhide Hm, unhide Hl, unhide Hab]
    · cases hlb : Flt.lessF (Flt.absF b) 0x4B800000
      · go_enter Tryz.func15, Tryz.ntmps15
        go_wp2_with (first | (go_at_call 29; first | (refine (unhide CB _).mono ?_; rintro e w1 ⟨rfl, hb1⟩; replace hb := bl_tr hb hb1; clear hb1)) | (go_at_call 30; first | (refine (risNone_any a hx.lo hx.hi _).mono ?_; rintro e w1 ⟨rfl, rfl⟩) | (refine (risNone_any b hy.lo hy.hi _).mono ?_; rintro e w1 ⟨rfl, rfl⟩)) | (go_at_call 31; refine (r_less a 0 hx ⟨by omega, by omega⟩ _).mono ?_; rintro e w1 ⟨rfl, rfl⟩) | (go_at_call 54; refine (unhide CW _).mono ?_; rintro e w1 ⟨rfl, hb1⟩; replace hb := bl_tr hb hb1; clear hb1))
        refine (r_abs a hx _).mono ?_
        rintro e w1 ⟨ab, rfl, Hab, Rab, B1⟩
        replace hb := bl_tr hb B1
        clear B1
        go_wp2_with fail
        refine (r_log ab Rab _).mono ?_
        rintro e w2 ⟨l, rfl, Hl, Rl, B2⟩
        replace hb := bl_tr hb B2
        clear B2
        go_wp2_with fail
        refine (r_mul b l hy Rl _).mono ?_
        rintro e w3 ⟨m, rfl, Hm, Rm, B3⟩
        replace hb := bl_tr hb B3
        clear B3
        go_wp2_with fail
        refine (r_exp m Rm _).mono ?_
        rintro e w4 ⟨y, rfl, Hy, Ry, B4⟩
        replace hb := bl_tr hb B4
        clear B4
        go_wp2_with (first | (go_at_call 54; refine (unhide CW _).mono ?_; rintro e w1 ⟨rfl, hb1⟩; replace hb := bl_tr hb hb1; clear hb1) | (go_at_call 29; first | (refine (unhide CB _).mono ?_; rintro e w1 ⟨rfl, hb1⟩; replace hb := bl_tr hb hb1; clear hb1)) | (go_at_call 31; refine (r_less (Flt.absF b) 0x4B800000 rab ⟨by omega, by omega⟩ _).mono ?_; rintro e w1 ⟨rfl, rfl⟩))
        go_ret
        refine ⟨_, rfl, hide ?_, Ry, hb⟩
        rw [(unhide KEY false (by rw [unhide HFW, hlb]; rfl)).2 (.inr rfl)]
        unfold powY
        rw [unhide Hy, unhide Hm, unhide Hl, unhide Hab]
      · go_enter Tryz.func15, Tryz.ntmps15
        go_wp2_with (first | (go_at_call 29; first | (refine (unhide CB _).mono ?_; rintro e w1 ⟨rfl, hb1⟩; replace hb := bl_tr hb hb1; clear hb1)) | (go_at_call 30; first | (refine (risNone_any a hx.lo hx.hi _).mono ?_; rintro e w1 ⟨rfl, rfl⟩) | (refine (risNone_any b hy.lo hy.hi _).mono ?_; rintro e w1 ⟨rfl, rfl⟩)) | (go_at_call 31; refine (r_less a 0 hx ⟨by omega, by omega⟩ _).mono ?_; rintro e w1 ⟨rfl, rfl⟩) | (go_at_call 54; refine (unhide CW _).mono ?_; rintro e w1 ⟨rfl, hb1⟩; replace hb := bl_tr hb hb1; clear hb1))
        refine (r_abs a hx _).mono ?_
        rintro e w1 ⟨ab, rfl, Hab, Rab, B1⟩
        replace hb := bl_tr hb B1
        clear B1
        go_wp2_with fail
        refine (r_log ab Rab _).mono ?_
        rintro e w2 ⟨l, rfl, Hl, Rl, B2⟩
        replace hb := bl_tr hb B2
        clear B2
        go_wp2_with fail
        refine (r_mul b l hy Rl _).mono ?_
        rintro e w3 ⟨m, rfl, Hm, Rm, B3⟩
        replace hb := bl_tr hb B3
        clear B3
        go_wp2_with fail
        refine (r_exp m Rm _).mono ?_
        rintro e w4 ⟨y, rfl, Hy, Ry, B4⟩
        replace hb := bl_tr hb B4
        clear B4
        go_wp2_with (first | (go_at_call 54; refine (unhide CW _).mono ?_; rintro e w1 ⟨rfl, hb1⟩; replace hb := bl_tr hb hb1; clear hb1) | (go_at_call 29; first | (refine (unhide CB _).mono ?_; rintro e w1 ⟨rfl, hb1⟩; replace hb := bl_tr hb hb1; clear hb1)) | (go_at_call 31; refine (r_less (Flt.absF b) 0x4B800000 rab ⟨by omega, by omega⟩ _).mono ?_; rintro e w1 ⟨rfl, rfl⟩))
        refine (r_toInt b hy _).mono ?_
        rintro e v9 ⟨n, rfl, Hn, n0, n1, B9⟩
        replace hb := bl_tr hb B9
        clear B9
        have ht := tmod_odd n
        have ht2 := tmod_odd2 n
        have HO : Hid (oddB b = (n % 2 == 1)) := hide (by rw [unhide HFW, hlb, unhide Hn]; rfl)
        cases hodd : (n % 2 == 1)
        · rw [hodd] at ht ht2
          go_wp2_with fail
          go_ret
          refine ⟨_, rfl, hide ?_, Ry, hb⟩
          rw [(unhide KEY false (by rw [unhide HO, hodd])).2 (.inr rfl)]
          unfold powY
          rw [unhide Hy, unhide Hm, unhide Hl, unhide Hab]
        · rw [hodd] at ht ht2
          go_wp2_with fail
          refine (r_neg y Ry _).mono ?_
          rintro e w9 ⟨ny, rfl, Hny, Rny, B9⟩
          replace hb := bl_tr hb B9
          clear B9
          go_wp2_with fail
          go_ret
          refine ⟨_, rfl, hide ?_, Rny, hb⟩
          rw [(unhide KEY true (by rw [unhide HO, hodd])).1 ⟨hsg, rfl⟩]
          unfold powY
          rw [unhide Hny, unhide Hy, unhide Hm, unhide Hl, unhide Hab]
    · go_enter Tryz.func15, Tryz.ntmps15
      go_wp2_with (first | (go_at_call 29; first | (refine (unhide CB _).mono ?_; rintro e w1 ⟨rfl, hb1⟩; replace hb := bl_tr hb hb1; clear hb1)) | (go_at_call 30; first | (refine (risNone_any a hx.lo hx.hi _).mono ?_; rintro e w1 ⟨rfl, rfl⟩) | (refine (risNone_any b hy.lo hy.hi _).mono ?_; rintro e w1 ⟨rfl, rfl⟩)) | (go_at_call 31; refine (r_less a 0 hx ⟨by omega, by omega⟩ _).mono ?_; rintro e w1 ⟨rfl, rfl⟩) | (go_at_call 54; refine (unhide CW _).mono ?_; rintro e w1 ⟨rfl, hb1⟩; replace hb := bl_tr hb hb1; clear hb1))
      refine (r_abs a hx _).mono ?_
      rintro e w1 ⟨ab, rfl, Hab, Rab, B1⟩
      replace hb := bl_tr hb B1
      clear B1
      go_wp2_with fail
      refine (r_log ab Rab _).mono ?_
      rintro e w2 ⟨l, rfl, Hl, Rl, B2⟩
      replace hb := bl_tr hb B2
      clear B2
      go_wp2_with fail
      refine (r_mul b l hy Rl _).mono ?_
      rintro e w3 ⟨m, rfl, Hm, Rm, B3⟩
      replace hb := bl_tr hb B3
      clear B3
      go_wp2_with fail
      refine (r_exp m Rm _).mono ?_
      rintro e w4 ⟨y, rfl, Hy, Ry, B4⟩
      replace hb := bl_tr hb B4
      clear B4
      go_wp2_with (first | (go_at_call 54; refine (unhide CW _).mono ?_; rintro e w1 ⟨rfl, hb1⟩; replace hb := bl_tr hb hb1; clear hb1) | (go_at_call 29; first | (refine (unhide CB _).mono ?_; rintro e w1 ⟨rfl, hb1⟩; replace hb := bl_tr hb hb1; clear hb1)))
      go_ret
      refine ⟨_, rfl, hide ?_, Ry, hb⟩
      rw [(unhide KEY false (by rw [unhide HFW]; rfl)).2 (.inr rfl)]
      unfold powY
      rw [unhide Hy, unhide Hm, unhide Hl, unhide Hab]
    · cases hlb : Flt.lessF (Flt.absF b) 0x4B800000
      · go_enter Tryz.func15, Tryz.ntmps15
        go_wp2_with (first | (go_at_call 29; first | (refine (unhide CB _).mono ?_; rintro e w1 ⟨rfl, hb1⟩; replace hb := bl_tr hb hb1; clear hb1)) | (go_at_call 30; first | (refine (risNone_any a hx.lo hx.hi _).mono ?_; rintro e w1 ⟨rfl, rfl⟩) | (refine (risNone_any b hy.lo hy.hi _).mono ?_; rintro e w1 ⟨rfl, rfl⟩)) | (go_at_call 31; refine (r_less a 0 hx ⟨by omega, by omega⟩ _).mono ?_; rintro e w1 ⟨rfl, rfl⟩) | (go_at_call 54; refine (unhide CW _).mono ?_; rintro e w1 ⟨rfl, hb1⟩; replace hb := bl_tr hb hb1; clear hb1))
        refine (r_abs a hx _).mono ?_
        rintro e w1 ⟨ab, rfl, Hab, Rab, B1⟩
        replace hb := bl_tr hb B1
        clear B1
        go_wp2_with fail
        refine (r_log ab Rab _).mono ?_
        rintro e w2 ⟨l, rfl, Hl, Rl, B2⟩
        replace hb := bl_tr hb B2
        clear B2
        go_wp2_with fail
        refine (r_mul b l hy Rl _).mono ?_
        rintro e w3 ⟨m, rfl, Hm, Rm, B3⟩
        replace hb := bl_tr hb B3
        clear B3
        go_wp2_with fail
        refine (r_exp m Rm _).mono ?_
        rintro e w4 ⟨y, rfl, Hy, Ry, B4⟩
        replace hb := bl_tr hb B4
        clear B4
        go_wp2_with (first | (go_at_call 54; refine (unhide CW _).mono ?_; rintro e w1 ⟨rfl, hb1⟩; replace hb := bl_tr hb hb1; clear hb1) | (go_at_call 29; first | (refine (unhide CB _).mono ?_; rintro e w1 ⟨rfl, hb1⟩; replace hb := bl_tr hb hb1; clear hb1)) | (go_at_call 31; refine (r_less (Flt.absF b) 0x4B800000 rab ⟨by omega, by omega⟩ _).mono ?_; rintro e w1 ⟨rfl, rfl⟩))
        go_ret
        refine ⟨_, rfl, hide ?_, Ry, hb⟩
        rw [(unhide KEY false (by rw [unhide HFW, hlb]; rfl)).2 (.inr rfl)]
        unfold powY
        rw [unhide Hy, unhide Hm, unhide Hl, unhide Hab]
      · go_enter Tryz.func15, Tryz.ntmps15
        go_wp2_with (first | (go_at_call 29; first | (refine (unhide CB _).mono ?_; rintro e w1 ⟨rfl, hb1⟩; replace hb := bl_tr hb hb1; clear hb1)) | (go_at_call 30; first | (refine (risNone_any a hx.lo hx.hi _).mono ?_; rintro e w1 ⟨rfl, rfl⟩) | (refine (risNone_any b hy.lo hy.hi _).mono ?_; rintro e w1 ⟨rfl, rfl⟩)) | (go_at_call 31; refine (r_less a 0 hx ⟨by omega, by omega⟩ _).mono ?_; rintro e w1 ⟨rfl, rfl⟩) | (go_at_call 54; refine (unhide CW _).mono ?_; rintro e w1 ⟨rfl, hb1⟩; replace hb := bl_tr hb hb1; clear hb1))
        refine (r_abs a hx _).mono ?_
        rintro e w1 ⟨ab, rfl, Hab, Rab, B1⟩
        replace hb := bl_tr hb B1
        clear B1
        go_wp2_with fail
        refine (r_log ab Rab _).mono ?_
        rintro e w2 ⟨l, rfl, Hl, Rl, B2⟩
        replace hb := bl_tr hb B2
        clear B2
        go_wp2_with fail
        refine (r_mul b l hy Rl _).mono ?_
        rintro e w3 ⟨m, rfl, Hm, Rm, B3⟩
        replace hb := bl_tr hb B3
        clear B3
        go_wp2_with fail
        refine (r_exp m Rm _).mono ?_
        rintro e w4 ⟨y, rfl, Hy, Ry, B4⟩
        replace hb := bl_tr hb B4
        clear B4
        go_wp2_with (first | (go_at_call 54; refine (unhide CW _).mono ?_; rintro e w1 ⟨rfl, hb1⟩; replace hb := bl_tr hb hb1; clear hb1) | (go_at_call 29; first | (refine (unhide CB _).mono ?_; rintro e w1 ⟨rfl, hb1⟩; replace hb := bl_tr hb hb1; clear hb1)) | (go_at_call 31; refine (r_less (Flt.absF b) 0x4B800000 rab ⟨by omega, by omega⟩ _).mono ?_; rintro e w1 ⟨rfl, rfl⟩))
        refine (r_toInt b hy _).mono ?_
        rintro e v9 ⟨n, rfl, Hn, n0, n1, B9⟩
        replace hb := bl_tr hb B9
        clear B9
        have ht := tmod_odd n
        have ht2 := tmod_odd2 n
        have HO : Hid (oddB b = (n % 2 == 1)) := hide (by rw [unhide HFW, hlb, unhide Hn]; rfl)
        cases hodd : (n % 2 == 1)
        · rw [hodd] at ht ht2
          go_wp2_with fail
          go_ret
          refine ⟨_, rfl, hide ?_, Ry, hb⟩
          rw [(unhide KEY false (by rw [unhide HO, hodd])).2 (.inr rfl)]
          unfold powY
          rw [unhide Hy, unhide Hm, unhide Hl, unhide Hab]
        · rw [hodd] at ht ht2
          go_wp2_with fail
          refine (r_neg y Ry _).mono ?_
          rintro e w9 ⟨ny, rfl, Hny, Rny, B9⟩
          replace hb := bl_tr hb B9
          clear B9
          go_wp2_with fail
          go_ret
          refine ⟨_, rfl, hide ?_, Rny, hb⟩
          rw [(unhide KEY true (by rw [unhide HO, hodd])).1 ⟨hsg, rfl⟩]
          unfold powY
          rw [unhide Hny, unhide Hy, unhide Hm, unhide Hl, unhide Hab]
    · go_enter Tryz.func15, Tryz.ntmps15
      go_wp2_with (first | (go_at_call 29; first | (refine (unhide CB _).mono ?_; rintro e w1 ⟨rfl, hb1⟩; replace hb := bl_tr hb hb1; clear hb1)) | (go_at_call 30; first | (refine (risNone_any a hx.lo hx.hi _).mono ?_; rintro e w1 ⟨rfl, rfl⟩) | (refine (risNone_any b hy.lo hy.hi _).mono ?_; rintro e w1 ⟨rfl, rfl⟩)) | (go_at_call 31; refine (r_less a 0 hx ⟨by omega, by omega⟩ _).mono ?_; rintro e w1 ⟨rfl, rfl⟩) | (go_at_call 54; refine (unhide CW _).mono ?_; rintro e w1 ⟨rfl, hb1⟩; replace hb := bl_tr hb hb1; clear hb1))
      refine (r_abs a hx _).mono ?_
      rintro e w1 ⟨ab, rfl, Hab, Rab, B1⟩
      replace hb := bl_tr hb B1
      clear B1
      go_wp2_with fail
      refine (r_log ab Rab _).mono ?_
      rintro e w2 ⟨l, rfl, Hl, Rl, B2⟩
      replace hb := bl_tr hb B2
      clear B2
      go_wp2_with fail
      refine (r_mul b l hy Rl _).mono ?_
      rintro e w3 ⟨m, rfl, Hm, Rm, B3⟩
      replace hb := bl_tr hb B3
      clear B3
      go_wp2_with fail
      refine (r_exp m Rm _).mono ?_
      rintro e w4 ⟨y, rfl, Hy, Ry, B4⟩
      replace hb := bl_tr hb B4
      clear B4
      go_wp2_with (first | (go_at_call 54; refine (unhide CW _).mono ?_; rintro e w1 ⟨rfl, hb1⟩; replace hb := bl_tr hb hb1; clear hb1) | (go_at_call 29; first | (refine (unhide CB _).mono ?_; rintro e w1 ⟨rfl, hb1⟩; replace hb := bl_tr hb hb1; clear hb1)))
      go_ret
      refine ⟨_, rfl, hide ?_, Ry, hb⟩
      rw [(unhide KEY false (by rw [unhide HFW]; rfl)).2 (.inr rfl)]
      unfold powY
      rw [unhide Hy, unhide Hm, unhide Hl, unhide Hab]

set_option maxRecDepth 100000 in
set_option maxHeartbeats 2000000 in
theorem r_pow (a b : Int) (hx : R a) (hy : R b) (w : World) :
    Calls Tryz.prog 15 #[.int .u32 a, .int .u32 b] w fun e w' => ∃ k, e = .returned (.int .u32 k) ∧ Hid (k = powV a b) ∧ R k ∧ Below w.heap.size w w' := by
  have hb := Below.refl w.heap.size w
  have CB : Hid (∀ w, Calls Tryz.prog 29 #[.int .u32 b] w fun e w' => e = .returned (.int .u32 (Flt.absF b)) ∧ Below w.heap.size w w') := hide fun w => by
    refine (r_abs b hy w).mono ?_
    rintro e w1 ⟨k, rfl, Hk, _, B1⟩
    exact ⟨ret_int (unhide Hk), B1⟩
  have hfb : finB b = decide (Flt.absF b < 2139095040) := by
    unfold finB Flt.isNaN Flt.isInf Flt.absF
    rw [Bool.eq_iff_iff]; simp; omega
  have hib : Flt.isInf b = (Flt.absF b == 2139095040) := by
    unfold Flt.isInf Flt.absF; rw [Bool.eq_iff_iff]; simp
  by_cases hz : Flt.absF b = 0
  · have hzb : (Flt.absF b == 0) = true := by simp [hz]
    have HZ := hide hz
    clear hz hfb hib
    go_enter Tryz.func15, Tryz.ntmps15
    go_wp2_with (first | (go_at_call 29; first | (refine (unhide CB _).mono ?_; rintro e w1 ⟨rfl, hb1⟩; replace hb := bl_tr hb hb1; clear hb1)) | (go_at_call 30; first | (refine (risNone_any a hx.lo hx.hi _).mono ?_; rintro e w1 ⟨rfl, rfl⟩) | (refine (risNone_any b hy.lo hy.hi _).mono ?_; rintro e w1 ⟨rfl, rfl⟩)) | (go_at_call 31; refine (r_less a 0 hx ⟨by omega, by omega⟩ _).mono ?_; rintro e w1 ⟨rfl, rfl⟩) | (go_at_call 54; refine (r_whole b hy _).mono ?_; rintro e w1 ⟨rfl, hb1⟩; replace hb := bl_tr hb hb1; clear hb1))
    go_ret
    exact ⟨_, rfl, hide (by unfold powV; rw [if_pos (.inl (unhide HZ))]), ⟨by omega, by omega⟩, hb⟩
  · have hzb : (Flt.absF b == 0) = false := by simp [hz]
    by_cases ho : a = 0x3F800000
    · have hob : (a == 0x3F800000) = true := by simp [ho]
      have HO := hide ho
      clear ho hz hfb hib
      go_enter Tryz.func15, Tryz.ntmps15
      go_wp2_with (first | (go_at_call 29; first | (refine (unhide CB _).mono ?_; rintro e w1 ⟨rfl, hb1⟩; replace hb := bl_tr hb hb1; clear hb1)) | (go_at_call 30; first | (refine (risNone_any a hx.lo hx.hi _).mono ?_; rintro e w1 ⟨rfl, rfl⟩) | (refine (risNone_any b hy.lo hy.hi _).mono ?_; rintro e w1 ⟨rfl, rfl⟩)) | (go_at_call 31; refine (r_less a 0 hx ⟨by omega, by omega⟩ _).mono ?_; rintro e w1 ⟨rfl, rfl⟩) | (go_at_call 54; refine (r_whole b hy _).mono ?_; rintro e w1 ⟨rfl, hb1⟩; replace hb := bl_tr hb hb1; clear hb1))
      go_ret
      exact ⟨_, rfl, hide (by unfold powV; rw [if_pos (.inr (unhide HO))]), ⟨by omega, by omega⟩, hb⟩
    · have hob : (a == 0x3F800000) = false := by simp [ho]
      have c1 : ¬ (Flt.absF b = 0 ∨ a = 0x3F800000) := by rintro (h | h); exact hz h; exact ho h
      have HC1 := hide c1
      clear c1 hz ho
      cases hna : Flt.isNaN a
      · cases hnb : Flt.isNaN b
        · have c2 : ¬ (Flt.isNaN a = true ∨ Flt.isNaN b = true) := by rw [hna, hnb]; decide
          have HC2 := hide c2
          clear c2
          by_cases hm : a = 0xBF800000 ∧ Flt.isInf b = true
          · have hmb : (a == 0xBF800000) = true := by simp [hm.1]
            have hi : (Flt.absF b == 2139095040) = true := by rw [← hib]; exact hm.2
            have HM := hide hm
            clear hm hfb hib
            go_enter Tryz.func15, Tryz.ntmps15
            go_wp2_with (first | (go_at_call 29; first | (refine (unhide CB _).mono ?_; rintro e w1 ⟨rfl, hb1⟩; replace hb := bl_tr hb hb1; clear hb1)) | (go_at_call 30; first | (refine (risNone_any a hx.lo hx.hi _).mono ?_; rintro e w1 ⟨rfl, rfl⟩) | (refine (risNone_any b hy.lo hy.hi _).mono ?_; rintro e w1 ⟨rfl, rfl⟩)) | (go_at_call 31; refine (r_less a 0 hx ⟨by omega, by omega⟩ _).mono ?_; rintro e w1 ⟨rfl, rfl⟩) | (go_at_call 54; refine (r_whole b hy _).mono ?_; rintro e w1 ⟨rfl, hb1⟩; replace hb := bl_tr hb hb1; clear hb1))
            go_ret
            exact ⟨_, rfl, hide (by unfold powV; rw [if_neg (unhide HC1), if_neg (unhide HC2), if_pos (unhide HM)]), ⟨by omega, by omega⟩, hb⟩
          · have hmi : ((a == 0xBF800000) = true ∧ (Flt.absF b == 2139095040) = false) ∨ (a == 0xBF800000) = false := by
              by_cases h : a = 0xBF800000
              · left; exact ⟨by simp [h], by rw [← hib]; cases hi : Flt.isInf b; rfl; exact absurd ⟨h, hi⟩ hm⟩
              · right; simp [h]
            have HM := hide hm
            clear hm hib
            by_cases hk : Flt.lessF a 0 = true ∧ finB b = true ∧ wholeB b = false
            · obtain ⟨k1, k2, k3⟩ := hk
              have k4 : decide (Flt.absF b < 2139095040) = true := by rw [← hfb]; exact k2
              have HK := hide (And.intro k1 (And.intro k2 k3))
              have hwb : (finB b && wholeB b) = false := by rw [k3, Bool.and_false]
              clear hfb k2 k3
              rcases hmi with ⟨m1, m2⟩ | m1
              · go_enter Tryz.func15, Tryz.ntmps15
                go_wp2_with (first | (go_at_call 29; first | (refine (unhide CB _).mono ?_; rintro e w1 ⟨rfl, hb1⟩; replace hb := bl_tr hb hb1; clear hb1)) | (go_at_call 30; first | (refine (risNone_any a hx.lo hx.hi _).mono ?_; rintro e w1 ⟨rfl, rfl⟩) | (refine (risNone_any b hy.lo hy.hi _).mono ?_; rintro e w1 ⟨rfl, rfl⟩)) | (go_at_call 31; refine (r_less a 0 hx ⟨by omega, by omega⟩ _).mono ?_; rintro e w1 ⟨rfl, rfl⟩) | (go_at_call 54; refine (r_whole b hy _).mono ?_; rintro e w1 ⟨rfl, hb1⟩; replace hb := bl_tr hb hb1; clear hb1; rw [hwb]))
                go_ret
                exact ⟨_, rfl, hide (by unfold powV; rw [if_neg (unhide HC1), if_neg (unhide HC2), if_neg (unhide HM), if_pos (unhide HK)]), ⟨by omega, by omega⟩, hb⟩
              · go_enter Tryz.func15, Tryz.ntmps15
                go_wp2_with (first | (go_at_call 29; first | (refine (unhide CB _).mono ?_; rintro e w1 ⟨rfl, hb1⟩; replace hb := bl_tr hb hb1; clear hb1)) | (go_at_call 30; first | (refine (risNone_any a hx.lo hx.hi _).mono ?_; rintro e w1 ⟨rfl, rfl⟩) | (refine (risNone_any b hy.lo hy.hi _).mono ?_; rintro e w1 ⟨rfl, rfl⟩)) | (go_at_call 31; refine (r_less a 0 hx ⟨by omega, by omega⟩ _).mono ?_; rintro e w1 ⟨rfl, rfl⟩) | (go_at_call 54; refine (r_whole b hy _).mono ?_; rintro e w1 ⟨rfl, hb1⟩; replace hb := bl_tr hb hb1; clear hb1; rw [hwb]))
                go_ret
                exact ⟨_, rfl, hide (by unfold powV; rw [if_neg (unhide HC1), if_neg (unhide HC2), if_neg (unhide HM), if_pos (unhide HK)]), ⟨by omega, by omega⟩, hb⟩
            · exact r_pow_end a b hx hy hzb hob hna hnb (unhide HC1) (unhide HC2) (unhide HM) hmi hk w
        · have c2 : Flt.isNaN a = true ∨ Flt.isNaN b = true := .inr hnb
          have HC2 := hide c2
          clear c2 hfb hib
          go_enter Tryz.func15, Tryz.ntmps15
          go_wp2_with (first | (go_at_call 29; first | (refine (unhide CB _).mono ?_; rintro e w1 ⟨rfl, hb1⟩; replace hb := bl_tr hb hb1; clear hb1)) | (go_at_call 30; first | (refine (risNone_any a hx.lo hx.hi _).mono ?_; rintro e w1 ⟨rfl, rfl⟩) | (refine (risNone_any b hy.lo hy.hi _).mono ?_; rintro e w1 ⟨rfl, rfl⟩)) | (go_at_call 31; refine (r_less a 0 hx ⟨by omega, by omega⟩ _).mono ?_; rintro e w1 ⟨rfl, rfl⟩) | (go_at_call 54; refine (r_whole b hy _).mono ?_; rintro e w1 ⟨rfl, hb1⟩; replace hb := bl_tr hb hb1; clear hb1))
          go_ret
          exact ⟨_, rfl, hide (by unfold powV; rw [if_neg (unhide HC1), if_pos (unhide HC2)]), ⟨by omega, by omega⟩, hb⟩
      · have c2 : Flt.isNaN a = true ∨ Flt.isNaN b = true := .inl hna
        have HC2 := hide c2
        clear c2 hfb hib
        go_enter Tryz.func15, Tryz.ntmps15
        go_wp2_with (first | (go_at_call 29; first | (refine (unhide CB _).mono ?_; rintro e w1 ⟨rfl, hb1⟩; replace hb := bl_tr hb hb1; clear hb1)) | (go_at_call 30; first | (refine (risNone_any a hx.lo hx.hi _).mono ?_; rintro e w1 ⟨rfl, rfl⟩) | (refine (risNone_any b hy.lo hy.hi _).mono ?_; rintro e w1 ⟨rfl, rfl⟩)) | (go_at_call 31; refine (r_less a 0 hx ⟨by omega, by omega⟩ _).mono ?_; rintro e w1 ⟨rfl, rfl⟩) | (go_at_call 54; refine (r_whole b hy _).mono ?_; rintro e w1 ⟨rfl, hb1⟩; replace hb := bl_tr hb hb1; clear hb1))
        go_ret
        exact ⟨_, rfl, hide (by unfold powV; rw [if_neg (unhide HC1), if_pos (unhide HC2)]), ⟨by omega, by omega⟩, hb⟩

end Go.Proofs.YtkbniebahledmabGreat
