import Derived.Test.YtkbniebahledmabGK

/-
  Layer 3: the walks of the code: Tanh, Erf, Sigmoid, Softplus, Pow.
-/
namespace Go.Proofs.Ytkbniebahledmab
open Go.RowKit
set_option linter.unusedVariables false

set_option maxRecDepth 100000 in
set_option maxHeartbeats 2000000 in
theorem c_tanh (x : Int) (hx : R x) (w : World) :
    Calls Try.prog 8 #[.int .u32 x] w fun e w' => ∃ k, e = .returned (.int .u32 k) ∧ Hid (k = tanhV x) ∧ R k ∧ Below w.heap.size w w' := by
  have ra := R_abs x
  have CA := hide (fun w => abs_any x hx.lo hx.hi w)
  obtain ⟨a, ha⟩ : ∃ a, Flt.absF x = a := ⟨_, rfl⟩
  rw [ha] at ra CA
  obtain ⟨a0, a1⟩ := ra
  have ra : R a := ⟨a0, a1⟩
  have ca : ∀ w, Calls Try.prog 21 #[.int .u32 x] w fun e w' => e = .returned (.int .u32 a) ∧ w' = w := unhide CA
  have HCA := hide ca
  have HA := hide ha
  clear CA ca ha
  have c0 : (0 : Int) ≤ 0x39800000 := by omega
  have c1 : (0x39800000 : Int) < 4294967296 := by omega
  have d0 : (0 : Int) ≤ 0x40800000 := by omega
  have d1 : (0x40800000 : Int) < 4294967296 := by omega
  cases hn : Flt.isNaN x
  · cases hl : Flt.lessF a 0x39800000
    · go_enter Try.func8, Try.ntmps8
      have hb := Below.refl w.heap.size w
      go_wp2_with (first | (go_at_call 21; refine (unhide HCA _).mono ?_; rintro e w1 ⟨rfl, rfl⟩) | (go_at_call 22; refine (nan_any _ hx.lo hx.hi _).mono ?_; rintro e w1 ⟨rfl, rfl⟩) | (go_at_call 23; refine (less_any _ _ (by assumption) (by assumption) (by assumption) (by assumption) _).mono ?_; rintro e w1 ⟨rfl, rfl⟩))
      refine (c_mul 0x40000000 a ⟨by omega, by omega⟩ ra _).mono ?_
      rintro e w1 ⟨b, rfl, Hb, Rb, B1⟩
      replace hb := bl_tr hb B1
      clear B1
      go_wp2_with fail
      refine (c_exp b Rb _).mono ?_
      rintro e w2 ⟨ex, rfl, Hex, Rex, B2⟩
      replace hb := bl_tr hb B2
      clear B2
      go_wp2_with fail
      refine (c_add ex 0x3F800000 Rex ⟨by omega, by omega⟩ _).mono ?_
      rintro e w3 ⟨s, rfl, Hs, Rs, B3⟩
      replace hb := bl_tr hb B3
      clear B3
      go_wp2_with fail
      refine (c_div 0x40000000 s ⟨by omega, by omega⟩ Rs _).mono ?_
      rintro e w4 ⟨d, rfl, Hd, Rd, B4⟩
      replace hb := bl_tr hb B4
      clear B4
      go_wp2_with fail
      refine (c_sub 0x3F800000 d ⟨by omega, by omega⟩ Rd _).mono ?_
      rintro e w5 ⟨t, rfl, Ht, Rt, B5⟩
      replace hb := bl_tr hb B5
      clear B5
      go_wp2_with fail
      refine (c_held 0 0x3F800000 t ⟨by omega, by omega⟩ ⟨by omega, by omega⟩ Rt _).mono ?_
      rintro e w6 ⟨h, rfl, Hh, Rh, B6⟩
      replace hb := bl_tr hb B6
      clear B6
      go_wp2_with fail
      refine (c_with x h hx Rh _).mono ?_
      rintro e w7 ⟨r, rfl, Hr, Rr, B7⟩
      replace hb := bl_tr hb B7
      clear B7
      go_wp2_with fail
      go_ret
      refine ⟨_, rfl, hide ?_, Rr, hb⟩
      rw [unhide Hr, unhide Hh, unhide Ht, unhide Hd, unhide Hs, unhide Hex, unhide Hb]
      unfold tanhV tanhT
      rw [unhide HA, hn, hl, if_neg (by decide), if_neg (by decide)]
    · go_enter Try.func8, Try.ntmps8
      have hb := Below.refl w.heap.size w
      go_wp2_with (first | (go_at_call 21; refine (unhide HCA _).mono ?_; rintro e w1 ⟨rfl, rfl⟩) | (go_at_call 22; refine (nan_any _ hx.lo hx.hi _).mono ?_; rintro e w1 ⟨rfl, rfl⟩) | (go_at_call 23; refine (less_any _ _ (by assumption) (by assumption) (by assumption) (by assumption) _).mono ?_; rintro e w1 ⟨rfl, rfl⟩))
      go_ret
      exact ⟨_, rfl, hide (by unfold tanhV; rw [unhide HA, hn, hl]; rfl), hx, Below.refl _ _⟩
  · go_enter Try.func8, Try.ntmps8
    have hb := Below.refl w.heap.size w
    go_wp2_with (first | (go_at_call 21; refine (unhide HCA _).mono ?_; rintro e w1 ⟨rfl, rfl⟩) | (go_at_call 22; refine (nan_any _ hx.lo hx.hi _).mono ?_; rintro e w1 ⟨rfl, rfl⟩) | (go_at_call 23; refine (less_any _ _ (by assumption) (by assumption) (by assumption) (by assumption) _).mono ?_; rintro e w1 ⟨rfl, rfl⟩))
    go_ret
    exact ⟨_, rfl, hide (by unfold tanhV; rw [hn]; rfl), ⟨by omega, by omega⟩, Below.refl _ _⟩

set_option maxRecDepth 100000 in
set_option maxHeartbeats 2000000 in
theorem c_erf (x : Int) (hx : R x) (w : World) :
    Calls Try.prog 10 #[.int .u32 x] w fun e w' => ∃ k, e = .returned (.int .u32 k) ∧ Hid (k = erfV x) ∧ R k ∧ Below w.heap.size w w' := by
  have ra := R_abs x
  have CA := hide (fun w => abs_any x hx.lo hx.hi w)
  obtain ⟨a, ha⟩ : ∃ a, Flt.absF x = a := ⟨_, rfl⟩
  rw [ha] at ra CA
  obtain ⟨a0, a1⟩ := ra
  have ra : R a := ⟨a0, a1⟩
  have ca : ∀ w, Calls Try.prog 21 #[.int .u32 x] w fun e w' => e = .returned (.int .u32 a) ∧ w' = w := unhide CA
  have HCA := hide ca
  have HA := hide ha
  clear CA ca ha
  have c0 : (0 : Int) ≤ 0x39800000 := by omega
  have c1 : (0x39800000 : Int) < 4294967296 := by omega
  have d0 : (0 : Int) ≤ 0x40800000 := by omega
  have d1 : (0x40800000 : Int) < 4294967296 := by omega
  cases hn : Flt.isNaN x
  · by_cases hz : Flt.absF x = 0
    · have hzb : (Flt.absF x == 0) = true := by simp [hz]
      go_enter Try.func10, Try.ntmps10
      go_wp2_with (first | (go_at_call 21; refine (unhide HCA _).mono ?_; rintro e w1 ⟨rfl, rfl⟩) | (go_at_call 22; refine (nan_any _ hx.lo hx.hi _).mono ?_; rintro e w1 ⟨rfl, rfl⟩) | (go_at_call 31; refine (c_nought _ hx _).mono ?_; rintro e w1 ⟨rfl, rfl⟩) | (go_at_call 23; refine (less_any _ _ (by assumption) (by assumption) (by assumption) (by assumption) _).mono ?_; rintro e w1 ⟨rfl, rfl⟩))
      go_ret
      exact ⟨_, rfl, hide (by unfold erfV; rw [hn, if_neg (by decide), if_pos hz]), hx, Below.refl _ _⟩
    · have hzb : (Flt.absF x == 0) = false := by simp [hz]
      cases hl : Flt.lessF 0x40800000 a
      · go_enter Try.func10, Try.ntmps10
        have hb := Below.refl w.heap.size w
        go_wp2_with (first | (go_at_call 21; refine (unhide HCA _).mono ?_; rintro e w1 ⟨rfl, rfl⟩) | (go_at_call 22; refine (nan_any _ hx.lo hx.hi _).mono ?_; rintro e w1 ⟨rfl, rfl⟩) | (go_at_call 31; refine (c_nought _ hx _).mono ?_; rintro e w1 ⟨rfl, rfl⟩) | (go_at_call 23; refine (less_any _ _ (by assumption) (by assumption) (by assumption) (by assumption) _).mono ?_; rintro e w1 ⟨rfl, rfl⟩))
        refine (c_fma 0x3EA7BA05 a 0x3F800000 ⟨by omega, by omega⟩ ra ⟨by omega, by omega⟩ _).mono ?_
        rintro e w1 ⟨u, rfl, Hu, Ru, B1⟩
        replace hb := bl_tr hb B1
        clear B1
        go_wp2_with fail
        refine (c_div 0x3F800000 u ⟨by omega, by omega⟩ Ru _).mono ?_
        rintro e w2 ⟨t, rfl, Ht, Rt, B2⟩
        replace hb := bl_tr hb B2
        clear B2
        go_wp2_with fail
        refine (c_row t 0x3F87DC22 Rt ⟨by omega, by omega⟩ _ 0 4 [0xBFBA00E3, 0x3FB5F0E3, 0xBE91A98E, 0x3E827906] (by intro c h; simp at h; (repeat' (rcases h with rfl | h)) <;> first | exact ⟨by omega, by omega⟩ | (subst h; exact ⟨by omega, by omega⟩)) (by decide) 4 rfl (by decide) _ (by simp) ⟨by simp, by simp, by simp, by simp, trivial⟩).mono ?_
        rintro e w3 ⟨q, rfl, Hq, Rq, B3⟩
        replace hb := bl_tr (bl_tr hb ((Below.refl _ _).alloc (Nat.le_refl _) _)) B3
        clear B3
        go_wp2_with fail
        refine (c_mul t q Rt Rq _).mono ?_
        rintro e w4 ⟨p, rfl, Hp, Rp, B4⟩
        replace hb := bl_tr hb B4
        clear B4
        go_wp2_with fail
        refine (c_neg p Rp _).mono ?_
        rintro e w5 ⟨np, rfl, Hnp, Rnp, B5⟩
        replace hb := bl_tr hb B5
        clear B5
        go_wp2_with fail
        refine (c_mul a a ra ra _).mono ?_
        rintro e w6 ⟨m, rfl, Hm, Rm, B6⟩
        replace hb := bl_tr hb B6
        clear B6
        go_wp2_with fail
        refine (c_neg m Rm _).mono ?_
        rintro e w7 ⟨nm, rfl, Hnm, Rnm, B7⟩
        replace hb := bl_tr hb B7
        clear B7
        go_wp2_with fail
        refine (c_exp nm Rnm _).mono ?_
        rintro e w8 ⟨ex, rfl, Hex, Rex, B8⟩
        replace hb := bl_tr hb B8
        clear B8
        go_wp2_with fail
        refine (c_fma np ex 0x3F800000 Rnp Rex ⟨by omega, by omega⟩ _).mono ?_
        rintro e w9 ⟨f, rfl, Hf, Rf, B9⟩
        replace hb := bl_tr hb B9
        clear B9
        go_wp2_with fail
        refine (c_held 0 0x3F800000 f ⟨by omega, by omega⟩ ⟨by omega, by omega⟩ Rf _).mono ?_
        rintro e w10 ⟨h, rfl, Hh, Rh, B10⟩
        replace hb := bl_tr hb B10
        clear B10
        go_wp2_with fail
        refine (c_with x h hx Rh _).mono ?_
        rintro e w11 ⟨r, rfl, Hr, Rr, B11⟩
        replace hb := bl_tr hb B11
        clear B11
        go_wp2_with fail
        go_ret
        refine ⟨_, rfl, hide ?_, Rr, hb⟩
        rw [unhide Hr, unhide Hh, unhide Hf, unhide Hex, unhide Hnm, unhide Hm, unhide Hnp, unhide Hp, unhide Hq, unhide Ht, unhide Hu]
        unfold erfV erfR erfP erfT
        rw [hn, if_neg (by decide), if_neg hz, unhide HA, hl, if_neg (by decide)]
      · go_enter Try.func10, Try.ntmps10
        have hb := Below.refl w.heap.size w
        go_wp2_with (first | (go_at_call 21; refine (unhide HCA _).mono ?_; rintro e w1 ⟨rfl, rfl⟩) | (go_at_call 22; refine (nan_any _ hx.lo hx.hi _).mono ?_; rintro e w1 ⟨rfl, rfl⟩) | (go_at_call 31; refine (c_nought _ hx _).mono ?_; rintro e w1 ⟨rfl, rfl⟩) | (go_at_call 23; refine (less_any _ _ (by assumption) (by assumption) (by assumption) (by assumption) _).mono ?_; rintro e w1 ⟨rfl, rfl⟩))
        refine (c_with x 0x3F800000 hx ⟨by omega, by omega⟩ _).mono ?_
        rintro e w1 ⟨r, rfl, Hr, Rr, B1⟩
        replace hb := bl_tr hb B1
        clear B1
        go_wp2_with fail
        go_ret
        refine ⟨_, rfl, hide ?_, Rr, hb⟩
        rw [unhide Hr]
        unfold erfV
        rw [hn, if_neg (by decide), if_neg hz, unhide HA, hl, if_pos rfl]
  · go_enter Try.func10, Try.ntmps10
    go_wp2_with (first | (go_at_call 21; refine (unhide HCA _).mono ?_; rintro e w1 ⟨rfl, rfl⟩) | (go_at_call 22; refine (nan_any _ hx.lo hx.hi _).mono ?_; rintro e w1 ⟨rfl, rfl⟩) | (go_at_call 31; refine (c_nought _ hx _).mono ?_; rintro e w1 ⟨rfl, rfl⟩) | (go_at_call 23; refine (less_any _ _ (by assumption) (by assumption) (by assumption) (by assumption) _).mono ?_; rintro e w1 ⟨rfl, rfl⟩))
    go_ret
    exact ⟨_, rfl, hide (by unfold erfV; rw [hn]; rfl), ⟨by omega, by omega⟩, Below.refl _ _⟩

set_option maxRecDepth 100000 in
set_option maxHeartbeats 2000000 in
theorem c_sig (x : Int) (hx : R x) (w : World) :
    Calls Try.prog 15 #[.int .u32 x] w fun e w' => ∃ k, e = .returned (.int .u32 k) ∧ Hid (k = sigV x) ∧ R k ∧ Below w.heap.size w w' := by
  cases hn : Flt.isNaN x
  · go_enter Try.func15, Try.ntmps15
    have hb := Below.refl w.heap.size w
    go_wp2_with (first | (go_at_call 22; refine (nan_any _ hx.lo hx.hi _).mono ?_; rintro e w1 ⟨rfl, rfl⟩))
    refine (c_neg x hx _).mono ?_
    rintro e w1 ⟨a, rfl, Ha, Ra, B1⟩
    replace hb := bl_tr hb B1
    clear B1
    go_wp2_with fail
    refine (c_exp a Ra _).mono ?_
    rintro e w2 ⟨ex, rfl, Hex, Rex, B2⟩
    replace hb := bl_tr hb B2
    clear B2
    go_wp2_with fail
    refine (c_add 0x3F800000 ex ⟨by omega, by omega⟩ Rex _).mono ?_
    rintro e w3 ⟨s, rfl, Hs, Rs, B3⟩
    replace hb := bl_tr hb B3
    clear B3
    go_wp2_with fail
    refine (c_div 0x3F800000 s ⟨by omega, by omega⟩ Rs _).mono ?_
    rintro e w4 ⟨d, rfl, Hd, Rd, B4⟩
    replace hb := bl_tr hb B4
    clear B4
    go_wp2_with fail
    refine (c_held 0 0x3F800000 d ⟨by omega, by omega⟩ ⟨by omega, by omega⟩ Rd _).mono ?_
    rintro e w5 ⟨h, rfl, Hh, Rh, B5⟩
    replace hb := bl_tr hb B5
    clear B5
    go_wp2_with fail
    go_ret
    refine ⟨_, rfl, hide ?_, Rh, hb⟩
    rw [unhide Hh, unhide Hd, unhide Hs, unhide Hex, unhide Ha]
    unfold sigV
    rw [hn, if_neg (by decide)]
  · go_enter Try.func15, Try.ntmps15
    go_wp2_with (first | (go_at_call 22; refine (nan_any _ hx.lo hx.hi _).mono ?_; rintro e w1 ⟨rfl, rfl⟩))
    go_ret
    exact ⟨_, rfl, hide (by unfold sigV; rw [hn]; rfl), ⟨by omega, by omega⟩, Below.refl _ _⟩

set_option maxRecDepth 100000 in
set_option maxHeartbeats 2000000 in
theorem c_plus (x : Int) (hx : R x) (w : World) :
    Calls Try.prog 18 #[.int .u32 x] w fun e w' => ∃ k, e = .returned (.int .u32 k) ∧ Hid (k = plusV x) ∧ R k ∧ Below w.heap.size w w' := by
  cases hn : Flt.isNaN x
  · go_enter Try.func18, Try.ntmps18
    have hb := Below.refl w.heap.size w
    go_wp2_with (first | (go_at_call 22; refine (nan_any _ hx.lo hx.hi _).mono ?_; rintro e w1 ⟨rfl, rfl⟩))
    refine (c_max x 0 hx ⟨by omega, by omega⟩ _).mono ?_
    rintro e w1 ⟨m, rfl, Hm, Rm, B1⟩
    replace hb := bl_tr hb B1
    clear B1
    go_wp2_with fail
    refine (c_abs x hx _).mono ?_
    rintro e w2 ⟨a, rfl, Ha, Ra, B2⟩
    replace hb := bl_tr hb B2
    clear B2
    go_wp2_with fail
    refine (c_neg a Ra _).mono ?_
    rintro e w3 ⟨na, rfl, Hna, Rna, B3⟩
    replace hb := bl_tr hb B3
    clear B3
    go_wp2_with fail
    refine (c_exp na Rna _).mono ?_
    rintro e w4 ⟨ex, rfl, Hex, Rex, B4⟩
    replace hb := bl_tr hb B4
    clear B4
    go_wp2_with fail
    refine (c_add 0x3F800000 ex ⟨by omega, by omega⟩ Rex _).mono ?_
    rintro e w5 ⟨s, rfl, Hs, Rs, B5⟩
    replace hb := bl_tr hb B5
    clear B5
    go_wp2_with fail
    refine (c_log s Rs _).mono ?_
    rintro e w6 ⟨l, rfl, Hl, Rl, B6⟩
    replace hb := bl_tr hb B6
    clear B6
    go_wp2_with fail
    refine (c_add m l Rm Rl _).mono ?_
    rintro e w7 ⟨r, rfl, Hr, Rr, B7⟩
    replace hb := bl_tr hb B7
    clear B7
    go_wp2_with fail
    go_ret
    refine ⟨_, rfl, hide ?_, Rr, hb⟩
    rw [unhide Hr, unhide Hl, unhide Hs, unhide Hex, unhide Hna, unhide Ha, unhide Hm]
    unfold plusV
    rw [hn, if_neg (by decide)]
  · go_enter Try.func18, Try.ntmps18
    go_wp2_with (first | (go_at_call 22; refine (nan_any _ hx.lo hx.hi _).mono ?_; rintro e w1 ⟨rfl, rfl⟩))
    go_ret
    exact ⟨_, rfl, hide (by unfold plusV; rw [hn]; rfl), ⟨by omega, by omega⟩, Below.refl _ _⟩

set_option maxRecDepth 100000 in
set_option maxHeartbeats 1000000 in
theorem c_whole (b : Int) (hb : R b) (w : World) :
    Calls Try.prog 44 #[.int .u32 b] w fun e w' => e = .returned (.bool (wholeB b)) ∧ Below w.heap.size w w' := by
  go_enter Try.func44, Try.ntmps44
  go_wp2_with fail
  refine (c_even b hb _).mono ?_
  rintro e w1 ⟨k, rfl, Hk, Rk, B1⟩
  go_wp2_with fail
  refine (equal_any k b Rk.lo Rk.hi hb.lo hb.hi _).mono ?_
  rintro e w2 ⟨rfl, rfl⟩
  go_wp2_with fail
  go_ret
  exact ⟨ret_bool (by unfold wholeB; rw [unhide Hk]), B1⟩

set_option maxRecDepth 100000 in
set_option maxHeartbeats 1000000 in
theorem c_odd (b : Int) (hb : R b) (w : World) :
    Calls Try.prog 46 #[.int .u32 b] w fun e w' => e = .returned (.bool (oddB b)) ∧ Below w.heap.size w w' := by
  have hbl := Below.refl w.heap.size w
  have ha := R_abs b
  unfold oddB
  cases hf : finB b
  · go_enter Try.func46, Try.ntmps46
    go_wp2_with (first | (go_at_call 43; refine (c_finite _ hb _).mono ?_; rintro e w1 ⟨rfl, rfl⟩))
    go_ret
    exact ⟨rfl, hbl⟩
  · cases hw : wholeB b
    · go_enter Try.func46, Try.ntmps46
      go_wp2_with (first | (go_at_call 43; refine (c_finite _ hb _).mono ?_; rintro e w1 ⟨rfl, rfl⟩) | (go_at_call 44; refine (c_whole _ hb _).mono ?_; rintro e w1 ⟨rfl, hb1⟩; replace hbl := bl_tr hbl hb1; clear hb1))
      go_ret
      exact ⟨rfl, hbl⟩
    · cases hl : Flt.lessF (Flt.absF b) 0x4B800000
      · go_enter Try.func46, Try.ntmps46
        go_wp2_with (first | (go_at_call 43; refine (c_finite _ hb _).mono ?_; rintro e w1 ⟨rfl, rfl⟩) | (go_at_call 44; refine (c_whole _ hb _).mono ?_; rintro e w1 ⟨rfl, hb1⟩; replace hbl := bl_tr hbl hb1; clear hb1) | (go_at_call 21; refine (abs_any _ hb.lo hb.hi _).mono ?_; rintro e w1 ⟨rfl, rfl⟩) | (go_at_call 23; refine (less_any _ _ ha.lo ha.hi (by omega) (by omega) _).mono ?_; rintro e w1 ⟨rfl, rfl⟩))
        go_ret
        exact ⟨rfl, hbl⟩
      · go_enter Try.func46, Try.ntmps46
        go_wp2_with (first | (go_at_call 43; refine (c_finite _ hb _).mono ?_; rintro e w1 ⟨rfl, rfl⟩) | (go_at_call 44; refine (c_whole _ hb _).mono ?_; rintro e w1 ⟨rfl, hb1⟩; replace hbl := bl_tr hbl hb1; clear hb1) | (go_at_call 21; refine (abs_any _ hb.lo hb.hi _).mono ?_; rintro e w1 ⟨rfl, rfl⟩) | (go_at_call 23; refine (less_any _ _ ha.lo ha.hi (by omega) (by omega) _).mono ?_; rintro e w1 ⟨rfl, rfl⟩))
        refine (c_toInt b hb _).mono ?_
        rintro e w3 ⟨n, rfl, Hn, n0, n1, B3⟩
        have e1 := and1_i64 n
        have hm : (0 : Int) ≤ n % 2 := by omega
        go_wp2_with fail
        go_ret
        exact ⟨ret_bool (by rw [unhide Hn]; rfl), bl_tr hbl B3⟩

set_option maxRecDepth 100000 in
set_option maxHeartbeats 8000000 in
theorem c_pow_end (a b : Int) (hx : R a) (hy : R b) (hzb : (Flt.absF b == 0) = false) (hob : (a == 0x3F800000) = false) (hna : Flt.isNaN a = false) (hnb : Flt.isNaN b = false)
    (c1 : ¬ (Flt.absF b = 0 ∨ a = 0x3F800000)) (c2 : ¬ (Flt.isNaN a = true ∨ Flt.isNaN b = true)) (hm : ¬ (a = 0xBF800000 ∧ Flt.isInf b = true)) (hk : ¬ (Flt.lessF a 0 = true ∧ finB b = true ∧ wholeB b = false)) (w : World) :
    Calls Try.prog 19 #[.int .u32 a, .int .u32 b] w fun e w' => ∃ k, e = .returned (.int .u32 k) ∧ Hid (k = powV a b) ∧ R k ∧ Below w.heap.size w w' := by
  have hb := Below.refl w.heap.size w
  have hmi : ((a == 0xBF800000) = true ∧ Flt.isInf b = false) ∨ (a == 0xBF800000) = false := by
    by_cases h : a = 0xBF800000
    · left; exact ⟨by simp [h], by cases hi : Flt.isInf b; rfl; exact absurd ⟨h, hi⟩ hm⟩
    · right; simp [h]
  have hki : (Flt.lessF a 0 = true ∧ finB b = true ∧ wholeB b = true) ∨ (Flt.lessF a 0 = true ∧ finB b = false) ∨ Flt.lessF a 0 = false := by
    cases h1 : Flt.lessF a 0
    · exact .inr (.inr rfl)
    · cases h2 : finB b
      · exact .inr (.inl ⟨rfl, rfl⟩)
      · cases h3 : wholeB b
        · exact absurd ⟨h1, h2, h3⟩ hk
        · exact .inl ⟨rfl, rfl, rfl⟩
  have HV : Hid (powV a b = if Flt.sgn a = true ∧ oddB b = true then Flt.negF (powY a b) else powY a b) := hide (by unfold powV; rw [if_neg c1, if_neg c2, if_neg hm, if_neg hk])
  clear c1 c2 hm hk
  have hsi : (Flt.sgn a = true ∧ oddB b = true) ∨ (Flt.sgn a = true ∧ oddB b = false) ∨ Flt.sgn a = false := by
    cases h1 : Flt.sgn a
    · exact .inr (.inr rfl)
    · cases h2 : oddB b
      · exact .inr (.inl ⟨rfl, rfl⟩)
      · exact .inl ⟨rfl, rfl⟩
  rcases hmi with ⟨m1, m2⟩ | m1 <;> rcases hki with ⟨k1, k2, k3⟩ | ⟨k1, k2⟩ | k1
  all_goals
    rcases hsi with ⟨s1, s2⟩ | ⟨s1, s2⟩ | s1
    · go_enter Try.func19, Try.ntmps19
      go_wp2_with (first | (go_at_call 31; refine (c_nought _ hy _).mono ?_; rintro e w1 ⟨rfl, rfl⟩) | (go_at_call 22; first | (refine (nan_any a hx.lo hx.hi _).mono ?_; rintro e w1 ⟨rfl, rfl⟩) | (refine (nan_any b hy.lo hy.hi _).mono ?_; rintro e w1 ⟨rfl, rfl⟩)) | (go_at_call 39; refine (inf_any b hy.lo hy.hi _).mono ?_; rintro e w1 ⟨rfl, rfl⟩) | (go_at_call 23; refine (less_any a 0 hx.lo hx.hi (by omega) (by omega) _).mono ?_; rintro e w1 ⟨rfl, rfl⟩) | (go_at_call 43; refine (c_finite b hy _).mono ?_; rintro e w1 ⟨rfl, rfl⟩) | (go_at_call 44; refine (c_whole b hy _).mono ?_; rintro e w1 ⟨rfl, hb1⟩; replace hb := bl_tr hb hb1; clear hb1))
      refine (c_abs a hx _).mono ?_
      rintro e w1 ⟨ab, rfl, Hab, Rab, B1⟩
      replace hb := bl_tr hb B1
      clear B1
      go_wp2_with fail
      refine (c_log ab Rab _).mono ?_
      rintro e w2 ⟨l, rfl, Hl, Rl, B2⟩
      replace hb := bl_tr hb B2
      clear B2
      go_wp2_with fail
      refine (c_mul b l hy Rl _).mono ?_
      rintro e w3 ⟨m, rfl, Hm, Rm, B3⟩
      replace hb := bl_tr hb B3
      clear B3
      go_wp2_with fail
      refine (c_exp m Rm _).mono ?_
      rintro e w4 ⟨y, rfl, Hy, Ry, B4⟩
      replace hb := bl_tr hb B4
      clear B4
      go_wp2_with (first | (go_at_call 45; refine (c_below a hx _).mono ?_; rintro e w1 ⟨rfl, rfl⟩) | (go_at_call 46; refine (c_odd b hy _).mono ?_; rintro e w1 ⟨rfl, hb1⟩; replace hb := bl_tr hb hb1; clear hb1))
      refine (c_neg y Ry _).mono ?_
      rintro e w5 ⟨ny, rfl, Hny, Rny, B5⟩
      replace hb := bl_tr hb B5
      clear B5
      go_wp2_with fail
      go_ret
      refine ⟨_, rfl, hide ?_, Rny, hb⟩
      rw [unhide HV, s1, s2, if_pos ⟨rfl, rfl⟩]
      unfold powY
      rw [unhide Hny, unhide Hy, unhide Hm, unhide Hl, unhide Hab]
    · go_enter Try.func19, Try.ntmps19
      go_wp2_with (first | (go_at_call 31; refine (c_nought _ hy _).mono ?_; rintro e w1 ⟨rfl, rfl⟩) | (go_at_call 22; first | (refine (nan_any a hx.lo hx.hi _).mono ?_; rintro e w1 ⟨rfl, rfl⟩) | (refine (nan_any b hy.lo hy.hi _).mono ?_; rintro e w1 ⟨rfl, rfl⟩)) | (go_at_call 39; refine (inf_any b hy.lo hy.hi _).mono ?_; rintro e w1 ⟨rfl, rfl⟩) | (go_at_call 23; refine (less_any a 0 hx.lo hx.hi (by omega) (by omega) _).mono ?_; rintro e w1 ⟨rfl, rfl⟩) | (go_at_call 43; refine (c_finite b hy _).mono ?_; rintro e w1 ⟨rfl, rfl⟩) | (go_at_call 44; refine (c_whole b hy _).mono ?_; rintro e w1 ⟨rfl, hb1⟩; replace hb := bl_tr hb hb1; clear hb1))
      refine (c_abs a hx _).mono ?_
      rintro e w1 ⟨ab, rfl, Hab, Rab, B1⟩
      replace hb := bl_tr hb B1
      clear B1
      go_wp2_with fail
      refine (c_log ab Rab _).mono ?_
      rintro e w2 ⟨l, rfl, Hl, Rl, B2⟩
      replace hb := bl_tr hb B2
      clear B2
      go_wp2_with fail
      refine (c_mul b l hy Rl _).mono ?_
      rintro e w3 ⟨m, rfl, Hm, Rm, B3⟩
      replace hb := bl_tr hb B3
      clear B3
      go_wp2_with fail
      refine (c_exp m Rm _).mono ?_
      rintro e w4 ⟨y, rfl, Hy, Ry, B4⟩
      replace hb := bl_tr hb B4
      clear B4
      go_wp2_with (first | (go_at_call 45; refine (c_below a hx _).mono ?_; rintro e w1 ⟨rfl, rfl⟩) | (go_at_call 46; refine (c_odd b hy _).mono ?_; rintro e w1 ⟨rfl, hb1⟩; replace hb := bl_tr hb hb1; clear hb1))
      go_ret
      refine ⟨_, rfl, hide ?_, Ry, hb⟩
      rw [unhide HV, if_neg (by rintro ⟨h1, h2⟩; rw [s2] at h2; cases h2)]
      unfold powY
      rw [unhide Hy, unhide Hm, unhide Hl, unhide Hab]
    · go_enter Try.func19, Try.ntmps19
      go_wp2_with (first | (go_at_call 31; refine (c_nought _ hy _).mono ?_; rintro e w1 ⟨rfl, rfl⟩) | (go_at_call 22; first | (refine (nan_any a hx.lo hx.hi _).mono ?_; rintro e w1 ⟨rfl, rfl⟩) | (refine (nan_any b hy.lo hy.hi _).mono ?_; rintro e w1 ⟨rfl, rfl⟩)) | (go_at_call 39; refine (inf_any b hy.lo hy.hi _).mono ?_; rintro e w1 ⟨rfl, rfl⟩) | (go_at_call 23; refine (less_any a 0 hx.lo hx.hi (by omega) (by omega) _).mono ?_; rintro e w1 ⟨rfl, rfl⟩) | (go_at_call 43; refine (c_finite b hy _).mono ?_; rintro e w1 ⟨rfl, rfl⟩) | (go_at_call 44; refine (c_whole b hy _).mono ?_; rintro e w1 ⟨rfl, hb1⟩; replace hb := bl_tr hb hb1; clear hb1))
      refine (c_abs a hx _).mono ?_
      rintro e w1 ⟨ab, rfl, Hab, Rab, B1⟩
      replace hb := bl_tr hb B1
      clear B1
      go_wp2_with fail
      refine (c_log ab Rab _).mono ?_
      rintro e w2 ⟨l, rfl, Hl, Rl, B2⟩
      replace hb := bl_tr hb B2
      clear B2
      go_wp2_with fail
      refine (c_mul b l hy Rl _).mono ?_
      rintro e w3 ⟨m, rfl, Hm, Rm, B3⟩
      replace hb := bl_tr hb B3
      clear B3
      go_wp2_with fail
      refine (c_exp m Rm _).mono ?_
      rintro e w4 ⟨y, rfl, Hy, Ry, B4⟩
      replace hb := bl_tr hb B4
      clear B4
      go_wp2_with (first | (go_at_call 45; refine (c_below a hx _).mono ?_; rintro e w1 ⟨rfl, rfl⟩) | (go_at_call 46; refine (c_odd b hy _).mono ?_; rintro e w1 ⟨rfl, hb1⟩; replace hb := bl_tr hb hb1; clear hb1))
      go_ret
      refine ⟨_, rfl, hide ?_, Ry, hb⟩
      rw [unhide HV, if_neg (by rintro ⟨h1, h2⟩; rw [s1] at h1; cases h1)]
      unfold powY
      rw [unhide Hy, unhide Hm, unhide Hl, unhide Hab]

set_option maxRecDepth 100000 in
set_option maxHeartbeats 2000000 in
theorem c_pow (a b : Int) (hx : R a) (hy : R b) (w : World) :
    Calls Try.prog 19 #[.int .u32 a, .int .u32 b] w fun e w' => ∃ k, e = .returned (.int .u32 k) ∧ Hid (k = powV a b) ∧ R k ∧ Below w.heap.size w w' := by
  have hb := Below.refl w.heap.size w
  by_cases hz : Flt.absF b = 0
  · have hzb : (Flt.absF b == 0) = true := by simp [hz]
    go_enter Try.func19, Try.ntmps19
    go_wp2_with (first | (go_at_call 31; refine (c_nought _ hy _).mono ?_; rintro e w1 ⟨rfl, rfl⟩))
    go_ret
    exact ⟨_, rfl, hide (by unfold powV; rw [if_pos (.inl hz)]), ⟨by omega, by omega⟩, hb⟩
  · have hzb : (Flt.absF b == 0) = false := by simp [hz]
    by_cases ho : a = 0x3F800000
    · have hob : (a == 0x3F800000) = true := by simp [ho]
      have HO := hide ho
      clear ho
      go_enter Try.func19, Try.ntmps19
      go_wp2_with (first | (go_at_call 31; refine (c_nought _ hy _).mono ?_; rintro e w1 ⟨rfl, rfl⟩))
      go_ret
      exact ⟨_, rfl, hide (by unfold powV; rw [if_pos (.inr (unhide HO))]), ⟨by omega, by omega⟩, hb⟩
    · have hob : (a == 0x3F800000) = false := by simp [ho]
      have c1 : ¬ (Flt.absF b = 0 ∨ a = 0x3F800000) := by rintro (h | h); exact hz h; exact ho h
      cases hna : Flt.isNaN a
      · cases hnb : Flt.isNaN b
        · have c2 : ¬ (Flt.isNaN a = true ∨ Flt.isNaN b = true) := by rw [hna, hnb]; decide
          have HC1 := hide c1
          have HC2 := hide c2
          have HZ := hide hz
          have HO := hide ho
          clear c1 c2 hz ho
          by_cases hm : a = 0xBF800000 ∧ Flt.isInf b = true
          · have hmb : (a == 0xBF800000) = true := by simp [hm.1]
            have hi := hm.2
            have HM := hide hm
            clear hm
            go_enter Try.func19, Try.ntmps19
            go_wp2_with (first | (go_at_call 31; refine (c_nought _ hy _).mono ?_; rintro e w1 ⟨rfl, rfl⟩) | (go_at_call 22; first | (refine (nan_any a hx.lo hx.hi _).mono ?_; rintro e w1 ⟨rfl, rfl⟩) | (refine (nan_any b hy.lo hy.hi _).mono ?_; rintro e w1 ⟨rfl, rfl⟩)) | (go_at_call 39; refine (inf_any b hy.lo hy.hi _).mono ?_; rintro e w1 ⟨rfl, rfl⟩))
            go_ret
            exact ⟨_, rfl, hide (by unfold powV; rw [if_neg (unhide HC1), if_neg (unhide HC2), if_pos (unhide HM)]), ⟨by omega, by omega⟩, hb⟩
          · by_cases hk : Flt.lessF a 0 = true ∧ finB b = true ∧ wholeB b = false
            · obtain ⟨k1, k2, k3⟩ := hk
              have HM := hide hm
              have hmi : ((a == 0xBF800000) = true ∧ Flt.isInf b = false) ∨ (a == 0xBF800000) = false := by
                by_cases h : a = 0xBF800000
                · left; exact ⟨by simp [h], by cases hi : Flt.isInf b; rfl; exact absurd ⟨h, hi⟩ hm⟩
                · right; simp [h]
              clear hm
              rcases hmi with ⟨m1, m2⟩ | m1
              · go_enter Try.func19, Try.ntmps19
                go_wp2_with (first | (go_at_call 31; refine (c_nought _ hy _).mono ?_; rintro e w1 ⟨rfl, rfl⟩) | (go_at_call 22; first | (refine (nan_any a hx.lo hx.hi _).mono ?_; rintro e w1 ⟨rfl, rfl⟩) | (refine (nan_any b hy.lo hy.hi _).mono ?_; rintro e w1 ⟨rfl, rfl⟩)) | (go_at_call 39; refine (inf_any b hy.lo hy.hi _).mono ?_; rintro e w1 ⟨rfl, rfl⟩) | (go_at_call 23; refine (less_any a 0 hx.lo hx.hi (by omega) (by omega) _).mono ?_; rintro e w1 ⟨rfl, rfl⟩) | (go_at_call 43; refine (c_finite b hy _).mono ?_; rintro e w1 ⟨rfl, rfl⟩) | (go_at_call 44; refine (c_whole b hy _).mono ?_; rintro e w1 ⟨rfl, hb1⟩; replace hb := bl_tr hb hb1; clear hb1))
                go_ret
                exact ⟨_, rfl, hide (by unfold powV; rw [if_neg (unhide HC1), if_neg (unhide HC2), if_neg (unhide HM), if_pos ⟨k1, k2, k3⟩]), ⟨by omega, by omega⟩, hb⟩
              · go_enter Try.func19, Try.ntmps19
                go_wp2_with (first | (go_at_call 31; refine (c_nought _ hy _).mono ?_; rintro e w1 ⟨rfl, rfl⟩) | (go_at_call 22; first | (refine (nan_any a hx.lo hx.hi _).mono ?_; rintro e w1 ⟨rfl, rfl⟩) | (refine (nan_any b hy.lo hy.hi _).mono ?_; rintro e w1 ⟨rfl, rfl⟩)) | (go_at_call 39; refine (inf_any b hy.lo hy.hi _).mono ?_; rintro e w1 ⟨rfl, rfl⟩) | (go_at_call 23; refine (less_any a 0 hx.lo hx.hi (by omega) (by omega) _).mono ?_; rintro e w1 ⟨rfl, rfl⟩) | (go_at_call 43; refine (c_finite b hy _).mono ?_; rintro e w1 ⟨rfl, rfl⟩) | (go_at_call 44; refine (c_whole b hy _).mono ?_; rintro e w1 ⟨rfl, hb1⟩; replace hb := bl_tr hb hb1; clear hb1))
                go_ret
                exact ⟨_, rfl, hide (by unfold powV; rw [if_neg (unhide HC1), if_neg (unhide HC2), if_neg (unhide HM), if_pos ⟨k1, k2, k3⟩]), ⟨by omega, by omega⟩, hb⟩
            · exact c_pow_end a b hx hy hzb hob hna hnb (unhide HC1) (unhide HC2) hm hk w
        · have c2 : Flt.isNaN a = true ∨ Flt.isNaN b = true := .inr hnb
          have HC1 := hide c1
          have HC2 := hide c2
          clear c1 c2 hz ho
          go_enter Try.func19, Try.ntmps19
          go_wp2_with (first | (go_at_call 31; refine (c_nought _ hy _).mono ?_; rintro e w1 ⟨rfl, rfl⟩) | (go_at_call 22; first | (refine (nan_any a hx.lo hx.hi _).mono ?_; rintro e w1 ⟨rfl, rfl⟩) | (refine (nan_any b hy.lo hy.hi _).mono ?_; rintro e w1 ⟨rfl, rfl⟩)))
          go_ret
          exact ⟨_, rfl, hide (by unfold powV; rw [if_neg (unhide HC1), if_pos (unhide HC2)]), ⟨by omega, by omega⟩, hb⟩
      · have c2 : Flt.isNaN a = true ∨ Flt.isNaN b = true := .inl hna
        have HC1 := hide c1
        have HC2 := hide c2
        clear c1 c2 hz ho
        go_enter Try.func19, Try.ntmps19
        go_wp2_with (first | (go_at_call 31; refine (c_nought _ hy _).mono ?_; rintro e w1 ⟨rfl, rfl⟩) | (go_at_call 22; first | (refine (nan_any a hx.lo hx.hi _).mono ?_; rintro e w1 ⟨rfl, rfl⟩) | (refine (nan_any b hy.lo hy.hi _).mono ?_; rintro e w1 ⟨rfl, rfl⟩)))
        go_ret
        exact ⟨_, rfl, hide (by unfold powV; rw [if_neg (unhide HC1), if_pos (unhide HC2)]), ⟨by omega, by omega⟩, hb⟩

end Go.Proofs.Ytkbniebahledmab
