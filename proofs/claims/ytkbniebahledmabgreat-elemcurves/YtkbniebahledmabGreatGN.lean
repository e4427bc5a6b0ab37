import Derived.Test.YtkbniebahledmabGreatGK

/-
  Layer 3: the walks of the reference: Exp, Log, Sin, Cos.
-/
namespace Go.Proofs.YtkbniebahledmabGreat
open Go.RowKit
set_option linter.unusedVariables false

theorem r_toInt (a : Int) (ha : R a) (w : World) :
    Calls Tryz.prog 55 #[.int .u32 a] w fun e w' => ∃ n, e = .returned (.int .i64 n) ∧ Hid (n = Flt.toIntV a) ∧ -9223372036854775808 ≤ n ∧ n < 9223372036854775808 ∧ Below w.heap.size w w' := by
  refine (rtoInt_any a ha.lo ha.hi w).mono ?_
  rintro e w1 ⟨rfl, rfl⟩
  exact ⟨_, rfl, hide rfl, (toInt_range a).1, (toInt_range a).2, Below.refl _ _⟩
set_option maxRecDepth 100000 in
set_option maxHeartbeats 2000000 in
theorem r_exp (x : Int) (hx : R x) (w : World) :
    Calls Tryz.prog 35 #[.int .u32 x] w fun e w' => ∃ k, e = .returned (.int .u32 k) ∧ Hid (k = expV x) ∧ R k ∧ Below w.heap.size w w' := by
  cases hn : Flt.isNaN x
  · cases h1 : Flt.lessF 0x42B17217 x
    · cases h2 : Flt.lessF x 0xC2D00000
      · go_enter Tryz.func35, Tryz.ntmps35
        have hb := Below.refl w.heap.size w
        go_wp2_with (first | (go_at_call 30; refine (risNone_any _ hx.lo hx.hi _).mono ?_; rintro e w1 ⟨rfl, rfl⟩) | (go_at_call 31; refine (r_less _ _ (by first | exact hx | exact ⟨by omega, by omega⟩) (by first | exact hx | exact ⟨by omega, by omega⟩) _).mono ?_; rintro e w1 ⟨rfl, rfl⟩))
        refine (r_mul x 0x3FB8AA3B hx ⟨by omega, by omega⟩ _).mono ?_
        rintro e w1 ⟨a, rfl, Ha, Ra, B1⟩
        replace hb := bl_tr hb B1
        clear B1
        go_wp2_with fail
        refine (r_even a Ra _).mono ?_
        rintro e w2 ⟨k, rfl, Hk, Rk, B2⟩
        replace hb := bl_tr hb B2
        clear B2
        go_wp2_with fail
        refine (r_fma k 0xBF318000 x Rk ⟨by omega, by omega⟩ hx _).mono ?_
        rintro e w3 ⟨b, rfl, Hb, Rb, B3⟩
        replace hb := bl_tr hb B3
        clear B3
        go_wp2_with fail
        refine (r_fma k 0x395E8083 b Rk ⟨by omega, by omega⟩ Rb _).mono ?_
        rintro e w4 ⟨r, rfl, Hr, Rr, B4⟩
        replace hb := bl_tr hb B4
        clear B4
        go_wp2_with fail
        refine (r_row r 0x3AB60B61 Rr ⟨by omega, by omega⟩ _ 7 [0x3C088889, 0x3D2AAAAB, 0x3E2AAAAB, 0x3F000000, 0x3F800000, 0x3F800000] (by intro c h; simp at h; (repeat' (rcases h with rfl | h)) <;> first | exact ⟨by omega, by omega⟩ | (subst h; exact ⟨by omega, by omega⟩)) (by decide) 7 rfl (by decide) _ (by simp) ⟨by simp, by simp, by simp, by simp, by simp, by simp, by simp, trivial⟩).mono ?_
        rintro e w5 ⟨p, rfl, Hp, Rp, B5⟩
        replace hb := bl_tr (bl_tr hb ((Below.refl _ _).alloc (Nat.le_refl _) _)) B5
        clear B5
        go_wp2_with fail
        refine (r_toInt k Rk _).mono ?_
        rintro e w6 ⟨n, rfl, Hn, lon, hin, B6⟩
        replace hb := bl_tr hb B6
        clear B6
        go_wp2_with fail
        refine (r_scale p n Rp _).mono ?_
        rintro e w7 ⟨s, rfl, Hs, Rs, B7⟩
        replace hb := bl_tr hb B7
        clear B7
        go_wp2_with fail
        go_ret
        refine ⟨_, rfl, hide ?_, Rs, hb⟩
        rw [unhide Hs, unhide Hn, unhide Hp, unhide Hr, unhide Hb, unhide Hk, unhide Ha]
        unfold expV expP expR expK
        rw [hn, h1, h2, if_neg (by decide), if_neg (by decide), if_neg (by decide)]
      · go_enter Tryz.func35, Tryz.ntmps35
        go_wp2_with (first | (go_at_call 30; refine (risNone_any _ hx.lo hx.hi _).mono ?_; rintro e w1 ⟨rfl, rfl⟩) | (go_at_call 31; refine (r_less _ _ (by first | exact hx | exact ⟨by omega, by omega⟩) (by first | exact hx | exact ⟨by omega, by omega⟩) _).mono ?_; rintro e w1 ⟨rfl, rfl⟩))
        go_ret
        exact ⟨_, rfl, hide (by unfold expV; rw [hn, h1, h2]; rfl), ⟨by omega, by omega⟩, Below.refl _ _⟩
    · go_enter Tryz.func35, Tryz.ntmps35
      go_wp2_with (first | (go_at_call 30; refine (risNone_any _ hx.lo hx.hi _).mono ?_; rintro e w1 ⟨rfl, rfl⟩) | (go_at_call 31; refine (r_less _ _ (by first | exact hx | exact ⟨by omega, by omega⟩) (by first | exact hx | exact ⟨by omega, by omega⟩) _).mono ?_; rintro e w1 ⟨rfl, rfl⟩))
      go_ret
      exact ⟨_, rfl, hide (by unfold expV; rw [hn, h1]; rfl), ⟨by omega, by omega⟩, Below.refl _ _⟩
  · go_enter Tryz.func35, Tryz.ntmps35
    go_wp2_with (first | (go_at_call 30; refine (risNone_any _ hx.lo hx.hi _).mono ?_; rintro e w1 ⟨rfl, rfl⟩) | (go_at_call 31; refine (r_less _ _ (by first | exact hx | exact ⟨by omega, by omega⟩) (by first | exact hx | exact ⟨by omega, by omega⟩) _).mono ?_; rintro e w1 ⟨rfl, rfl⟩))
    go_ret
    exact ⟨_, rfl, hide (by unfold expV; rw [hn]; rfl), ⟨by omega, by omega⟩, Below.refl _ _⟩

set_option maxRecDepth 100000 in
set_option maxHeartbeats 1000000 in
theorem r_field (x : Int) (hx : R x) (w : World) :
    Calls Tryz.prog 81 #[.int .u32 x] w fun e w' => e = .returned (.int .i64 (fieldV x)) ∧ w' = w := by
  obtain ⟨h0, h1⟩ := hx
  go_enter Tryz.func81, Tryz.ntmps81
  go_wp2
  go_ret
  exact ⟨ret_int rfl, rfl⟩

set_option maxRecDepth 100000 in
set_option maxHeartbeats 2000000 in
theorem r_held (y lo hi : Int) (hy : R y) (hl : R lo) (hh : R hi) (w : World) :
    Calls Tryz.prog 38 #[.int .u32 y, .int .u32 lo, .int .u32 hi] w fun e w' => ∃ k, e = .returned (.int .u32 k) ∧ Hid (k = heldV lo hi y) ∧ R k ∧ Below w.heap.size w w' := by
  go_enter Tryz.func38, Tryz.ntmps38
  have hb := Below.refl w.heap.size w
  go_wp2_with fail
  refine (r_min hi y hh hy _).mono ?_
  rintro e w1 ⟨a, rfl, Ha, Ra, B1⟩
  replace hb := bl_tr hb B1
  clear B1
  go_wp2_with fail
  refine (r_max lo a hl Ra _).mono ?_
  rintro e w2 ⟨k, rfl, Hk, Rk, B2⟩
  replace hb := bl_tr hb B2
  clear B2
  go_wp2_with fail
  go_ret
  refine ⟨_, rfl, hide ?_, Rk, hb⟩
  rw [unhide Hk, unhide Ha]
  unfold heldV
  rfl

set_option maxRecDepth 100000 in
set_option maxHeartbeats 2000000 in
theorem r_log (x : Int) (hx : R x) (w : World) :
    Calls Tryz.prog 48 #[.int .u32 x] w fun e w' => ∃ k, e = .returned (.int .u32 k) ∧ Hid (k = logV x) ∧ R k ∧ Below w.heap.size w w' := by
  have ra := R_abs x
  have CA : Hid (∀ w, Calls Tryz.prog 29 #[.int .u32 x] w fun e w' => e = .returned (.int .u32 (Flt.absF x)) ∧ Below w.heap.size w w') := hide fun w => by
    refine (r_abs x hx w).mono ?_
    rintro e w1 ⟨k, rfl, Hk, _, B1⟩
    exact ⟨ret_int (unhide Hk), B1⟩
  have hb := Below.refl w.heap.size w
  cases hn : Flt.isNaN x
  · by_cases hz : Flt.absF x = 0
    · have hzb : (Flt.absF x == 0) = true := by simp [hz]
      have HZ := hide hz
      have hnl : Flt.lessF x 0 = false := by
        unfold Flt.lessF Flt.place
        have h0 := hx.lo; have h1 := hx.hi
        unfold Flt.absF at hz
        rw [hn]; simp; omega
      clear hz
      go_enter Tryz.func48, Tryz.ntmps48
      go_wp2_with (first | (go_at_call 30; refine (risNone_any _ hx.lo hx.hi _).mono ?_; rintro e w1 ⟨rfl, rfl⟩) | (go_at_call 29; refine (unhide CA _).mono ?_; rintro e w1 ⟨rfl, hb1⟩; replace hb := bl_tr hb hb1; clear hb1) | (go_at_call 31; refine (r_less _ _ hx ⟨by omega, by omega⟩ _).mono ?_; rintro e w1 ⟨rfl, rfl⟩))
      go_ret
      exact ⟨_, rfl, hide (by unfold logV; rw [hn, hnl, if_neg (by decide), if_pos (unhide HZ)]), ⟨by omega, by omega⟩, hb⟩
    · have hzb : (Flt.absF x == 0) = false := by simp [hz]
      cases hl : Flt.lessF x 0
      · cases hi : Flt.isInf x
        · skip
          have hp : x < 2147483648 := by
            unfold Flt.lessF at hl
            rw [hn, show Flt.isNaN 0 = false by decide] at hl
            simp only [Bool.not_false, Bool.true_and, decide_eq_false_iff_not] at hl
            have h0 := hx.lo
            rw [show Flt.place 0 = 0 by decide] at hl
            unfold Flt.place at hl; unfold Flt.absF at hz
            split at hl <;> omega
          have hxi : (x == 0x7F800000) = false := by
            unfold Flt.isInf at hi
            simp only [decide_eq_false_iff_not] at hi
            have h0 := hx.lo
            simp; omega
          obtain ⟨rX, pX⟩ := apX_range hx hp
          obtain ⟨X, hX⟩ : ∃ X, apX x = X := ⟨_, rfl⟩
          have hM : apM0 x = X % 8388608 + 1056964608 := by unfold apM0; rw [hX]
          rw [hX] at rX pX
          obtain ⟨x0, x1⟩ := rX
          have rX : R X := ⟨x0, x1⟩
          have rM : R (X % 8388608 + 1056964608) := ⟨by omega, by omega⟩
          obtain ⟨f0, f1⟩ := field_range X
          have hEE : apE x = (if Flt.lessF (X % 8388608 + 1056964608) 0x3F3504F3 = true then (if fieldV x = 0 then -24 else 0) + (fieldV X - 126) - 1 else (if fieldV x = 0 then -24 else 0) + (fieldV X - 126)) := by
            unfold apE apE0; rw [hM, hX]
          have hMM : apM x = (if Flt.lessF (X % 8388608 + 1056964608) 0x3F3504F3 = true then Flt.addBy 0 (X % 8388608 + 1056964608) (X % 8388608 + 1056964608) else X % 8388608 + 1056964608) := by
            unfold apM; rw [hM]
          have HV : Hid (logV x = logM (apM x) (apE x)) := hide (by unfold logV; rw [hn, hl, if_neg (by decide), if_neg hz, hi, if_neg (by decide)])
          have HE := hide hEE
          have HM := hide hMM
          clear hEE hMM hM hz hp hi
          by_cases hf : fieldV x = 0
          · have HX : Hid (scaleC x 24 = X) := hide (by rw [← hX]; unfold apX; rw [if_pos hf])
            have hfb : (fieldV x == 0) = true := by simp [hf]
            have HF := hide hf
            clear hX hf
            cases hlm : Flt.lessF (X % 8388608 + 1056964608) 0x3F3504F3
            · go_enter Tryz.func48, Tryz.ntmps48
              go_wp2_with (first | (go_at_call 30; refine (risNone_any _ hx.lo hx.hi _).mono ?_; rintro e w1 ⟨rfl, rfl⟩) | (go_at_call 29; refine (unhide CA _).mono ?_; rintro e w1 ⟨rfl, hb1⟩; replace hb := bl_tr hb hb1; clear hb1) | (go_at_call 31; refine (r_less _ _ hx ⟨by omega, by omega⟩ _).mono ?_; rintro e w1 ⟨rfl, rfl⟩) | (go_at_call 81; refine (r_field x hx _).mono ?_; rintro e w1 ⟨rfl, rfl⟩))
              refine (r_scale x 24 hx _).mono ?_
              rintro e v1 ⟨k0, rfl, Hk0, rk0, B1⟩
              have ek : k0 = X := (unhide Hk0).trans (unhide HX)
              subst ek
              replace hb := bl_tr hb B1
              clear B1 Hk0
              go_wp2_with (first | (go_at_call 81; refine (r_field k0 rk0 _).mono ?_; rintro e w1 ⟨rfl, rfl⟩) | (go_at_call 31; refine (r_less _ _ rM ⟨by omega, by omega⟩ _).mono ?_; rintro e w1 ⟨rfl, rfl⟩))
              obtain ⟨M, hMd⟩ : ∃ M, k0 % 8388608 + 1056964608 = M := ⟨_, rfl⟩
              rw [hMd] at rM HM HE hlm ⊢
              have RM := rM
              have HMM : Hid (M = apM x) := hide (by rw [unhide HM, hlm]; rfl)
              clear rM
              have HEE : Hid (-24 + fieldV k0 - 126 = apE x) := hide (by rw [unhide HE, hlm, if_pos (unhide HF)]; simp <;> omega)
              have rE : -1000 ≤ -24 + fieldV k0 - 126 ∧ -24 + fieldV k0 - 126 ≤ 1000 := by omega
              refine (r_sub M 0x3F800000 RM ⟨by omega, by omega⟩ _).mono ?_
              rintro e w1 ⟨f, rfl, Hf, Rf, B1⟩
              replace hb := bl_tr hb B1
              clear B1
              go_wp2_with fail
              refine (r_add f 0x40000000 Rf ⟨by omega, by omega⟩ _).mono ?_
              rintro e w2 ⟨g, rfl, Hg, Rg, B2⟩
              replace hb := bl_tr hb B2
              clear B2
              go_wp2_with fail
              refine (r_div f g Rf Rg _).mono ?_
              rintro e w3 ⟨s, rfl, Hs, Rs, B3⟩
              replace hb := bl_tr hb B3
              clear B3
              go_wp2_with fail
              refine (r_mul s s Rs Rs _).mono ?_
              rintro e w4 ⟨z, rfl, Hz, Rz, B4⟩
              replace hb := bl_tr hb B4
              clear B4
              go_wp2_with fail
              refine (r_row z 0x3E638E39 Rz ⟨by omega, by omega⟩ _ 5 [0x3E924925, 0x3ECCCCCD, 0x3F2AAAAB, 0x40000000] (by intro c h; simp at h; (repeat' (rcases h with rfl | h)) <;> first | exact ⟨by omega, by omega⟩ | (subst h; exact ⟨by omega, by omega⟩)) (by decide) 5 rfl (by decide) _ (by simp) ⟨by simp, by simp, by simp, by simp, by simp, trivial⟩).mono ?_
              rintro e w5 ⟨p, rfl, Hp, Rp, B5⟩
              replace hb := bl_tr (bl_tr hb ((Below.refl _ _).alloc (Nat.le_refl _) _)) B5
              clear B5
              go_wp2_with fail
              refine (r_mul s p Rs Rp _).mono ?_
              rintro e w6 ⟨l, rfl, Hl, Rl, B6⟩
              replace hb := bl_tr hb B6
              clear B6
              go_wp2_with fail
              refine (r_fromInt (-24 + fieldV k0 - 126) (by omega) (by omega) _).mono ?_
              rintro e w7 ⟨k, rfl, Hk, Rk, B7⟩
              replace hb := bl_tr hb B7
              clear B7
              go_wp2_with fail
              refine (r_fma k 0xB95E8083 l Rk ⟨by omega, by omega⟩ Rl _).mono ?_
              rintro e w8 ⟨u, rfl, Hu, Ru, B8⟩
              replace hb := bl_tr hb B8
              clear B8
              go_wp2_with fail
              refine (r_fma k 0x3F318000 u Rk ⟨by omega, by omega⟩ Ru _).mono ?_
              rintro e w9 ⟨r, rfl, Hr, Rr, B9⟩
              replace hb := bl_tr hb B9
              clear B9
              go_wp2_with fail
              go_ret
              refine ⟨_, rfl, hide ?_, Rr, hb⟩
              rw [unhide Hr, unhide Hu, unhide Hk, unhide Hl, unhide Hp, unhide Hz, unhide Hs, unhide Hg, unhide Hf, unhide HV, ← unhide HMM, ← unhide HEE]
              unfold logM logL logS logF
              rfl
            · go_enter Tryz.func48, Tryz.ntmps48
              go_wp2_with (first | (go_at_call 30; refine (risNone_any _ hx.lo hx.hi _).mono ?_; rintro e w1 ⟨rfl, rfl⟩) | (go_at_call 29; refine (unhide CA _).mono ?_; rintro e w1 ⟨rfl, hb1⟩; replace hb := bl_tr hb hb1; clear hb1) | (go_at_call 31; refine (r_less _ _ hx ⟨by omega, by omega⟩ _).mono ?_; rintro e w1 ⟨rfl, rfl⟩) | (go_at_call 81; refine (r_field x hx _).mono ?_; rintro e w1 ⟨rfl, rfl⟩))
              refine (r_scale x 24 hx _).mono ?_
              rintro e v1 ⟨k0, rfl, Hk0, rk0, B1⟩
              have ek : k0 = X := (unhide Hk0).trans (unhide HX)
              subst ek
              replace hb := bl_tr hb B1
              clear B1 Hk0
              go_wp2_with (first | (go_at_call 81; refine (r_field k0 rk0 _).mono ?_; rintro e w1 ⟨rfl, rfl⟩) | (go_at_call 31; refine (r_less _ _ rM ⟨by omega, by omega⟩ _).mono ?_; rintro e w1 ⟨rfl, rfl⟩))
              refine (r_add (k0 % 8388608 + 1056964608) (k0 % 8388608 + 1056964608) rM rM _).mono ?_
              rintro e v3 ⟨M, rfl, HM0, RM, B3⟩
              replace hb := bl_tr hb B3
              clear B3
              have HMM : Hid (M = apM x) := hide (by rw [unhide HM, hlm, unhide HM0]; rfl)
              go_wp2_with fail
              clear rM
              have HEE : Hid (-24 + fieldV k0 - 126 - 1 = apE x) := hide (by rw [unhide HE, hlm, if_pos (unhide HF)]; simp <;> omega)
              have rE : -1000 ≤ -24 + fieldV k0 - 126 - 1 ∧ -24 + fieldV k0 - 126 - 1 ≤ 1000 := by omega
              refine (r_sub M 0x3F800000 RM ⟨by omega, by omega⟩ _).mono ?_
              rintro e w1 ⟨f, rfl, Hf, Rf, B1⟩
              replace hb := bl_tr hb B1
              clear B1
              go_wp2_with fail
              refine (r_add f 0x40000000 Rf ⟨by omega, by omega⟩ _).mono ?_
              rintro e w2 ⟨g, rfl, Hg, Rg, B2⟩
              replace hb := bl_tr hb B2
              clear B2
              go_wp2_with fail
              refine (r_div f g Rf Rg _).mono ?_
              rintro e w3 ⟨s, rfl, Hs, Rs, B3⟩
              replace hb := bl_tr hb B3
              clear B3
              go_wp2_with fail
              refine (r_mul s s Rs Rs _).mono ?_
              rintro e w4 ⟨z, rfl, Hz, Rz, B4⟩
              replace hb := bl_tr hb B4
              clear B4
              go_wp2_with fail
              refine (r_row z 0x3E638E39 Rz ⟨by omega, by omega⟩ _ 5 [0x3E924925, 0x3ECCCCCD, 0x3F2AAAAB, 0x40000000] (by intro c h; simp at h; (repeat' (rcases h with rfl | h)) <;> first | exact ⟨by omega, by omega⟩ | (subst h; exact ⟨by omega, by omega⟩)) (by decide) 5 rfl (by decide) _ (by simp) ⟨by simp, by simp, by simp, by simp, by simp, trivial⟩).mono ?_
              rintro e w5 ⟨p, rfl, Hp, Rp, B5⟩
              replace hb := bl_tr (bl_tr hb ((Below.refl _ _).alloc (Nat.le_refl _) _)) B5
              clear B5
              go_wp2_with fail
              refine (r_mul s p Rs Rp _).mono ?_
              rintro e w6 ⟨l, rfl, Hl, Rl, B6⟩
              replace hb := bl_tr hb B6
              clear B6
              go_wp2_with fail
              refine (r_fromInt (-24 + fieldV k0 - 126 - 1) (by omega) (by omega) _).mono ?_
              rintro e w7 ⟨k, rfl, Hk, Rk, B7⟩
              replace hb := bl_tr hb B7
              clear B7
              go_wp2_with fail
              refine (r_fma k 0xB95E8083 l Rk ⟨by omega, by omega⟩ Rl _).mono ?_
              rintro e w8 ⟨u, rfl, Hu, Ru, B8⟩
              replace hb := bl_tr hb B8
              clear B8
              go_wp2_with fail
              refine (r_fma k 0x3F318000 u Rk ⟨by omega, by omega⟩ Ru _).mono ?_
              rintro e w9 ⟨r, rfl, Hr, Rr, B9⟩
              replace hb := bl_tr hb B9
              clear B9
              go_wp2_with fail
              go_ret
              refine ⟨_, rfl, hide ?_, Rr, hb⟩
              rw [unhide Hr, unhide Hu, unhide Hk, unhide Hl, unhide Hp, unhide Hz, unhide Hs, unhide Hg, unhide Hf, unhide HV, ← unhide HMM, ← unhide HEE]
              unfold logM logL logS logF
              rfl
          · have HX : x = X := by rw [← hX]; unfold apX; rw [if_neg hf]
            have hfb : (fieldV x == 0) = false := by simp [hf]
            have HF := hide hf
            subst HX
            clear hX hf
            cases hlm : Flt.lessF (x % 8388608 + 1056964608) 0x3F3504F3
            · go_enter Tryz.func48, Tryz.ntmps48
              go_wp2_with (first | (go_at_call 30; refine (risNone_any _ hx.lo hx.hi _).mono ?_; rintro e w1 ⟨rfl, rfl⟩) | (go_at_call 29; refine (unhide CA _).mono ?_; rintro e w1 ⟨rfl, hb1⟩; replace hb := bl_tr hb hb1; clear hb1) | (go_at_call 31; refine (r_less _ _ (by first | exact hx | exact rM) ⟨by omega, by omega⟩ _).mono ?_; rintro e w1 ⟨rfl, rfl⟩) | (go_at_call 81; refine (r_field x hx _).mono ?_; rintro e w1 ⟨rfl, rfl⟩))
              obtain ⟨M, hMd⟩ : ∃ M, x % 8388608 + 1056964608 = M := ⟨_, rfl⟩
              rw [hMd] at rM HM HE hlm ⊢
              have RM := rM
              have HMM : Hid (M = apM x) := hide (by rw [unhide HM, hlm]; rfl)
              clear rM
              have HEE : Hid (fieldV x - 126 = apE x) := hide (by rw [unhide HE, hlm, if_neg (unhide HF)]; simp <;> omega)
              have rE : -1000 ≤ fieldV x - 126 ∧ fieldV x - 126 ≤ 1000 := by omega
              refine (r_sub M 0x3F800000 RM ⟨by omega, by omega⟩ _).mono ?_
              rintro e w1 ⟨f, rfl, Hf, Rf, B1⟩
              replace hb := bl_tr hb B1
              clear B1
              go_wp2_with fail
              refine (r_add f 0x40000000 Rf ⟨by omega, by omega⟩ _).mono ?_
              rintro e w2 ⟨g, rfl, Hg, Rg, B2⟩
              replace hb := bl_tr hb B2
              clear B2
              go_wp2_with fail
              refine (r_div f g Rf Rg _).mono ?_
              rintro e w3 ⟨s, rfl, Hs, Rs, B3⟩
              replace hb := bl_tr hb B3
              clear B3
              go_wp2_with fail
              refine (r_mul s s Rs Rs _).mono ?_
              rintro e w4 ⟨z, rfl, Hz, Rz, B4⟩
              replace hb := bl_tr hb B4
              clear B4
              go_wp2_with fail
              refine (r_row z 0x3E638E39 Rz ⟨by omega, by omega⟩ _ 5 [0x3E924925, 0x3ECCCCCD, 0x3F2AAAAB, 0x40000000] (by intro c h; simp at h; (repeat' (rcases h with rfl | h)) <;> first | exact ⟨by omega, by omega⟩ | (subst h; exact ⟨by omega, by omega⟩)) (by decide) 5 rfl (by decide) _ (by simp) ⟨by simp, by simp, by simp, by simp, by simp, trivial⟩).mono ?_
              rintro e w5 ⟨p, rfl, Hp, Rp, B5⟩
              replace hb := bl_tr (bl_tr hb ((Below.refl _ _).alloc (Nat.le_refl _) _)) B5
              clear B5
              go_wp2_with fail
              refine (r_mul s p Rs Rp _).mono ?_
              rintro e w6 ⟨l, rfl, Hl, Rl, B6⟩
              replace hb := bl_tr hb B6
              clear B6
              go_wp2_with fail
              refine (r_fromInt (fieldV x - 126) (by omega) (by omega) _).mono ?_
              rintro e w7 ⟨k, rfl, Hk, Rk, B7⟩
              replace hb := bl_tr hb B7
              clear B7
              go_wp2_with fail
              refine (r_fma k 0xB95E8083 l Rk ⟨by omega, by omega⟩ Rl _).mono ?_
              rintro e w8 ⟨u, rfl, Hu, Ru, B8⟩
              replace hb := bl_tr hb B8
              clear B8
              go_wp2_with fail
              refine (r_fma k 0x3F318000 u Rk ⟨by omega, by omega⟩ Ru _).mono ?_
              rintro e w9 ⟨r, rfl, Hr, Rr, B9⟩
              replace hb := bl_tr hb B9
              clear B9
              go_wp2_with fail
              go_ret
              refine ⟨_, rfl, hide ?_, Rr, hb⟩
              rw [unhide Hr, unhide Hu, unhide Hk, unhide Hl, unhide Hp, unhide Hz, unhide Hs, unhide Hg, unhide Hf, unhide HV, ← unhide HMM, ← unhide HEE]
              unfold logM logL logS logF
              rfl
            · go_enter Tryz.func48, Tryz.ntmps48
              go_wp2_with (first | (go_at_call 30; refine (risNone_any _ hx.lo hx.hi _).mono ?_; rintro e w1 ⟨rfl, rfl⟩) | (go_at_call 29; refine (unhide CA _).mono ?_; rintro e w1 ⟨rfl, hb1⟩; replace hb := bl_tr hb hb1; clear hb1) | (go_at_call 31; refine (r_less _ _ (by first | exact hx | exact rM) ⟨by omega, by omega⟩ _).mono ?_; rintro e w1 ⟨rfl, rfl⟩) | (go_at_call 81; refine (r_field x hx _).mono ?_; rintro e w1 ⟨rfl, rfl⟩))
              refine (r_add (x % 8388608 + 1056964608) (x % 8388608 + 1056964608) rM rM _).mono ?_
              rintro e v3 ⟨M, rfl, HM0, RM, B3⟩
              replace hb := bl_tr hb B3
              clear B3
              have HMM : Hid (M = apM x) := hide (by rw [unhide HM, hlm, unhide HM0]; rfl)
              go_wp2_with fail
              clear rM
              have HEE : Hid (fieldV x - 126 - 1 = apE x) := hide (by rw [unhide HE, hlm, if_neg (unhide HF)]; simp <;> omega)
              have rE : -1000 ≤ fieldV x - 126 - 1 ∧ fieldV x - 126 - 1 ≤ 1000 := by omega
              refine (r_sub M 0x3F800000 RM ⟨by omega, by omega⟩ _).mono ?_
              rintro e w1 ⟨f, rfl, Hf, Rf, B1⟩
              replace hb := bl_tr hb B1
              clear B1
              go_wp2_with fail
              refine (r_add f 0x40000000 Rf ⟨by omega, by omega⟩ _).mono ?_
              rintro e w2 ⟨g, rfl, Hg, Rg, B2⟩
              replace hb := bl_tr hb B2
              clear B2
              go_wp2_with fail
              refine (r_div f g Rf Rg _).mono ?_
              rintro e w3 ⟨s, rfl, Hs, Rs, B3⟩
              replace hb := bl_tr hb B3
              clear B3
              go_wp2_with fail
              refine (r_mul s s Rs Rs _).mono ?_
              rintro e w4 ⟨z, rfl, Hz, Rz, B4⟩
              replace hb := bl_tr hb B4
              clear B4
              go_wp2_with fail
              refine (r_row z 0x3E638E39 Rz ⟨by omega, by omega⟩ _ 5 [0x3E924925, 0x3ECCCCCD, 0x3F2AAAAB, 0x40000000] (by intro c h; simp at h; (repeat' (rcases h with rfl | h)) <;> first | exact ⟨by omega, by omega⟩ | (subst h; exact ⟨by omega, by omega⟩)) (by decide) 5 rfl (by decide) _ (by simp) ⟨by simp, by simp, by simp, by simp, by simp, trivial⟩).mono ?_
              rintro e w5 ⟨p, rfl, Hp, Rp, B5⟩
              replace hb := bl_tr (bl_tr hb ((Below.refl _ _).alloc (Nat.le_refl _) _)) B5
              clear B5
              go_wp2_with fail
              refine (r_mul s p Rs Rp _).mono ?_
              rintro e w6 ⟨l, rfl, Hl, Rl, B6⟩
              replace hb := bl_tr hb B6
              clear B6
              go_wp2_with fail
              refine (r_fromInt (fieldV x - 126 - 1) (by omega) (by omega) _).mono ?_
              rintro e w7 ⟨k, rfl, Hk, Rk, B7⟩
              replace hb := bl_tr hb B7
              clear B7
              go_wp2_with fail
              refine (r_fma k 0xB95E8083 l Rk ⟨by omega, by omega⟩ Rl _).mono ?_
              rintro e w8 ⟨u, rfl, Hu, Ru, B8⟩
              replace hb := bl_tr hb B8
              clear B8
              go_wp2_with fail
              refine (r_fma k 0x3F318000 u Rk ⟨by omega, by omega⟩ Ru _).mono ?_
              rintro e w9 ⟨r, rfl, Hr, Rr, B9⟩
              replace hb := bl_tr hb B9
              clear B9
              go_wp2_with fail
              go_ret
              refine ⟨_, rfl, hide ?_, Rr, hb⟩
              rw [unhide Hr, unhide Hu, unhide Hk, unhide Hl, unhide Hp, unhide Hz, unhide Hs, unhide Hg, unhide Hf, unhide HV, ← unhide HMM, ← unhide HEE]
              unfold logM logL logS logF
              rfl
        · have hxi : x = 0x7F800000 := by
            have hs := Flt.inf_eq x hx.lo hx.hi hi
            have hsg : Flt.sgn x = false := by
              cases h : Flt.sgn x
              · rfl
              · exfalso
                rw [h] at hs
                unfold Flt.lessF Flt.place at hl
                rw [hn] at hl
                simp [Flt.signBit] at hs
                subst hs
                revert hl; decide
            rw [hsg] at hs
            simpa [Flt.signBit] using hs
          subst hxi
          go_enter Tryz.func48, Tryz.ntmps48
          go_wp2_with (first | (go_at_call 30; refine (risNone_any _ hx.lo hx.hi _).mono ?_; rintro e w1 ⟨rfl, rfl⟩) | (go_at_call 29; refine (unhide CA _).mono ?_; rintro e w1 ⟨rfl, hb1⟩; replace hb := bl_tr hb hb1; clear hb1) | (go_at_call 31; refine (r_less _ _ hx ⟨by omega, by omega⟩ _).mono ?_; rintro e w1 ⟨rfl, rfl⟩))
          go_ret
          exact ⟨_, rfl, hide (by decide +kernel), ⟨by omega, by omega⟩, hb⟩
      · go_enter Tryz.func48, Tryz.ntmps48
        go_wp2_with (first | (go_at_call 30; refine (risNone_any _ hx.lo hx.hi _).mono ?_; rintro e w1 ⟨rfl, rfl⟩) | (go_at_call 29; refine (unhide CA _).mono ?_; rintro e w1 ⟨rfl, hb1⟩; replace hb := bl_tr hb hb1; clear hb1) | (go_at_call 31; refine (r_less _ _ hx ⟨by omega, by omega⟩ _).mono ?_; rintro e w1 ⟨rfl, rfl⟩))
        go_ret
        exact ⟨_, rfl, hide (by unfold logV; rw [hn, hl]; rfl), ⟨by omega, by omega⟩, hb⟩
  · go_enter Tryz.func48, Tryz.ntmps48
    go_wp2_with (first | (go_at_call 30; refine (risNone_any _ hx.lo hx.hi _).mono ?_; rintro e w1 ⟨rfl, rfl⟩) | (go_at_call 29; refine (unhide CA _).mono ?_; rintro e w1 ⟨rfl, hb1⟩; replace hb := bl_tr hb hb1; clear hb1) | (go_at_call 31; refine (r_less _ _ hx ⟨by omega, by omega⟩ _).mono ?_; rintro e w1 ⟨rfl, rfl⟩))
    go_ret
    exact ⟨_, rfl, hide (by unfold logV; rw [hn, if_pos (.inl rfl)]), ⟨by omega, by omega⟩, hb⟩

end Go.Proofs.YtkbniebahledmabGreat
