/-
  ElemBounds holds: for every float, Sin, Cos, Tanh and Erf are between -1 and 1, Sigmoid between 0 and 1, or the one no number; Exp, Log, Softplus and Pow are their own Canon. No condition.
-/
import Derived.Test.YtkbniebahledmabRows
import Derived.WalkKit
import Derived.ProofKit
import Derived.OpenShut
import Derived.Below
import Derived.Test.YtkbniebahledmabGM
import Derived.Test.YtkbniebahledmabGP
namespace Go.Proofs.Ytkbniebahledmab.elemBounds
open Go.ChangeShapes Go.WideShapes Go.ChangeAt Go.RowKit
set_option linter.unusedVariables false      -- a walk need not use every 'w<i>' (that an integer argument fits its kind)

theorem own : ownKnob Try.prog.godebug = none := by kernel_rfl

set_option maxRecDepth 100000 in
set_option maxHeartbeats 1000000 in
theorem between_any (v lo hi : Int) (rv : R v) (rl : R lo) (rh : R hi) (hv : Btw lo hi v) (w : World) :
    Calls Try.prog 14 #[.int .u32 v, .int .u32 lo, .int .u32 hi] w fun e w' => e = .returned (.bool true) ∧ w' = w := by
  rcases hv with rfl | ⟨nv, p1, p2⟩
  · go_enter Try.func14, Try.ntmps14
    go_wp2_with fail
    go_ret
    exact ⟨rfl, rfl⟩
  · have e : (v == 2143289344) = false := by
      rw [beq_eq_false_iff_ne]; rintro rfl; exact absurd nv (by decide)
    have l1 : Flt.lessF v lo = false := by
      unfold Flt.lessF; rw [show decide (Flt.place v < Flt.place lo) = false by rw [decide_eq_false_iff_not]; omega, Bool.and_false]
    have l2 : Flt.lessF hi v = false := by
      unfold Flt.lessF; rw [show decide (Flt.place hi < Flt.place v) = false by rw [decide_eq_false_iff_not]; omega, Bool.and_false]
    clear p1 p2
    go_enter Try.func14, Try.ntmps14
    go_wp2_with (first | (go_at_call 11; refine (r_less _ _ (by assumption) (by assumption) _).mono ?_; rintro e w1 ⟨rfl, rfl⟩) | (go_at_call 7; refine (risNone_any _ rv.lo rv.hi _).mono ?_; rintro e w1 ⟨rfl, rfl⟩))
    go_ret
    exact ⟨rfl, rfl⟩

theorem CellsAt.drew {w : World} {b : Nat} (n : Nat) : ∀ {cs : List Int} {o : Nat}, CellsAt w b o cs → CellsAt (w.drewN n) b o cs
  | [], _, _ => trivial
  | _ :: _, _, k => ⟨by rw [← k.1]; simp, CellsAt.drew n k.2⟩
theorem bl_drew {B : Nat} {a w : World} (h : Below B a w) (n : Nat) : Below B a (w.drewN n) := h.trans ⟨rfl, rfl, rfl, Nat.le_refl _, fun _ _ => rfl⟩

set_option maxRecDepth 100000 in
set_option maxHeartbeats 4000000 in
theorem walk (a0 : Int) (a1 : Int) (w0 : (Lit.int .u32 a0).wf = true) (w1 : (Lit.int .u32 a1).wf = true) (w : World) :
    Calls Try.prog 4 #[.int .u32 a0, .int .u32 a1] w fun e w' => e = .returned (.bool true) ∧ Below w.heap.size w w' := by
  have hx : R a0 := by obtain ⟨p, q⟩ := wf_u32_iff w0; exact ⟨p, q⟩
  have hy : R a1 := by obtain ⟨p, q⟩ := wf_u32_iff w1; exact ⟨p, q⟩
  have hb := Below.refl w.heap.size w
  go_enter Try.func4, Try.ntmps4
  go_wp2_with fail
  refine (awake3_any _).mono ?_
  rintro e v0 ⟨rfl, B0⟩
  replace hb := bl_tr hb B0
  clear B0
  go_wp2_with fail
  refine (c_sin a0 hx _).mono ?_
  rintro e v1 ⟨s1, rfl, H1, R1, B1⟩
  replace hb := bl_tr hb B1
  clear B1
  go_wp2_with fail
  refine (between_any s1 _ _ R1 ⟨by omega, by omega⟩ ⟨by omega, by omega⟩ (by rw [unhide H1]; exact cir_btw hx _) _).mono ?_
  rintro e v1b ⟨rfl, rfl⟩
  go_wp2_with fail
  refine (c_cos a0 hx _).mono ?_
  rintro e v2 ⟨s2, rfl, H2, R2, B2⟩
  replace hb := bl_tr hb B2
  clear B2
  go_wp2_with fail
  refine (between_any s2 _ _ R2 ⟨by omega, by omega⟩ ⟨by omega, by omega⟩ (by rw [unhide H2]; exact cir_btw hx _) _).mono ?_
  rintro e v2b ⟨rfl, rfl⟩
  go_wp2_with fail
  refine (c_tanh a0 hx _).mono ?_
  rintro e v3 ⟨s3, rfl, H3, R3, B3⟩
  replace hb := bl_tr hb B3
  clear B3
  go_wp2_with fail
  refine (between_any s3 _ _ R3 ⟨by omega, by omega⟩ ⟨by omega, by omega⟩ (by rw [unhide H3]; exact tanh_btw hx) _).mono ?_
  rintro e v3b ⟨rfl, rfl⟩
  go_wp2_with fail
  refine (c_erf a0 hx _).mono ?_
  rintro e v4 ⟨s4, rfl, H4, R4, B4⟩
  replace hb := bl_tr hb B4
  clear B4
  go_wp2_with fail
  refine (between_any s4 _ _ R4 ⟨by omega, by omega⟩ ⟨by omega, by omega⟩ (by rw [unhide H4]; exact erf_btw hx) _).mono ?_
  rintro e v4b ⟨rfl, rfl⟩
  go_wp2_with fail
  refine (c_sig a0 hx _).mono ?_
  rintro e v5 ⟨s5, rfl, H5, R5, B5⟩
  replace hb := bl_tr hb B5
  clear B5
  go_wp2_with fail
  refine (between_any s5 _ _ R5 ⟨by omega, by omega⟩ ⟨by omega, by omega⟩ (by rw [unhide H5]; exact sig_btw hx) _).mono ?_
  rintro e v5b ⟨rfl, rfl⟩
  clear H1 H2 H3 H4 H5 R1 R2 R3 R4 R5
  go_wp2_with fail
  refine (c_exp a0 hx _).mono ?_
  rintro e x1 ⟨k1, rfl, H1, R1, B1⟩
  replace hb := bl_tr hb B1
  clear B1
  go_wp2_with fail
  refine (c_log a0 hx _).mono ?_
  rintro e x2 ⟨k2, rfl, H2, R2, B2⟩
  replace hb := bl_tr hb B2
  clear B2
  go_wp2_with fail
  refine (c_plus a0 hx _).mono ?_
  rintro e x3 ⟨k3, rfl, H3, R3, B3⟩
  replace hb := bl_tr hb B3
  clear B3
  go_wp2_with fail
  refine (c_pow a0 a1 hx hy _).mono ?_
  rintro e x4 ⟨k4, rfl, H4, R4, B4⟩
  replace hb := bl_tr hb B4
  clear B4
  go_wp2_with fail
  refine (c_pow a1 a0 hy hx _).mono ?_
  rintro e x5 ⟨k5, rfl, H5, R5, B5⟩
  replace hb := bl_tr hb B5
  clear B5
  have hg : ∀ c ∈ [k1, k2, k3, k4, k5], R c ∧ Flt.canon c = c := by
    intro c hc
    simp only [List.mem_cons, List.not_mem_nil, or_false] at hc
    rcases hc with rfl | rfl | rfl | rfl | rfl
    · exact ⟨R1, Flt.canon_good (by rw [unhide H1]; exact exp_good hx)⟩
    · exact ⟨R2, Flt.canon_good (by rw [unhide H2]; exact log_good hx)⟩
    · exact ⟨R3, Flt.canon_good (by rw [unhide H3]; exact plus_good hx)⟩
    · exact ⟨R4, Flt.canon_good (by rw [unhide H4]; exact pow_good hx hy)⟩
    · exact ⟨R5, Flt.canon_good (by rw [unhide H5]; exact pow_good hy hx)⟩
  have HG := hide hg
  clear hg H1 H2 H3 H4 H5 R1 R2 R3 R4 R5 hx hy w0 w1
  go_wp2_with fail
  obtain ⟨W, hW⟩ : ∃ W, x5.alloc (.cells #[.int .u32 k1, .int .u32 k2, .int .u32 k3, .int .u32 k4, .int .u32 k5] 22) = W := ⟨_, rfl⟩
  have hcs : CellsAt W x5.heap.size 0 [k1, k2, k3, k4, k5] := by rw [← hW]; exact ⟨by simp, by simp, by simp, by simp, by simp, trivial⟩
  have hbw : Below w.heap.size w W := by rw [← hW]; exact bl_tr hb ((Below.refl _ _).alloc (Nat.le_refl _) _)
  have hsz : x5.heap.size < W.heap.size := by rw [← hW]; simp
  rw [hW]
  have HCS := hide hcs
  have HBW := hide hbw
  clear hW hcs hbw hb
  go_loopw [7, 9] (fun c i wr => ∃ n : Nat, i = .int .i64 n ∧ c = .bool true ∧ n ≤ 5 ∧ Hid (CellsAt wr x5.heap.size 0 [k1, k2, k3, k4, k5]) ∧ Hid (Below w.heap.size w wr)) (fun _ i _ => 5 - (intOf i).toNat)
  case atStart => exact ⟨0, rfl, rfl, by omega, HCS, HBW⟩
  case round =>
    clear HCS HBW
    obtain ⟨n, rfl, rfl, hn, HCS, HBW⟩ := hrel
    by_cases hlt : n < 5
    · have hi : (n : Int) < 5 := by omega
      have hcell := CellsAt.get (unhide HCS) n hlt
      rw [Nat.zero_add] at hcell
      have hmem : [k1, k2, k3, k4, k5].getD n 0 ∈ [k1, k2, k3, k4, k5] := by
        rw [List.getD_eq_getElem?_getD, List.getElem?_eq_getElem (show n < [k1, k2, k3, k4, k5].length from hlt)]
        exact List.getElem_mem _
      obtain ⟨rc, hc⟩ := unhide HG _ hmem
      clear hmem
      generalize [k1, k2, k3, k4, k5].getD n 0 = c at hcell rc hc
      have CC : ∀ w, Calls Try.prog 20 #[.int .u32 c] w fun e w' => e = .returned (.int .u32 c) ∧ w' = w := fun w => by
        refine (rcanon_any c rc.lo rc.hi w).mono ?_
        rintro e w1 ⟨rfl, rfl⟩
        exact ⟨ret_int hc, rfl⟩
      have HCC := hide CC
      clear CC hc rc
      go_wp2
      go_quiet ((go_at_call 20; exact Calls.quiet_of_same (unhide HCC _)))
      go_wp2
      go_roundw
      case rel => exact ⟨n + 1, by go_num, rfl, by omega, hide (CellsAt.drew _ (unhide HCS)), hide (bl_drew (unhide HBW) _)⟩
      case measure => simp [intOf]; omega
    · have hi : ¬ (n : Int) < 5 := by omega
      go_wp2
      go_ret
      exact ⟨rfl, unhide HBW⟩

set_option maxRecDepth 100000 in
theorem lifted (os : Os) (started : os.Started) (H : Type) (enc : TypeId × Value → H) :
    ReturnsInHanded {} Try.checked os 4 .any (Rows.elemBoundsSpec.pre6 enc Try.prog Try.f4 Rows.elemBoundsRow.domain false) (Rows.elemBoundsSpec.post enc Try.prog Try.f4 false true false false) := by
  refine returnsInHanded_of_change (C := Try.checked) own started (by kernel_rfl) Try.func4
    (ChangeSpec.witness6 (enc := enc) (C := Try.checked) false ⟨#[], #[.int .u32 0, .int .u32 0], []⟩ 8 (by kernel_rfl) (by kernel_rfl) (by kernel_rfl) (by kernel_rfl)) ?_
  intro W base args ds gs before hval0 hW hcnd _
  have hval : ∀ (j : Nat) t v, Try.f4.params[j]? = some t → args[j]? = some v → Value.okWide Try.prog W .any base t v := hval0
  have hW' := hW
  obtain ⟨p, q, hA0, hV, rfl, hfz, hnd⟩ := hW
  have hA : DataW.TrodAll enc Try.prog W 0 (fun _ => true) true Try.f4.params.toList args.toList ds p := hA0
  rw [Try.params4] at hA hval
  obtain ⟨v0, vs0, d0, ds0, p0, q0, hargs, rfl, rfl, h0, r0⟩ := trodAll_cons hA
  obtain ⟨v1, vs1, d1, ds1, p1, q1, rfl, rfl, rfl, h1, r1⟩ := trodAll_cons r0
  obtain ⟨rfl, rfl, rfl⟩ := trodAll_nil r1
  obtain rfl : args = #[v0, v1] := by cases args; simp_all
  obtain ⟨rfl, rfl⟩ := trodVars_none hV
  obtain ⟨a0, rfl, rfl, rfl, w0⟩ := open_int Try.underlying22 (hval 0 22 v0 rfl rfl) h0
  obtain ⟨a1, rfl, rfl, rfl, w1⟩ := open_int Try.underlying22 (hval 1 22 v1 rfl rfl) h1
  clear hA0 hval0
  simp only [List.append_nil] at hW'
  refine (walk a0 a1 w0 w1 W).mono fun e W' ⟨he, bel⟩ => ?_
  subst he
  exact ⟨_, rfl, _, _, _, [], _, [], hW', trodAll_mk1 (shut_bool Try.underlying4 _), (trodAll_cons_mk (shut_int Try.underlying22 w0) (trodAll_cons_mk (shut_int Try.underlying22 w1) trodAll_mk0)), rfl, bel.frame _, fun h => by cases h⟩

theorem over : Rows.elemBoundsRow.holds Try.pinned (OpenSpec.ofChange Rows.elemBoundsSpec) :=
  OpenClaim.holds_of_wide 4 Try.f4 rfl rfl rfl rfl rfl rfl rfl ⟨rfl, rfl, rfl, rfl, rfl⟩ rfl rfl rfl rfl rfl (by kernel_rfl) Try.func4 (by kernel_rfl)
    (of_decide_eq_true (by kernel_rfl)) (by unfold Func.isWrapper; first | (rw [if_pos (by decide +kernel)]; kernel_rfl) | (rw [if_neg (by decide +kernel)]; exact ⟨rfl, rfl⟩))
    (fun os started H enc _ => lifted os started H enc)

theorem proved : Rows.ElemBoundsSaid :=
  over
#print axioms proved
end Go.Proofs.Ytkbniebahledmab.elemBounds
