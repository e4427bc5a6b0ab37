/-
  ElemTurned holds: for every float, Tanh and Erf turn their sign with their argument's; so does Sin, and Cos does not see it, below 2^40 in amount. No condition.
-/
import Derived.Test.YtkbniebahledmabRows
import Derived.WalkKit
import Derived.ProofKit
import Derived.OpenShut
import Derived.Below
import Derived.Test.YtkbniebahledmabGM
import Derived.Test.YtkbniebahledmabGT
namespace Go.Proofs.Ytkbniebahledmab.elemTurned
open Go.ChangeShapes Go.WideShapes Go.ChangeAt Go.RowKit
set_option linter.unusedVariables false      -- a walk need not use every 'w<i>' (that an integer argument fits its kind)

theorem own : ownKnob Try.prog.godebug = none := by kernel_rfl

set_option maxRecDepth 100000 in
set_option maxHeartbeats 4000000 in
theorem walk_nan (a0 : Int) (hx : R a0) (hn : Flt.isNaN a0 = true) (w : World) :
    Calls Try.prog 3 #[.int .u32 a0] w fun e w' => e = .returned (.bool true) ∧ Below w.heap.size w w' := by
  have hb := Below.refl w.heap.size w
  have hy := R_neg a0
  have hn2 : Flt.isNaN (Flt.negF a0) = true := by rw [isNaN_neg]; exact hn
  have t1 : tanhV (Flt.negF a0) = 2143289344 := by unfold tanhV; rw [if_pos hn2]
  have t2 : tanhV a0 = 2143289344 := by unfold tanhV; rw [if_pos hn]
  have t3 : cirV (Flt.negF a0) 0 = 2143289344 := by unfold cirV; rw [if_pos (.inl hn2)]
  have HT1 := hide t1
  have HT2 := hide t2
  have HT3 := hide t3
  have CN := hide (fun w => rneg_any a0 hx.lo hx.hi w)
  clear t1 t2 t3 hn2
  generalize Flt.negF a0 = y at *
  go_enter Try.func3, Try.ntmps3
  go_wp2_with fail
  refine (awake3_any _).mono ?_
  rintro e v0 ⟨rfl, B0⟩
  replace hb := bl_tr hb B0
  clear B0
  go_wp2_with (first | (go_at_call 6; refine (unhide CN _).mono ?_; rintro e w1 ⟨rfl, rfl⟩) | (go_at_call 7; refine (risNone_any _ hx.lo hx.hi _).mono ?_; rintro e w1 ⟨rfl, rfl⟩))
  refine (c_tanh y hy _).mono ?_
  rintro e v1 ⟨k1, rfl, H1, R1, B1⟩
  replace hb := bl_tr hb B1
  have e1 : k1 = 2143289344 := (unhide H1).trans (unhide HT1)
  subst e1
  clear B1 H1 R1
  go_wp2_with fail
  refine (c_tanh a0 hx _).mono ?_
  rintro e v2 ⟨k2, rfl, H2, R2, B2⟩
  replace hb := bl_tr hb B2
  have e2 : k2 = 2143289344 := (unhide H2).trans (unhide HT2)
  subst e2
  clear B2 H2 R2
  go_wp2_with fail
  refine (c_sin y hy _).mono ?_
  rintro e v3 ⟨k3, rfl, H3, R3, B3⟩
  replace hb := bl_tr hb B3
  have e3 : k3 = 2143289344 := (unhide H3).trans (unhide HT3)
  subst e3
  clear B3 H3 R3
  go_wp2_with fail
  go_ret
  exact ⟨rfl, hb⟩

theorem less_bd {x : Int} (hx : R x) (h : Flt.lessF (Flt.absF x) 0x53800000 = true) : Bd x 40 := by
  obtain ⟨_, _, h⟩ := less_true h
  rw [(abs_facts x).2.2, show Flt.place 0x53800000 = 0x53800000 by decide] at h
  unfold Bd; omega

set_option maxRecDepth 100000 in
set_option maxHeartbeats 8000000 in
theorem walk_num (a0 : Int) (hx : R a0) (hn : Flt.isNaN a0 = false) (w : World) :
    Calls Try.prog 3 #[.int .u32 a0] w fun e w' => e = .returned (.bool true) ∧ Below w.heap.size w w' := by
  have hb := Below.refl w.heap.size w
  have hy := R_neg a0
  have HT := hide (turned_tanh hx hn)
  have HE := hide (turned_erf hx hn)
  have HS := hide (fun h => turned_sin hx (less_bd hx h))
  have HC := hide (fun h => turned_cos_all hx (less_bd hx h))
  have CN := hide (fun w => rneg_any a0 hx.lo hx.hi w)
  have ra := R_abs a0
  have CAB := hide (fun w => rabs_any a0 hx.lo hx.hi w)
  generalize hY : Flt.negF a0 = y at *
  clear hY
  go_enter Try.func3, Try.ntmps3
  go_wp2_with fail
  refine (awake3_any _).mono ?_
  rintro e v0 ⟨rfl, B0⟩
  replace hb := bl_tr hb B0
  clear B0
  go_wp2_with (first | (go_at_call 6; refine (unhide CN _).mono ?_; rintro e w1 ⟨rfl, rfl⟩) | (go_at_call 7; refine (risNone_any _ hx.lo hx.hi _).mono ?_; rintro e w1 ⟨rfl, rfl⟩))
  refine (c_tanh y hy _).mono ?_
  rintro e v1 ⟨k1, rfl, H1, R1, B1⟩
  replace hb := bl_tr hb B1
  clear B1
  go_wp2_with fail
  refine (c_tanh a0 hx _).mono ?_
  rintro e v2 ⟨k2, rfl, H2, R2, B2⟩
  replace hb := bl_tr hb B2
  clear B2
  have e12 : Flt.negF k2 = k1 := by rw [unhide H1, unhide H2, unhide HT]
  go_wp2_with fail
  refine (rneg_any k2 R2.lo R2.hi _).mono ?_
  rintro e v3 ⟨rfl, rfl⟩
  rw [e12]
  clear e12 H1 H2 HT
  go_wp2_with fail
  refine (c_erf y hy _).mono ?_
  rintro e v4 ⟨k4, rfl, H4, R4, B4⟩
  replace hb := bl_tr hb B4
  clear B4
  go_wp2_with fail
  refine (c_erf a0 hx _).mono ?_
  rintro e v5 ⟨k5, rfl, H5, R5, B5⟩
  replace hb := bl_tr hb B5
  clear B5
  have e45 : Flt.negF k5 = k4 := by rw [unhide H4, unhide H5, unhide HE]
  go_wp2_with fail
  refine (rneg_any k5 R5.lo R5.hi _).mono ?_
  rintro e v6 ⟨rfl, rfl⟩
  rw [e45]
  clear e45 H4 H5 HE R1 R2 R4 R5
  cases hl : Flt.lessF (Flt.absF a0) 0x53800000
  · go_wp2_with (first | (go_at_call 12; refine (unhide CAB _).mono ?_; rintro e w1 ⟨rfl, rfl⟩) | (go_at_call 11; refine (r_less _ _ ra ⟨by omega, by omega⟩ _).mono ?_; rintro e w1 ⟨rfl, rfl⟩))
    go_ret
    exact ⟨rfl, hb⟩
  · have hs := unhide HS hl
    have hc := unhide HC hl
    have HSS := hide hs
    have HCC := hide hc
    clear hs hc HS HC
    go_wp2_with (first | (go_at_call 12; refine (unhide CAB _).mono ?_; rintro e w1 ⟨rfl, rfl⟩) | (go_at_call 11; refine (r_less _ _ ra ⟨by omega, by omega⟩ _).mono ?_; rintro e w1 ⟨rfl, rfl⟩))
    clear hl ra CAB CN hn
    refine (c_sin a0 hx _).mono ?_
    rintro e u1 ⟨s, rfl, Hs, Rs, B6⟩
    replace hb := bl_tr hb B6
    clear B6
    go_wp2_with fail
    refine (c_sin y hy _).mono ?_
    rintro e u2 ⟨t, rfl, Ht, Rt, B7⟩
    replace hb := bl_tr hb B7
    clear B7
    have hst := unhide HSS
    rw [← unhide Hs, ← unhide Ht] at hst
    clear HSS Hs Ht
    have hst2 : (t == Flt.negF s) = true ∨ ((t == Flt.negF s) = false ∧ (Flt.absF s == 0) = true ∧ (Flt.absF t == 0) = true) := by
      cases h : (t == Flt.negF s)
      · right
        rcases hst with g | ⟨g1, g2⟩
        · rw [g] at h; simp at h
        · exact ⟨rfl, by simp [g1], by simp [g2]⟩
      · left; rfl
    clear hst
    have CNS := hide (fun w => rneg_any s Rs.lo Rs.hi w)
    have CAS := hide (fun w => rabs_any s Rs.lo Rs.hi w)
    have CAT := hide (fun w => rabs_any t Rt.lo Rt.hi w)
    rcases hst2 with g | ⟨g, g1, g2⟩
    · go_wp2_with (first | (go_at_call 6; refine (unhide CNS _).mono ?_; rintro e w1 ⟨rfl, rfl⟩))
      refine (c_cos a0 hx _).mono ?_
      rintro e u3 ⟨c1, rfl, Hc1, Rc1, B8⟩
      replace hb := bl_tr hb B8
      clear B8
      go_wp2_with fail
      refine (c_cos y hy _).mono ?_
      rintro e u4 ⟨c2, rfl, Hc2, Rc2, B9⟩
      replace hb := bl_tr hb B9
      clear B9
      have ec : c1 = c2 := by rw [unhide Hc1, unhide Hc2, unhide HCC]
      subst ec
      clear Hc1 Hc2 HCC
      go_wp2_with fail
      go_ret
      exact ⟨rfl, hb⟩
    · go_wp2_with (first | (go_at_call 6; refine (unhide CNS _).mono ?_; rintro e w1 ⟨rfl, rfl⟩) | (go_at_call 12; first | (refine (unhide CAS _).mono ?_; rintro e w1 ⟨rfl, rfl⟩) | (refine (unhide CAT _).mono ?_; rintro e w1 ⟨rfl, rfl⟩)))
      refine (c_cos a0 hx _).mono ?_
      rintro e u3 ⟨c1, rfl, Hc1, Rc1, B8⟩
      replace hb := bl_tr hb B8
      clear B8
      go_wp2_with fail
      refine (c_cos y hy _).mono ?_
      rintro e u4 ⟨c2, rfl, Hc2, Rc2, B9⟩
      replace hb := bl_tr hb B9
      clear B9
      have ec : c1 = c2 := by rw [unhide Hc1, unhide Hc2, unhide HCC]
      subst ec
      clear Hc1 Hc2 HCC
      go_wp2_with fail
      go_ret
      exact ⟨rfl, hb⟩

theorem walk (a0 : Int) (w0 : (Lit.int .u32 a0).wf = true) (w : World) :
    Calls Try.prog 3 #[.int .u32 a0] w fun e w' => e = .returned (.bool true) ∧ Below w.heap.size w w' := by
  have hx : R a0 := by obtain ⟨p, q⟩ := wf_u32_iff w0; exact ⟨p, q⟩
  cases hn : Flt.isNaN a0
  · exact walk_num a0 hx hn w
  · exact walk_nan a0 hx hn w

set_option maxRecDepth 100000 in
theorem lifted (os : Os) (started : os.Started) (H : Type) (enc : TypeId × Value → H) :
    ReturnsInHanded {} Try.checked os 3 .any (Rows.elemTurnedSpec.pre6 enc Try.prog Try.f3 Rows.elemTurnedRow.domain false) (Rows.elemTurnedSpec.post enc Try.prog Try.f3 false true false false) := by
  refine returnsInHanded_of_change (C := Try.checked) own started (by kernel_rfl) Try.func3
    (ChangeSpec.witness6 (enc := enc) (C := Try.checked) false ⟨#[], #[.int .u32 0], []⟩ 8 (by kernel_rfl) (by kernel_rfl) (by kernel_rfl) (by kernel_rfl)) ?_
  intro W base args ds gs before hval0 hW hcnd _
  have hval : ∀ (j : Nat) t v, Try.f3.params[j]? = some t → args[j]? = some v → Value.okWide Try.prog W .any base t v := hval0
  have hW' := hW
  obtain ⟨p, q, hA0, hV, rfl, hfz, hnd⟩ := hW
  have hA : DataW.TrodAll enc Try.prog W 0 (fun _ => true) true Try.f3.params.toList args.toList ds p := hA0
  rw [Try.params3] at hA hval
  obtain ⟨v0, vs0, d0, ds0, p0, q0, hargs, rfl, rfl, h0, r0⟩ := trodAll_cons hA
  obtain ⟨rfl, rfl, rfl⟩ := trodAll_nil r0
  obtain rfl : args = #[v0] := by cases args; simp_all
  obtain ⟨rfl, rfl⟩ := trodVars_none hV
  obtain ⟨a0, rfl, rfl, rfl, w0⟩ := open_int Try.underlying22 (hval 0 22 v0 rfl rfl) h0
  clear hA0 hval0
  simp only [List.append_nil] at hW'
  refine (walk a0 w0 W).mono fun e W' ⟨he, bel⟩ => ?_
  subst he
  exact ⟨_, rfl, _, _, _, [], _, [], hW', trodAll_mk1 (shut_bool Try.underlying4 _), (trodAll_cons_mk (shut_int Try.underlying22 w0) trodAll_mk0), rfl, bel.frame _, fun h => by cases h⟩

theorem over : Rows.elemTurnedRow.holds Try.pinned (OpenSpec.ofChange Rows.elemTurnedSpec) :=
  OpenClaim.holds_of_wide 3 Try.f3 rfl rfl rfl rfl rfl rfl rfl ⟨rfl, rfl, rfl, rfl, rfl⟩ rfl rfl rfl rfl rfl (by kernel_rfl) Try.func3 (by kernel_rfl)
    (of_decide_eq_true (by kernel_rfl)) (by unfold Func.isWrapper; first | (rw [if_pos (by decide +kernel)]; kernel_rfl) | (rw [if_neg (by decide +kernel)]; exact ⟨rfl, rfl⟩))
    (fun os started H enc _ => lifted os started H enc)

theorem proved : Rows.ElemTurnedSaid :=
  over
#print axioms proved
end Go.Proofs.Ytkbniebahledmab.elemTurned
