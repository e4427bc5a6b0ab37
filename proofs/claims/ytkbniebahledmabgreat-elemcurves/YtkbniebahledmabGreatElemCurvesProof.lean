/-
  ElemCurves holds: for every float, Tanh, Erf, Sigmoid and Softplus of package elem are, bit for bit, the fixed rows of steps that the document names. No condition.
-/
import Derived.Test.YtkbniebahledmabGreatRows
import Derived.WalkKit
import Derived.ProofKit
import Derived.OpenShut
import Derived.Below
import Derived.Test.YtkbniebahledmabGreatGM
import Derived.Test.YtkbniebahledmabGreatGO
namespace Go.Proofs.YtkbniebahledmabGreat.elemCurves
open Go.ChangeShapes Go.WideShapes Go.ChangeAt Go.RowKit
set_option linter.unusedVariables false      -- a walk need not use every 'w<i>' (that an integer argument fits its kind)

theorem own : ownKnob Tryz.prog.godebug = none := by kernel_rfl

set_option maxRecDepth 100000 in
set_option maxHeartbeats 4000000 in
theorem walk (a0 : Int) (w0 : (Lit.int .u32 a0).wf = true) (w : World) :
    Calls Tryz.prog 3 #[.int .u32 a0] w fun e w' => e = .returned (.bool true) ∧ Below w.heap.size w w' := by
  have hx0 : R a0 := by obtain ⟨p, q⟩ := wf_u32_iff w0; exact ⟨p, q⟩
  have hb := Below.refl w.heap.size w
  go_enter Tryz.func3, Tryz.ntmps3
  go_wp2_with fail
  refine (awake3_any _).mono ?_
  rintro e v0 ⟨rfl, B0⟩
  replace hb := bl_tr hb B0
  clear B0
  go_wp2_with fail
  refine (c_tanh a0 hx0 _).mono ?_
  rintro e v0a ⟨k0, rfl, H0, R0, B0⟩
  replace hb := bl_tr hb B0
  clear B0
  go_wp2_with fail
  refine (r_tanh a0 hx0 _).mono ?_
  rintro e v0b ⟨l0, rfl, G0, S0, C0⟩
  replace hb := bl_tr hb C0
  have e0 : l0 = k0 := (unhide G0).trans (unhide H0).symm
  subst e0
  clear C0 H0 G0 S0
  go_wp2_with fail
  refine (c_erf a0 hx0 _).mono ?_
  rintro e v1a ⟨k1, rfl, H1, R1, B1⟩
  replace hb := bl_tr hb B1
  clear B1
  go_wp2_with fail
  refine (r_erf a0 hx0 _).mono ?_
  rintro e v1b ⟨l1, rfl, G1, S1, C1⟩
  replace hb := bl_tr hb C1
  have e1 : l1 = k1 := (unhide G1).trans (unhide H1).symm
  subst e1
  clear C1 H1 G1 S1
  go_wp2_with fail
  refine (c_sig a0 hx0 _).mono ?_
  rintro e v2a ⟨k2, rfl, H2, R2, B2⟩
  replace hb := bl_tr hb B2
  clear B2
  go_wp2_with fail
  refine (r_sig a0 hx0 _).mono ?_
  rintro e v2b ⟨l2, rfl, G2, S2, C2⟩
  replace hb := bl_tr hb C2
  have e2 : l2 = k2 := (unhide G2).trans (unhide H2).symm
  subst e2
  clear C2 H2 G2 S2
  go_wp2_with fail
  refine (c_plus a0 hx0 _).mono ?_
  rintro e v3a ⟨k3, rfl, H3, R3, B3⟩
  replace hb := bl_tr hb B3
  clear B3
  go_wp2_with fail
  refine (r_plus a0 hx0 _).mono ?_
  rintro e v3b ⟨l3, rfl, G3, S3, C3⟩
  replace hb := bl_tr hb C3
  have e3 : l3 = k3 := (unhide G3).trans (unhide H3).symm
  subst e3
  clear C3 H3 G3 S3
  go_wp2_with fail
  go_ret
  exact ⟨rfl, hb⟩

set_option maxRecDepth 100000 in
theorem lifted (os : Os) (started : os.Started) (H : Type) (enc : TypeId × Value → H) :
    ReturnsInHanded {} Tryz.checked os 3 .any (Rows.elemCurvesSpec.pre6 enc Tryz.prog Tryz.f3 Rows.elemCurvesRow.domain false) (Rows.elemCurvesSpec.post enc Tryz.prog Tryz.f3 false true false false) := by
  refine returnsInHanded_of_change (C := Tryz.checked) own started (by kernel_rfl) Tryz.func3
    (ChangeSpec.witness6 (enc := enc) (C := Tryz.checked) false ⟨#[], #[.int .u32 0], []⟩ 8 (by kernel_rfl) (by kernel_rfl) (by kernel_rfl) (by kernel_rfl)) ?_
  intro W base args ds gs before hval0 hW hcnd _
  have hval : ∀ (j : Nat) t v, Tryz.f3.params[j]? = some t → args[j]? = some v → Value.okWide Tryz.prog W .any base t v := hval0
  have hW' := hW
  obtain ⟨p, q, hA0, hV, rfl, hfz, hnd⟩ := hW
  have hA : DataW.TrodAll enc Tryz.prog W 0 (fun _ => true) true Tryz.f3.params.toList args.toList ds p := hA0
  rw [Tryz.params3] at hA hval
  obtain ⟨v0, vs0, d0, ds0, p0, q0, hargs, rfl, rfl, h0, r0⟩ := trodAll_cons hA
  obtain ⟨rfl, rfl, rfl⟩ := trodAll_nil r0
  obtain rfl : args = #[v0] := by cases args; simp_all
  obtain ⟨rfl, rfl⟩ := trodVars_none hV
  obtain ⟨a0, rfl, rfl, rfl, w0⟩ := open_int Tryz.underlying22 (hval 0 22 v0 rfl rfl) h0
  clear hA0 hval0
  simp only [List.append_nil] at hW'
  refine (walk a0 w0 W).mono fun e W' ⟨he, bel⟩ => ?_
  subst he
  exact ⟨_, rfl, _, _, _, [], _, [], hW', trodAll_mk1 (shut_bool Tryz.underlying4 _), (trodAll_cons_mk (shut_int Tryz.underlying22 w0) trodAll_mk0), rfl, bel.frame _, fun h => by cases h⟩

theorem over : Rows.elemCurvesRow.holds Tryz.pinned (OpenSpec.ofChange Rows.elemCurvesSpec) :=
  OpenClaim.holds_of_wide 3 Tryz.f3 rfl rfl rfl rfl rfl rfl rfl ⟨rfl, rfl, rfl, rfl, rfl⟩ rfl rfl rfl rfl rfl (by kernel_rfl) Tryz.func3 (by kernel_rfl)
    (of_decide_eq_true (by kernel_rfl)) (by unfold Func.isWrapper; first | (rw [if_pos (by decide +kernel)]; kernel_rfl) | (rw [if_neg (by decide +kernel)]; exact ⟨rfl, rfl⟩))
    (fun os started H enc _ => lifted os started H enc)

theorem proved : Rows.ElemCurvesSaid :=
  over
#print axioms proved
end Go.Proofs.YtkbniebahledmabGreat.elemCurves
