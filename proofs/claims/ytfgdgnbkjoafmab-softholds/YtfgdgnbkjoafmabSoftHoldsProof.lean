/-
  SoftHolds holds: for every two floats, of sums, products and quotients, the result by Down is never greater than the nearest one, that never greater than the one by Up, and where the outer ones are unlike they are neighbours. No condition.
-/
import Derived.Test.YtfgdgnbkjoafmabRows
import Derived.WalkKit
import Derived.ProofKit
import Derived.OpenShut
import Derived.Below
import Derived.Test.YtfgdgnbkjoafmabWkG
namespace Go.Proofs.Ytfgdgnbkjoafmab.softHolds
open Go.ChangeShapes Go.WideShapes Go.ChangeAt Go.RowKit
set_option linter.unusedVariables false      -- a walk need not use every 'w<i>' (that an integer argument fits its kind)

theorem own : ownKnob Try.prog.godebug = none := by kernel_rfl

set_option maxRecDepth 100000 in
set_option maxHeartbeats 2000000 in
theorem walk (a0 : Int) (a1 : Int) (w0 : (Lit.int .u32 a0).wf = true) (w1 : (Lit.int .u32 a1).wf = true) (w : World) :
    Calls Try.prog 4 #[.int .u32 a0, .int .u32 a1] w fun e w' => e = .returned (.bool true) ∧ Below w.heap.size w w' := by
  obtain ⟨h0, h1⟩ := wf_u32_iff w0
  obtain ⟨g0, g1⟩ := wf_u32_iff w1
  have es := holdsB_sum a0 a1 h0 h1 g0 g1
  have em := holdsB_mul a0 a1 h0 g0
  have ed := holdsB_div a0 a1 h0 g0
  obtain ⟨s20, s21, _⟩ := Flt.addBy_good 2 a0 a1 h0 h1 g0 g1
  obtain ⟨s00, s01, _⟩ := Flt.addBy_good 0 a0 a1 h0 h1 g0 g1
  obtain ⟨s10, s11, _⟩ := Flt.addBy_good 1 a0 a1 h0 h1 g0 g1
  obtain ⟨m20, m21, _⟩ := Flt.mulBy_good 2 a0 a1 h0 g0
  obtain ⟨m00, m01, _⟩ := Flt.mulBy_good 0 a0 a1 h0 g0
  obtain ⟨m10, m11, _⟩ := Flt.mulBy_good 1 a0 a1 h0 g0
  obtain ⟨d20, d21, _⟩ := Flt.divBy_good 2 a0 a1 h0 g0
  obtain ⟨d00, d01, _⟩ := Flt.divBy_good 0 a0 a1 h0 g0
  obtain ⟨d10, d11, _⟩ := Flt.divBy_good 1 a0 a1 h0 g0
  go_enter Try.func4, Try.ntmps4
  go_wp2_with fail
  refine (awake_any _).mono ?_
  rintro e v1 ⟨rfl, hb1⟩
  go_wp2_with fail
  refine (addBy_any _ _ _ h0 h1 g0 g1 _).mono ?_
  rintro e v2 ⟨rfl, hb2⟩
  go_wp2_with fail
  refine (add_any _ _ h0 h1 g0 g1 _).mono ?_
  rintro e v3 ⟨rfl, hb3⟩
  go_wp2_with fail
  refine (addBy_any _ _ _ h0 h1 g0 g1 _).mono ?_
  rintro e v4 ⟨rfl, hb4⟩
  go_wp2_with fail
  refine (holds_any _ _ _ s20 s21 s00 s01 s10 s11 _).mono ?_
  rw [es]
  rintro e v5 ⟨rfl, rfl⟩
  go_wp2_with fail
  refine (mulBy_any _ _ _ h0 h1 g0 g1 _).mono ?_
  rintro e v6 ⟨rfl, hb6⟩
  go_wp2_with fail
  refine (mul_any _ _ h0 h1 g0 g1 _).mono ?_
  rintro e v7 ⟨rfl, hb7⟩
  go_wp2_with fail
  refine (mulBy_any _ _ _ h0 h1 g0 g1 _).mono ?_
  rintro e v8 ⟨rfl, hb8⟩
  go_wp2_with fail
  refine (holds_any _ _ _ m20 m21 m00 m01 m10 m11 _).mono ?_
  rw [em]
  rintro e v9 ⟨rfl, rfl⟩
  go_wp2_with fail
  refine (divBy_any _ _ _ h0 h1 g0 g1 _).mono ?_
  rintro e v10 ⟨rfl, hb10⟩
  go_wp2_with fail
  refine (div_any _ _ h0 h1 g0 g1 _).mono ?_
  rintro e v11 ⟨rfl, hb11⟩
  go_wp2_with fail
  refine (divBy_any _ _ _ h0 h1 g0 g1 _).mono ?_
  rintro e v12 ⟨rfl, hb12⟩
  go_wp2_with fail
  refine (holds_any _ _ _ d20 d21 d00 d01 d10 d11 _).mono ?_
  rw [ed]
  rintro e v13 ⟨rfl, rfl⟩
  go_wp2_with fail
  go_ret
  exact ⟨rfl, bl_tr (bl_tr (bl_tr (bl_tr (bl_tr (bl_tr (bl_tr (bl_tr (bl_tr hb1 hb2) hb3) hb4) hb6) hb7) hb8) hb10) hb11) hb12⟩

set_option maxRecDepth 100000 in
theorem lifted (os : Os) (started : os.Started) (H : Type) (enc : TypeId × Value → H) :
    ReturnsInHanded {} Try.checked os 4 .any (Rows.softHoldsSpec.pre6 enc Try.prog Try.f4 Rows.softHoldsRow.domain false) (Rows.softHoldsSpec.post enc Try.prog Try.f4 false true false false) := by
  refine returnsInHanded_of_change (C := Try.checked) own started (by kernel_rfl) Try.func4
    (ChangeSpec.witness6 (enc := enc) (C := Try.checked) false ⟨#[], #[.int .u32 0, .int .u32 0], []⟩ 8 (by kernel_rfl) (by kernel_rfl) (by kernel_rfl) (by kernel_rfl)) ?_
  intro W base args ds gs before hval0 hW hcnd _
  have hval : ∀ (j : Nat) t v, Try.f4.params[j]? = some t → args[j]? = some v → Value.okWide Try.prog W .any base t v := hval0
  have hW' := hW
  obtain ⟨p, q, hA0, hV, rfl, hfz, hnd⟩ := hW
  have hA : DataW.TrodAll enc Try.prog W 0 (fun _ => true) true Try.f4.params.toList args.toList ds p := hA0
  rw [Try.params4] at hA hval
  obtain ⟨v0, vs0, d0, ds0, p0, q0, hargs, rfl, rfl, h0, r0⟩ := trodAll_cons hA
  obtain ⟨v1, vs1, d1, ds1, p1, q1, rfl, rfl, rfl, h1, r1⟩ := trodAll_cons r0
  obtain ⟨rfl, rfl, rfl⟩ := trodAll_nil r1
  obtain rfl : args = #[v0, v1] := by cases args; simp_all
  obtain ⟨rfl, rfl⟩ := trodVars_none hV
  obtain ⟨a0, rfl, rfl, rfl, w0⟩ := open_int Try.underlying22 (hval 0 22 v0 rfl rfl) h0
  obtain ⟨a1, rfl, rfl, rfl, w1⟩ := open_int Try.underlying22 (hval 1 22 v1 rfl rfl) h1
  clear hA0 hval0
  simp only [List.append_nil] at hW'
  refine (walk a0 a1 w0 w1 W).mono fun e W' ⟨he, bel⟩ => ?_
  subst he
  exact ⟨_, rfl, _, _, _, [], _, [], hW', trodAll_mk1 (shut_bool Try.underlying4 _), (trodAll_cons_mk (shut_int Try.underlying22 w0) (trodAll_cons_mk (shut_int Try.underlying22 w1) trodAll_mk0)), rfl, bel.frame _, fun h => by cases h⟩

theorem over : Rows.softHoldsRow.holds Try.pinned (OpenSpec.ofChange Rows.softHoldsSpec) :=
  OpenClaim.holds_of_wide 4 Try.f4 rfl rfl rfl rfl rfl rfl rfl ⟨rfl, rfl, rfl, rfl, rfl⟩ rfl rfl rfl rfl rfl (by kernel_rfl) Try.func4 (by kernel_rfl)
    (of_decide_eq_true (by kernel_rfl)) (by unfold Func.isWrapper; first | (rw [if_pos (by decide +kernel)]; kernel_rfl) | (rw [if_neg (by decide +kernel)]; exact ⟨rfl, rfl⟩))
    (fun os started H enc _ => lifted os started H enc)

theorem proved : Rows.SoftHoldsSaid :=
  over
#print axioms proved
end Go.Proofs.Ytfgdgnbkjoafmab.softHolds
