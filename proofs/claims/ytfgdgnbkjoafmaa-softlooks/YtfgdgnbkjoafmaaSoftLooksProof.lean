/-
  SoftLooks holds: for every two floats, looks (Canon, NaN, Inf, Neg, Abs) and comparisons (Less, Equal, Min, Max) of package soft are the document's. No condition.
-/
import Derived.Test.YtfgdgnbkjoafmaaRows
import Derived.WalkKit
import Derived.ProofKit
import Derived.OpenShut
import Derived.Below
import Derived.Test.YtfgdgnbkjoafmaaWkL
namespace Go.Proofs.Ytfgdgnbkjoafmaa.softLooks
open Go.ChangeShapes Go.WideShapes Go.ChangeAt Go.RowKit
set_option linter.unusedVariables false      -- a walk need not use every 'w<i>' (that an integer argument fits its kind)

theorem own : ownKnob Try.prog.godebug = none := by kernel_rfl

theorem less_cmp (a b : Int) : Flt.lessF a b = ((!Flt.isNaN a && !Flt.isNaN b) && decide (cmpR a b < 0)) := by
  unfold Flt.lessF cmpR cmpF
  cases Flt.isNaN a <;> cases Flt.isNaN b <;> simp
  (repeat' split) <;> omega
theorem equal_cmp (a b : Int) : Flt.equalF a b = ((!Flt.isNaN a && !Flt.isNaN b) && (cmpR a b == 0)) := by
  unfold Flt.equalF cmpR cmpF
  cases Flt.isNaN a <;> cases Flt.isNaN b <;> simp
  rw [Bool.eq_iff_iff]; simp
  (repeat' split) <;> omega
set_option maxRecDepth 100000 in
set_option maxHeartbeats 2000000 in
theorem walk (a0 : Int) (a1 : Int) (w0 : (Lit.int .u32 a0).wf = true) (w1 : (Lit.int .u32 a1).wf = true) (w : World) :
    Calls Try.prog 8 #[.int .u32 a0, .int .u32 a1] w fun e w' => e = .returned (.bool true) ∧ Below w.heap.size w w' := by
  obtain ⟨h0, h1⟩ := wf_u32_iff w0
  obtain ⟨g0, g1⟩ := wf_u32_iff w1
  have ra : 0 ≤ Flt.absF a0 ∧ Flt.absF a0 < 2147483648 := by unfold Flt.absF; omega
  obtain ⟨ra0, ra1⟩ := ra
  have ei : Flt.isInf a0 = (Flt.absF a0 == 2139095040) := by unfold Flt.isInf Flt.absF; rw [Bool.eq_iff_iff]; simp
  have el : Flt.lessF a0 a1 = ((!Flt.isNaN a0 && !Flt.isNaN a1) && decide (cmpR a0 a1 < 0)) := less_cmp a0 a1
  have ee : Flt.equalF a0 a1 = ((!Flt.isNaN a0 && !Flt.isNaN a1) && (cmpR a0 a1 == 0)) := equal_cmp a0 a1
  cases hn : Flt.isNaN a0 <;> cases hm : Flt.isNaN a1
  all_goals rw [hn, hm] at el ee
  all_goals simp only [Bool.not_false, Bool.not_true, Bool.and_true, Bool.and_false, Bool.false_and, Bool.true_and, Bool.and_self] at el ee
  all_goals
    go_enter Try.func8, Try.ntmps8
    go_wp2_with fail
    refine (awake_any _).mono ?_
    rintro e w2 ⟨rfl, hb1⟩
    go_wp2_with (first | (go_at_call 26; refine (canon_any _ h0 h1 _).mono ?_; rintro e w' ⟨rfl, rfl⟩) | (go_at_call 27; refine (rcanon_any _ h0 h1 _).mono ?_; rintro e w' ⟨rfl, rfl⟩) | (go_at_call 28; refine (nan_any _ h0 h1 _).mono ?_; rintro e w' ⟨rfl, rfl⟩) | (go_at_call 29; refine (risNone_any _ h0 h1 _).mono ?_; rintro e w' ⟨rfl, rfl⟩) | (go_at_call 30; refine (inf_any _ h0 h1 _).mono ?_; rintro e w' ⟨rfl, rfl⟩) | (go_at_call 31; refine (rabs_any _ h0 h1 _).mono ?_; rintro e w' ⟨rfl, rfl⟩) | (go_at_call 34; refine (abs_any _ h0 h1 _).mono ?_; rintro e w' ⟨rfl, rfl⟩) | (go_at_call 32; refine (neg_any _ h0 h1 _).mono ?_; rintro e w' ⟨rfl, rfl⟩) | (go_at_call 33; refine (rneg_any _ h0 h1 _).mono ?_; rintro e w' ⟨rfl, rfl⟩) | (go_at_call 35; refine (rcompared_any _ _ h0 h1 g0 g1 _).mono ?_; rintro e w' ⟨rfl, rfl⟩) | (go_at_call 36; refine (less_any _ _ h0 h1 g0 g1 _).mono ?_; rintro e w' ⟨rfl, rfl⟩) | (go_at_call 37; refine (equal_any _ _ h0 h1 g0 g1 _).mono ?_; rintro e w' ⟨rfl, rfl⟩) | (go_at_call 38; refine (min_any _ _ h0 h1 g0 g1 _).mono ?_; rintro e w' ⟨rfl, rfl⟩) | (go_at_call 40; refine (max_any _ _ h0 h1 g0 g1 _).mono ?_; rintro e w' ⟨rfl, rfl⟩) | (go_at_call 39; refine (rmin_any _ _ h0 h1 g0 g1 _).mono ?_; rintro e w' ⟨rfl, rfl⟩) | (go_at_call 41; refine (rmax_any _ _ h0 h1 g0 g1 _).mono ?_; rintro e w' ⟨rfl, rfl⟩))
    go_ret
    exact ⟨rfl, hb1⟩

set_option maxRecDepth 100000 in
theorem lifted (os : Os) (started : os.Started) (H : Type) (enc : TypeId × Value → H) :
    ReturnsInHanded {} Try.checked os 8 .any (Rows.softLooksSpec.pre6 enc Try.prog Try.f8 Rows.softLooksRow.domain false) (Rows.softLooksSpec.post enc Try.prog Try.f8 false true false false) := by
  refine returnsInHanded_of_change (C := Try.checked) own started (by kernel_rfl) Try.func8
    (ChangeSpec.witness6 (enc := enc) (C := Try.checked) false ⟨#[], #[.int .u32 0, .int .u32 0], []⟩ 8 (by kernel_rfl) (by kernel_rfl) (by kernel_rfl) (by kernel_rfl)) ?_
  intro W base args ds gs before hval0 hW hcnd _
  have hval : ∀ (j : Nat) t v, Try.f8.params[j]? = some t → args[j]? = some v → Value.okWide Try.prog W .any base t v := hval0
  have hW' := hW
  obtain ⟨p, q, hA0, hV, rfl, hfz, hnd⟩ := hW
  have hA : DataW.TrodAll enc Try.prog W 0 (fun _ => true) true Try.f8.params.toList args.toList ds p := hA0
  rw [Try.params8] at hA hval
  obtain ⟨v0, vs0, d0, ds0, p0, q0, hargs, rfl, rfl, h0, r0⟩ := trodAll_cons hA
  obtain ⟨v1, vs1, d1, ds1, p1, q1, rfl, rfl, rfl, h1, r1⟩ := trodAll_cons r0
  obtain ⟨rfl, rfl, rfl⟩ := trodAll_nil r1
  obtain rfl : args = #[v0, v1] := by cases args; simp_all
  obtain ⟨rfl, rfl⟩ := trodVars_none hV
  obtain ⟨a0, rfl, rfl, rfl, w0⟩ := open_int Try.underlying24 (hval 0 24 v0 rfl rfl) h0
  obtain ⟨a1, rfl, rfl, rfl, w1⟩ := open_int Try.underlying24 (hval 1 24 v1 rfl rfl) h1
  clear hA0 hval0
  simp only [List.append_nil] at hW'
  refine (walk a0 a1 w0 w1 W).mono fun e W' ⟨he, bel⟩ => ?_
  subst he
  exact ⟨_, rfl, _, _, _, [], _, [], hW', trodAll_mk1 (shut_bool Try.underlying4 _), (trodAll_cons_mk (shut_int Try.underlying24 w0) (trodAll_cons_mk (shut_int Try.underlying24 w1) trodAll_mk0)), rfl, bel.frame _, fun h => by cases h⟩

theorem over : Rows.softLooksRow.holds Try.pinned (OpenSpec.ofChange Rows.softLooksSpec) :=
  OpenClaim.holds_of_wide 8 Try.f8 rfl rfl rfl rfl rfl rfl rfl ⟨rfl, rfl, rfl, rfl, rfl⟩ rfl rfl rfl rfl rfl (by kernel_rfl) Try.func8 (by kernel_rfl)
    (of_decide_eq_true (by kernel_rfl)) (by unfold Func.isWrapper; first | (rw [if_pos (by decide +kernel)]; kernel_rfl) | (rw [if_neg (by decide +kernel)]; exact ⟨rfl, rfl⟩))
    (fun os started H enc _ => lifted os started H enc)

theorem proved : Rows.SoftLooksSaid :=
  over
#print axioms proved
end Go.Proofs.Ytfgdgnbkjoafmaa.softLooks
