import Derived.Test.YtmdlaahdgjegcaaGreatRows
import Derived.WalkKit
import Derived.ProofKit
import Derived.OpenShut
import Derived.Below
import Derived.Carry
import Derived.SizedLaws
import Derived.Test.YtmdlaahdgjegcaaGreatV51
import Derived.Test.YtmdlaahdgjegcaaGreatV52

/- For all models: whether a model may be written, and the bytes that are written of it, or why there are none, are what the document says; no condition. -/
namespace Go.Proofs.YtmdlaahdgjegcaaGreat.onnxEncodes
open Go.ChangeShapes Go.WideShapes Go.ChangeAt Go.RowKit
set_option linter.unusedVariables false

theorem own : ownKnob Tryz.prog.godebug = none := by kernel_rfl
theorem laidOut : laidOutB Tryz.prog = true := by kernel_rfl

set_option maxRecDepth 100000 in
set_option maxHeartbeats 4000000 in
/-- The statement's call returns true, whatever came in. -/
theorem walk (M0 : MoA) (W : World) (s0 : MoIn W.heap.size W M0) (u0 : MoLt M0) :
    Calls Tryz.prog 4 #[moV M0] W fun e W' => e = .returned (.bool true) ∧ Below W.heap.size W W' := by
  have ho := mo_ok7 s0
  have CE := hide (fun v (hv : Below W.heap.size W v) => cencode_any M0 v (s0.below hv) u0 hv.size)
  have CK := hide (fun v (hv : Below W.heap.size W v) => ccheck_any M0 v (s0.below hv) u0)
  have RE := hide (fun v (hv : Below W.heap.size W v) => rencode_any M0 v (s0.below hv) u0 hv.size)
  have RK := hide (fun v (hv : Below W.heap.size W v) => rcheck7_any M0 v (s0.below hv) hv.size u0)
  have HB : Hid (isB (encodeV M0.d).1) := hide (by
    by_cases h0 : (encodeV M0.d).2 = 0
    · exact enc_isB ho h0
    · rw [(enc_no h0).1]; intro x hx; cases hx)
  generalize (encodeV M0.d).1 = R at CE RE HB
  generalize (encodeV M0.d).2 = E at CE RE
  generalize checkM M0.d = K at CK RK
  clear s0 u0 ho
  obtain ⟨aops, anm, anodes, aqn, acn, ainits, aqi, aci, ainp, aqp, acp, aout, aqo, aco⟩ := M0
  simp only [moV, moCells, strV] at CE CK RE RK ⊢
  go_enter Tryz.func4, Tryz.ntmps4
  go_wp2_with fail
  refine (awake7_any _).mono ?_
  rintro e w1 ⟨rfl, hb⟩
  have X0 := hide (Box.below (Box.new W #[.int .i64 aops, .string (strOfNums anm), .slice aqn anodes.length acn, .slice aqi ainits.length aci, .slice aqp ainp.length acp, .slice aqo aout.length aco] 29) hb)
  have B := hide (bl_tr (al1p _ _) hb)
  have x0 := (uh X0).cell
  clear hb
  go_wp2_with fail
  refine (uh RE _ (uh B)).mono ?_
  rintro e w2 ⟨v2, rfl, hO⟩
  obtain ⟨q2, d2, hq2, hL2, _⟩ := hO.form
  subst hq2
  have I2 := hide (hL2.ints (isB_wf (uh HB)))
  replace X0 := hide ((uh X0).below hO.2)
  replace B := hide (bl_tr (uh B) hO.2)
  clear hO hL2 x0
  have x0 := (uh X0).cell
  go_wp2_with fail
  refine (uh CK _ (uh B)).mono ?_
  rintro e w3 ⟨rfl, hb⟩
  replace X0 := hide ((uh X0).below hb)
  replace I2 := hide ((uh I2).below hb)
  replace B := hide (bl_tr (uh B) hb)
  clear hb CK x0
  have x0 := (uh X0).cell
  go_wp2_with fail
  refine (uh CE _ (uh B)).mono ?_
  rintro e w4 ⟨v4, rfl, hO⟩
  obtain ⟨q4, d4, hq4, hL4, _⟩ := hO.form
  subst hq4
  have I4 := hide (hL4.ints (isB_wf (uh HB)))
  replace I2 := hide ((uh I2).below hO.2)
  replace X0 := hide ((uh X0).below hO.2)
  replace B := hide (bl_tr (uh B) hO.2)
  clear hO hL4 x0 CE
  have x0 := (uh X0).cell
  go_wp2_with fail
  refine (uh RE _ (uh B)).mono ?_
  rintro e w5 ⟨v5, rfl, hO⟩
  obtain ⟨q5, d5, hq5, hL5, _⟩ := hO.form
  subst hq5
  have I5 := hide (hL5.ints (isB_wf (uh HB)))
  replace I2 := hide ((uh I2).below hO.2)
  replace I4 := hide ((uh I4).below hO.2)
  replace X0 := hide ((uh X0).below hO.2)
  replace B := hide (bl_tr (uh B) hO.2)
  clear hO hL5 x0 RE
  have x0 := (uh X0).cell
  go_wp2_with fail
  refine (uh RK _ (uh B)).mono ?_
  rintro e w6 ⟨rfl, hb⟩
  replace I2 := hide ((uh I2).below hb)
  replace I4 := hide ((uh I4).below hb)
  replace I5 := hide ((uh I5).below hb)
  replace B := hide (bl_tr (uh B) hb)
  clear hb RK x0 X0
  have S1 := hide (rsameb_any q4 q5 d4 d5 R R w6 (uh I4) (uh I5))
  have S2 := hide (fun v (hv : Below w6.heap.size w6 v) => rsameb_any q2 q5 d2 d5 R R v ((uh I2).below hv) ((uh I5).below hv))
  rw [decide_eq_true rfl] at S1 S2
  clear I2 I4 I5
  go_wp2_with fail
  refine (uh S1).mono ?_
  rintro e w7 ⟨rfl, hb⟩
  have B7 := hide hb
  clear hb S1
  go_wp2_with fail
  refine (uh S2 _ (uh B7)).mono ?_
  rintro e w8 ⟨rfl, hb⟩
  replace B := hide (bl_tr (uh B) (bl_tr (uh B7) hb))
  clear hb S2 B7
  go_wp2_with fail
  go_ret
  exact ⟨rfl, uh B⟩

set_option maxRecDepth 100000 in
theorem contract (H : Type) (enc : TypeId × Value → H) (W : World) (base : Nat) (args : Array Value) (ds gs : List (DataW H)) (before : List MemPlace)
    (hval0 : ∀ (j : Nat) t v, Tryz.f4.params[j]? = some t → args[j]? = some v → Value.okWide Tryz.prog W .any base t v)
    (hW : DataW.Whole enc Tryz.prog Tryz.f4.params.toList Rows.onnxEncodesSpec.vars false W args.toList ds gs before) (hsz0 : (DataW.weightsEach Tryz.prog (Tryz.f4.params.toList ++ Rows.onnxEncodesSpec.plain.varTypes Tryz.prog) (ds ++ gs)).all (· ≤ reachBytes) = true) :
    Calls Tryz.prog 4 args W fun e W' => ∃ v, e = .returned v ∧ Rows.onnxEncodesSpec.post enc Tryz.prog Tryz.f4 false true false false W args v W' := by
  have hval : ∀ (j : Nat) t v, Tryz.f4.params[j]? = some t → args[j]? = some v → Value.okWide Tryz.prog W .any base t v := hval0
  have hW' := hW
  obtain ⟨p, q, hA0, hV, rfl, hfz, hnd⟩ := hW
  have hA : DataW.TrodAll enc Tryz.prog W 0 (fun _ => true) true Tryz.f4.params.toList args.toList ds p := hA0
  have hsz : (DataW.weightsEach Tryz.prog (Tryz.f4.params.toList ++ Rows.onnxEncodesSpec.plain.varTypes Tryz.prog) (ds ++ gs)).all (· ≤ reachBytes) = true := hsz0
  clear hsz0
  rw [Tryz.params4] at hA hval hsz
  obtain ⟨v0, vs0, d0, ds0, pl0, q0, hargs, rfl, rfl, h0, r0⟩ := trodAll_cons hA
  obtain ⟨rfl, rfl, rfl⟩ := trodAll_nil r0
  obtain rfl : args = #[v0] := by cases args; simp_all
  obtain ⟨rfl, rfl⟩ := trodVars_none hV
  have h0k := h0
  obtain ⟨M0, rfl, s0, g0⟩ := mo_open (hval 0 29 v0 rfl rfl) h0
  have hlt0 : ∀ y ∈ pl0, y.block < W.heap.size := fun y hy => hW'.lt y (by simp [hy])
  have u0 : MoLt M0 := g0 (fun m hm => by have h9 := List.all_eq_true.1 hsz m (DataW.weights_mem_each (j := 0) rfl rfl m hm); simpa using h9)
  clear hA0 hval0
  simp only [List.append_nil] at hW'
  refine (walk M0 W s0 u0).mono fun e W' ⟨he, bel⟩ => ?_
  subst he
  exact ⟨_, rfl, _, _, _, [], _, [], hW', trodAll_mk1 (shut_bool Tryz.underlying4 _), (trodAll_cons_mk (Below.trod laidOut (by kernel_rfl) (of_decide_eq_true (by kernel_rfl)) h0k bel hlt0) trodAll_mk0), rfl, bel.frame _, fun h => by cases h⟩

set_option maxRecDepth 100000 in
theorem lifted (os : Os) (started : os.Started) (H : Type) (enc : TypeId × Value → H) :
    ReturnsInHanded {} Tryz.checked os 4 .any (Rows.onnxEncodesSpec.pre6 enc Tryz.prog Tryz.f4 Rows.onnxEncodesRow.domain false) (Rows.onnxEncodesSpec.post enc Tryz.prog Tryz.f4 false true false false) := by
  refine returnsInHanded_of_change_sized (C := Tryz.checked) own started (by kernel_rfl) Tryz.func4
    (ChangeSpec.witness6 (enc := enc) (C := Tryz.checked) false ⟨#[], #[.agg #[.int .i64 0, .string { data := #[] }, .slice none 0 0, .slice none 0 0, .slice none 0 0, .slice none 0 0]], []⟩ 8 (by kernel_rfl) (by kernel_rfl) (by kernel_rfl) (by kernel_rfl)) ?_
  intro W base args ds gs before hval hW hcnd hsz _
  exact contract H enc W base args ds gs before hval hW hsz

theorem proved : Rows.OnnxEncodesSaid :=
  OpenClaim.holds_of_wide 4 Tryz.f4 rfl rfl rfl rfl rfl rfl rfl ⟨rfl, rfl, rfl, rfl, rfl⟩ rfl rfl rfl rfl rfl (by kernel_rfl) Tryz.func4 (by kernel_rfl)
    (of_decide_eq_true (by kernel_rfl)) (by unfold Func.isWrapper; first | (rw [if_pos (by decide +kernel)]; kernel_rfl) | (rw [if_neg (by decide +kernel)]; exact ⟨rfl, rfl⟩))
    (fun os started H enc _ => lifted os started H enc)
#print axioms proved
end Go.Proofs.YtmdlaahdgjegcaaGreat.onnxEncodes
