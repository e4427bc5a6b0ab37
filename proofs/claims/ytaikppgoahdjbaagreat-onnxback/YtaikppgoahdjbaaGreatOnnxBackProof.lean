import Derived.Test.YtaikppgoahdjbaaGreatRows
import Derived.WalkKit
import Derived.ProofKit
import Derived.OpenShut
import Derived.Below
import Derived.Carry
import Derived.SizedLaws
import Derived.Test.YtaikppgoahdjbaaGreatV52
import Derived.Test.YtaikppgoahdjbaaGreatV15

/- For all models: what the code writes it reads as the same model, and what it does not write is told alike by Check, or is too long; no condition. -/
namespace Go.Proofs.YtaikppgoahdjbaaGreat.onnxBack
open Go.ChangeShapes Go.WideShapes Go.ChangeAt Go.RowKit
set_option linter.unusedVariables false

theorem own : ownKnob Tryz.prog.godebug = none := by kernel_rfl
theorem laidOut : laidOutB Tryz.prog = true := by kernel_rfl

set_option maxRecDepth 100000 in
set_option maxHeartbeats 4000000 in
/-- The statement's call returns true, whatever came in. -/
theorem walk (M0 : MoA) (W : World) (s0 : MoIn W.heap.size W M0) (u0 : MoLt M0) :
    Calls Tryz.prog 6 #[moV M0] W fun e W' => e = .returned (.bool true) ∧ Below W.heap.size W W' := by
  have ho := mo_ok7 s0
  have CE := hide (fun v (hv : Below W.heap.size W v) => cencode_any M0 v (s0.below hv) u0 hv.size)
  have CK := hide (fun v (hv : Below W.heap.size W v) => ccheck_any M0 v (s0.below hv) u0)
  by_cases h0 : (encodeV M0.d).2 = 0
  · have hk := enc_chk h0
    have hb7 := back7 ho h0
    have hB := enc_isB ho h0
    have hd := dec_of hB hb7
    have CD : Hid (∀ p c v, Ints .u8 v p c (encodeV M0.d).1 → Calls Tryz.prog 11 #[.slice p (encodeV M0.d).1.length c] v fun e w' => ∃ x : MoA, e = .returned (.tuple #[moV x, .int .i64 0]) ∧ Hid (M0.d = x.d ∧ MoIn 0 w' x ∧ Below v.heap.size v w')) := hide (fun p c v h => by
      have k := cdecode_any p c _ v h
      rw [hd] at k
      refine k.mono fun e u hh => ?_
      obtain ⟨x, he, hh⟩ := hh
      obtain ⟨⟨_, g1⟩, g2, g3⟩ := uh hh
      exact ⟨x, he, hide ⟨by rw [g1 rfl, hb7], g2, g3⟩⟩)
    rw [h0] at CE
    rw [hk] at CK
    have HB := hide hB
    clear hk hb7 hB hd h0
    generalize (encodeV M0.d).1 = R at CE CD HB
    have SM := hide (fun (y : MoA) v (hv : Below W.heap.size W v) (hy : MoIn 0 v y) (he : M0.d = y.d) => rmodel_true M0 y v (s0.below hv) hy he)
    generalize M0.d = D at CD SM
    clear s0 u0 ho
    obtain ⟨aops, anm, anodes, aqn, acn, ainits, aqi, aci, ainp, aqp, acp, aout, aqo, aco⟩ := M0
    simp only [moV, moCells, strV] at CE CK SM ⊢
    go_enter Tryz.func6, Tryz.ntmps6
    go_wp2_with fail
    refine (awake7_any _).mono ?_
    rintro e w1 ⟨rfl, hb⟩
    have X0 := hide (Box.below (Box.new W #[.int .i64 aops, .string (strOfNums anm), .slice aqn anodes.length acn, .slice aqi ainits.length aci, .slice aqp ainp.length acp, .slice aqo aout.length aco] 29) hb)
    have B := hide (bl_tr (al1p _ _) hb)
    have x0 := (uh X0).cell
    clear hb
    go_wp2_with fail
    refine (uh CE _ (uh B)).mono ?_
    rintro e w2 ⟨v2, rfl, hO⟩
    obtain ⟨q2, d2, hq2, hL2, _⟩ := hO.form
    subst hq2
    have I2 := hide (hL2.ints (isB_wf (uh HB)))
    replace X0 := hide ((uh X0).below hO.2)
    replace B := hide (bl_tr (uh B) hO.2)
    clear hO hL2 CE x0
    have x0 := (uh X0).cell
    go_wp2_with fail
    refine (uh CK _ (uh B)).mono ?_
    rintro e w3 ⟨rfl, hb⟩
    replace X0 := hide ((uh X0).below hb)
    replace I2 := hide ((uh I2).below hb)
    replace B := hide (bl_tr (uh B) hb)
    clear hb CK x0
    go_wp2_with fail
    refine (uh CD _ _ _ (uh I2)).mono ?_
    rintro e w4 ⟨y, rfl, hq⟩
    obtain ⟨g1, g2, g3⟩ := uh hq
    replace X0 := hide ((uh X0).below g3)
    replace B := hide (bl_tr (uh B) g3)
    have S := hide (fun v (hv : Below w4.heap.size w4 v) => uh SM y v (bl_tr (uh B) hv) (g2.below hv) g1)
    clear hq g1 g2 g3 CD SM I2
    have x0 := (uh X0).cell
    have z0 := (uh X0).lt
    obtain ⟨yops, ynm, ynodes, yqn, ycn, yinits, yqi, yci, yinp, yqp, ycp, yout, yqo, yco⟩ := y
    simp only [moV, moCells, strV] at S ⊢
    go_wp2_with fail
    refine (uh S _ (al1p w4 (Obj.cells #[.int .i64 yops, .string (strOfNums ynm), .slice yqn ynodes.length ycn, .slice yqi yinits.length yci, .slice yqp yinp.length ycp, .slice yqo yout.length yco] 29))).mono ?_
    rintro e w5 ⟨rfl, hb⟩
    replace B := hide (bl_tr (uh B) (bl_tr (al1p w4 (Obj.cells #[.int .i64 yops, .string (strOfNums ynm), .slice yqn ynodes.length ycn, .slice yqi yinits.length yci, .slice yqp yinp.length ycp, .slice yqo yout.length yco] 29)) hb))
    clear hb S x0 z0
    go_wp2_with fail
    go_ret
    exact ⟨rfl, uh B⟩
  · obtain ⟨h1, h2⟩ := enc_no h0
    rw [h1] at CE
    have t0 : ((encodeV M0.d).2 != 0) = true := bneTp h0
    have H2 := hide h2
    have h9 : (encodeV M0.d).2 = checkM M0.d ∨ ((encodeV M0.d).2 == checkM M0.d) = false ∧ checkM M0.d = 0 ∧ (encodeV M0.d).2 = 8 := by
      rcases h2 with g | ⟨g1, g2⟩
      · exact .inl g
      · exact .inr ⟨by rw [g1, g2]; rfl, g1, g2⟩
    clear h2 H2 h1 ho h0
    generalize (encodeV M0.d).2 = E at CE t0 h9
    generalize checkM M0.d = K at CK h9
    have HS := hide s0
    clear s0 u0
    obtain ⟨aops, anm, anodes, aqn, acn, ainits, aqi, aci, ainp, aqp, acp, aout, aqo, aco⟩ := M0
    simp only [moV, moCells, strV] at CE CK ⊢
    rcases h9 with rfl | ⟨h9, rfl, rfl⟩
    all_goals
      go_enter Tryz.func6, Tryz.ntmps6
      go_wp2_with fail
      refine (awake7_any _).mono ?_
      rintro e w1 ⟨rfl, hb⟩
      have X0 := hide (Box.below (Box.new W #[.int .i64 aops, .string (strOfNums anm), .slice aqn anodes.length acn, .slice aqi ainits.length aci, .slice aqp ainp.length acp, .slice aqo aout.length aco] 29) hb)
      have B := hide (bl_tr (al1p _ _) hb)
      have x0 := (uh X0).cell
      clear hb
      go_wp2_with fail
      refine (uh CE _ (uh B)).mono ?_
      rintro e w2 ⟨v2, rfl, hO⟩
      obtain ⟨q2, d2, hq2, hL2, _⟩ := hO.form
      subst hq2
      replace X0 := hide ((uh X0).below hO.2)
      replace B := hide (bl_tr (uh B) hO.2)
      clear hO hL2 CE x0
      have x0 := (uh X0).cell
      simp only [List.length_nil]
      go_wp2_with fail
      refine (uh CK _ (uh B)).mono ?_
      rintro e w3 ⟨rfl, hb⟩
      replace B := hide (bl_tr (uh B) hb)
      clear hb CK x0
      go_wp2_with fail
      go_ret
      exact ⟨rfl, uh B⟩

set_option maxRecDepth 100000 in
theorem contract (H : Type) (enc : TypeId × Value → H) (W : World) (base : Nat) (args : Array Value) (ds gs : List (DataW H)) (before : List MemPlace)
    (hval0 : ∀ (j : Nat) t v, Tryz.f6.params[j]? = some t → args[j]? = some v → Value.okWide Tryz.prog W .any base t v)
    (hW : DataW.Whole enc Tryz.prog Tryz.f6.params.toList Rows.onnxBackSpec.vars false W args.toList ds gs before) (hsz0 : (DataW.weightsEach Tryz.prog (Tryz.f6.params.toList ++ Rows.onnxBackSpec.plain.varTypes Tryz.prog) (ds ++ gs)).all (· ≤ reachBytes) = true) :
    Calls Tryz.prog 6 args W fun e W' => ∃ v, e = .returned v ∧ Rows.onnxBackSpec.post enc Tryz.prog Tryz.f6 false true false false W args v W' := by
  have hval : ∀ (j : Nat) t v, Tryz.f6.params[j]? = some t → args[j]? = some v → Value.okWide Tryz.prog W .any base t v := hval0
  have hW' := hW
  obtain ⟨p, q, hA0, hV, rfl, hfz, hnd⟩ := hW
  have hA : DataW.TrodAll enc Tryz.prog W 0 (fun _ => true) true Tryz.f6.params.toList args.toList ds p := hA0
  have hsz : (DataW.weightsEach Tryz.prog (Tryz.f6.params.toList ++ Rows.onnxBackSpec.plain.varTypes Tryz.prog) (ds ++ gs)).all (· ≤ reachBytes) = true := hsz0
  clear hsz0
  rw [Tryz.params6] at hA hval hsz
  obtain ⟨v0, vs0, d0, ds0, pl0, q0, hargs, rfl, rfl, h0, r0⟩ := trodAll_cons hA
  obtain ⟨rfl, rfl, rfl⟩ := trodAll_nil r0
  obtain rfl : args = #[v0] := by cases args; simp_all
  obtain ⟨rfl, rfl⟩ := trodVars_none hV
  have h0k := h0
  obtain ⟨M0, rfl, s0, g0⟩ := mo_open (hval 0 29 v0 rfl rfl) h0
  have hlt0 : ∀ y ∈ pl0, y.block < W.heap.size := fun y hy => hW'.lt y (by simp [hy])
  have u0 : MoLt M0 := g0 (fun m hm => by have h9 := List.all_eq_true.1 hsz m (DataW.weights_mem_each (j := 0) rfl rfl m hm); simpa using h9)
  clear hA0 hval0
  simp only [List.append_nil] at hW'
  refine (walk M0 W s0 u0).mono fun e W' ⟨he, bel⟩ => ?_
  subst he
  exact ⟨_, rfl, _, _, _, [], _, [], hW', trodAll_mk1 (shut_bool Tryz.underlying4 _), (trodAll_cons_mk (Below.trod laidOut (by kernel_rfl) (of_decide_eq_true (by kernel_rfl)) h0k bel hlt0) trodAll_mk0), rfl, bel.frame _, fun h => by cases h⟩

set_option maxRecDepth 100000 in
theorem lifted (os : Os) (started : os.Started) (H : Type) (enc : TypeId × Value → H) :
    ReturnsInHanded {} Tryz.checked os 6 .any (Rows.onnxBackSpec.pre6 enc Tryz.prog Tryz.f6 Rows.onnxBackRow.domain false) (Rows.onnxBackSpec.post enc Tryz.prog Tryz.f6 false true false false) := by
  refine returnsInHanded_of_change_sized (C := Tryz.checked) own started (by kernel_rfl) Tryz.func6
    (ChangeSpec.witness6 (enc := enc) (C := Tryz.checked) false ⟨#[], #[.agg #[.int .i64 0, .string { data := #[] }, .slice none 0 0, .slice none 0 0, .slice none 0 0, .slice none 0 0]], []⟩ 8 (by kernel_rfl) (by kernel_rfl) (by kernel_rfl) (by kernel_rfl)) ?_
  intro W base args ds gs before hval hW hcnd hsz _
  exact contract H enc W base args ds gs before hval hW hsz

theorem proved : Rows.OnnxBackSaid :=
  OpenClaim.holds_of_wide 6 Tryz.f6 rfl rfl rfl rfl rfl rfl rfl ⟨rfl, rfl, rfl, rfl, rfl⟩ rfl rfl rfl rfl rfl (by kernel_rfl) Tryz.func6 (by kernel_rfl)
    (of_decide_eq_true (by kernel_rfl)) (by unfold Func.isWrapper; first | (rw [if_pos (by decide +kernel)]; kernel_rfl) | (rw [if_neg (by decide +kernel)]; exact ⟨rfl, rfl⟩))
    (fun os started H enc _ => lifted os started H enc)
#print axioms proved
end Go.Proofs.YtaikppgoahdjbaaGreat.onnxBack
