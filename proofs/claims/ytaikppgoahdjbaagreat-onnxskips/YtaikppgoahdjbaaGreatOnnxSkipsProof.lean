import Derived.Test.YtaikppgoahdjbaaGreatRows
import Derived.WalkKit
import Derived.ProofKit
import Derived.OpenShut
import Derived.Below
import Derived.Carry
import Derived.SizedLaws
import Derived.Test.YtaikppgoahdjbaaGreatV52
import Derived.Test.YtaikppgoahdjbaaGreatV15

/- For all models: fields of numbers that are not named, in the model, in the graph, ahead and behind, change nothing of what is read; no condition. -/
namespace Go.Proofs.YtaikppgoahdjbaaGreat.onnxSkips
open Go.ChangeShapes Go.WideShapes Go.ChangeAt Go.RowKit
set_option linter.unusedVariables false

theorem own : ownKnob Tryz.prog.godebug = none := by kernel_rfl
theorem laidOut : laidOutB Tryz.prog = true := by kernel_rfl

set_option maxRecDepth 100000 in
set_option maxHeartbeats 4000000 in
/-- The statement's call returns true, whatever came in. -/
theorem walk (M0 : MoA) (a1 a2 : Int) (a3 : Bool) (W : World) (s0 : MoIn W.heap.size W M0) (u0 : MoLt M0) (w1 : (Lit.int .i64 a1).wf = true) (w2 : (Lit.int .u64 a2).wf = true) :
    Calls Tryz.prog 8 #[moV M0, .int .i64 a1, .int .u64 a2, .bool a3] W fun e W' => e = .returned (.bool true) ∧ Below W.heap.size W W' := by
  have ho := mo_ok7 s0
  have CE := hide (fun v (hv : Below W.heap.size W v) => cencode_any M0 v (s0.below hv) u0 hv.size)
  by_cases h0 : (encodeV M0.d).2 = 0
  · have hB := enc_isB ho h0
    have hPV := parts_ok ho h0
    have HE1 := hide (encode_ok h0)
    have hlen : (encodeV M0.d).1.length ≤ 4194304 := by rw [(uh HE1).2.2]; exact (uh HE1).2.1
    have CP := hide (fun p c v (hi : Ints .u8 v p c (encodeV M0.d).1) => mparts_any p c _ v hi hlen)
    rw [hPV] at CP
    rw [h0] at CE
    have HB := hide hB
    by_cases hl : (encodeV M0.d).1.length ≤ 2000000
    · obtain ⟨x0, x1⟩ := u64_range w2
      obtain ⟨hu, hul⟩ := odd_ok (num := a1) a3 x0 x1
      have CU := hide (fun v => munknown_any a1 a2 a3 v w1 w2)
      obtain ⟨O, hO⟩ : ∃ O, (writeV [oddF a1 a2 a3]).1 = O := ⟨_, rfl⟩
      obtain ⟨M7, h7⟩ : ∃ M7, (writeV [blkF 7 (O ++ msgB (graphF M0.d) ++ O)]).1 = M7 := ⟨_, rfl⟩
      obtain ⟨M8, h8⟩ : ∃ M8, (writeV [blkF 8 ([16, 17] ++ O)]).1 = M8 := ⟨_, rfl⟩
      obtain ⟨n1, n2, n3, n4, n5, n6, n7, hOB⟩ := skip_all ho h0 hu hul hl hO h7 h8
      rw [hO] at CU
      have C7 := hide (fun p c v (hi : Ints .u8 v p c (O ++ msgB (graphF M0.d) ++ O)) => mmessage_any 7 p c _ v rfl hi (by rw [List.length_append, List.length_append]; omega))
      have C8 := hide (fun p c v (hi : Ints .u8 v p c ([16, 17] ++ O)) => mmessage_any 8 p c _ v rfl hi (by rw [List.length_append]; simp only [List.length_cons, List.length_nil]; omega))
      rw [h7] at C7
      rw [h8] at C8
      have CD : Hid (∀ p c v, Ints .u8 v p c (O ++ M7 ++ O ++ M8) → Calls Tryz.prog 11 #[.slice p (O ++ M7 ++ O ++ M8).length c] v fun e w' => ∃ x : MoA, e = .returned (.tuple #[moV x, .int .i64 0]) ∧ Hid (M0.d = x.d ∧ MoIn 0 w' x ∧ Below v.heap.size v w')) := hide (fun p c v h => by
        have k := cdecode_any p c _ v h
        rw [n6] at k
        refine k.mono fun e u hh => ?_
        obtain ⟨x, he, hh⟩ := hh
        obtain ⟨⟨_, g1⟩, g2, g3⟩ := uh hh
        exact ⟨x, he, hide ⟨by rw [g1 rfl, n7], g2, g3⟩⟩)
      have HC := hide n5
      have HG : Hid (isB (msgB (graphF M0.d))) := hide (msg_isB8 (graph_wr ho (by omega)) (by omega))
      have HO := hide hOB
      have gl : ¬ (2000000 : Int) < ((encodeV M0.d).1.length : Int) := by omega
      have eL : (encodeV M0.d).1.length ≤ 2000000 := hl
      clear n5 n6 n7 hOB hB hPV hlen HE1 h0 hl hu hul hO h7 h8 x0 x1
      generalize msgB (graphF M0.d) = G at CP C7 n2 HG
      generalize (encodeV M0.d).1 = R at CE CP HB gl eL
      have SM := hide (fun (y : MoA) v (hv : Below W.heap.size W v) (hy : MoIn 0 v y) (he : M0.d = y.d) => rmodel_true M0 y v (s0.below hv) hy he)
      generalize M0.d = D at CD SM
      obtain ⟨i1, hi1, y1, z1, b1⟩ := info_parts Tryz.infoU8
      obtain ⟨X7, hX7⟩ : ∃ X, O ++ G ++ O = X := ⟨_, rfl⟩
      obtain ⟨X8, hX8⟩ : ∃ X, [16, 17] ++ O = X := ⟨_, rfl⟩
      obtain ⟨XC, hXC⟩ : ∃ X, O ++ M7 ++ O ++ M8 = X := ⟨_, rfl⟩
      rw [hX7] at C7
      rw [hX8] at C8
      rw [hXC] at CD HC
      have HX7 : Hid (isB X7 ∧ O ++ G ++ O = X7) := hide ⟨by rw [← hX7]; exact isB_append (isB_append (uh HO) (uh HG)) (uh HO), hX7⟩
      have HX8 : Hid (isB X8 ∧ [16, 17] ++ O = X8) := hide ⟨by rw [← hX8]; exact isB_append (by unfold isB; decide) (uh HO), hX8⟩
      have HXC := hide hXC
      clear hX7 hX8 hXC s0 u0 ho w1 w2
      obtain ⟨aops, anm, anodes, aqn, acn, ainits, aqi, aci, ainp, aqp, acp, aout, aqo, aco⟩ := M0
      simp only [moV, moCells, strV] at CE SM ⊢
      go_enter Tryz.func8, Tryz.ntmps8
      go_wp2_with fail
      refine (awake7_any _).mono ?_
      rintro e w1 ⟨rfl, hb⟩
      have X0 := hide (Box.below (Box.new W #[.int .i64 aops, .string (strOfNums anm), .slice aqn anodes.length acn, .slice aqi ainits.length aci, .slice aqp ainp.length acp, .slice aqo aout.length aco] 29) hb)
      have B := hide (bl_tr (al1p _ _) hb)
      have x0 := (uh X0).cell
      clear hb
      go_wp2_with fail
      refine (uh CE _ (uh B)).mono ?_
      rintro e w2 ⟨v2, rfl, hQ⟩
      obtain ⟨q2, d2, hq2, hL2, _⟩ := hQ.form
      subst hq2
      have I2 := hide (hL2.ints (isB_wf (uh HB)))
      replace X0 := hide ((uh X0).below hQ.2)
      replace B := hide (bl_tr (uh B) hQ.2)
      clear hQ hL2 CE x0
      go_wp2_with fail
      refine (uh CP _ _ _ (uh I2)).mono ?_
      rintro e w3 ⟨⟨q3, d3, rfl, hI⟩, hb⟩
      have I3 := hide hI
      replace X0 := hide ((uh X0).below hb)
      replace B := hide (bl_tr (uh B) hb)
      clear hb hI CP I2
      simp only
      go_wp2_with fail
      refine (uh CU _).mono ?_
      rintro e w4 ⟨v4, rfl, hQ⟩
      obtain ⟨q4, d4, hq4, hL4, _⟩ := (uh hQ).1.form
      subst hq4
      have I4 := hide hL4
      replace X0 := hide ((uh X0).below (uh hQ).1.2)
      replace I3 := hide ((uh I3).below (uh hQ).1.2)
      replace B := hide (bl_tr (uh B) (uh hQ).1.2)
      clear hQ hL4 CU
      have A1 := hide (OwnG.nil 5 (f := Value.int .u8) w4 w4 (Below.refl _ _))
      go_wp2_with (first
        | (refine wpList_append_ls rfl (.tmp 45) (.tmp 46) 22 rfl w4 5 i1 (.int .u8 0) 1 Tryz.underlying22 hi1 y1 z1 b1 rfl (int_one .u8) _ [] rfl (uh A1) q4 d4 O rfl (uh I4) (by unfold maxLen; simp <;> omega) (by simp <;> omega) ?_; intro v5 w5 O5; have A5 := hide O5; rw [List.nil_append] at A5; have I45 := hide ((uh I4).below O5.2); have I35 := hide ((uh I3).below O5.2); clear O5)
        | (refine wpList_append_ls rfl (.tmp 49) (.tmp 50) 22 rfl w5 5 i1 (.int .u8 0) 1 Tryz.underlying22 hi1 y1 z1 b1 rfl (int_one .u8) _ [] rfl (OwnG.empty' _ _) q4 d4 O rfl ((uh I45).below (al1p _ _)) (by unfold maxLen; simp <;> omega) (by simp <;> omega) ?_; intro v6 w6 O6; have A6 := hide O6; rw [List.nil_append] at A6; have I46 := hide ((uh I45).below O6.2); have I36 := hide ((uh I35).below O6.2); clear O6)
        | (refine wpList_append_ls rfl (.tmp 51) (.tmp 52) 22 rfl w5 5 i1 (.int .u8 0) 1 Tryz.underlying22 hi1 y1 z1 b1 rfl (int_one .u8) _ O rfl (uh A6) q3 d3 G rfl (uh I36).ls (by unfold maxLen; simp <;> omega) (by simp <;> omega) ?_; intro v7 w7 O7; have A7 := hide O7; have I47 := hide ((uh I45).below O7.2); clear O7)
        | (refine wpList_append_ls rfl (.tmp 53) (.tmp 54) 22 rfl w5 5 i1 (.int .u8 0) 1 Tryz.underlying22 hi1 y1 z1 b1 rfl (int_one .u8) _ (O ++ G) rfl (uh A7) q4 d4 O rfl (uh I47) (by unfold maxLen; simp <;> omega) (by simp <;> omega) ?_; intro v8 w8 O8; have A8 := hide O8; clear O8; rw [(uh HX7).2] at A8))
      obtain ⟨q8, d8, hq8, hL8, _⟩ := (uh A8).form
      subst hq8
      have I8 := hide (hL8.ints (isB_wf (uh HX7).1))
      have A58 := hide ((uh A5).below (uh A8).2)
      have I48 := hide ((uh I45).below (uh A8).2)
      clear A8 hL8
      refine (uh C7 _ _ _ (uh I8)).mono ?_
      rintro e w9 ⟨v9, rfl, hQ⟩
      obtain ⟨q9, d9, hq9, hL9, _⟩ := (uh hQ).1.form
      subst hq9
      have L9 := hide hL9
      have A59 := hide ((uh A58).below (uh hQ).1.2)
      have I49 := hide ((uh I48).below (uh hQ).1.2)
      have B9 := hide (uh A59).2
      clear hQ hL9 C7 I8
      go_wp2_with (first
        | (refine wpList_append_ls rfl (.tmp 48) (.tmp 56) 22 rfl w4 5 i1 (.int .u8 0) 1 Tryz.underlying22 hi1 y1 z1 b1 rfl (int_one .u8) _ O rfl (uh A59) q9 d9 M7 rfl (uh L9) (by unfold maxLen; simp <;> omega) (by simp <;> omega) ?_; intro v10 w10 O10; have A10 := hide O10; have I410 := hide ((uh I4).below O10.2); clear O10)
        | (refine wpList_append_ls rfl (.tmp 58) (.tmp 59) 22 rfl w4 5 i1 (.int .u8 0) 1 Tryz.underlying22 hi1 y1 z1 b1 rfl (int_one .u8) _ (O ++ M7) rfl (uh A10) q4 d4 O rfl (uh I410) (by unfold maxLen; simp <;> omega) (by simp <;> omega) ?_; intro v11 w11 O11; have A11 := hide O11; have I411 := hide ((uh I4).below O11.2); clear O11)
        | (refine wpList_append_ls rfl (.tmp 62) (.tmp 63) 22 rfl w11 5 i1 (.int .u8 0) 1 Tryz.underlying22 hi1 y1 z1 b1 rfl (int_one .u8) _ [16, 17] rfl (OwnG.lit [16, 17] rfl rfl (by decide)) q4 d4 O rfl ((uh I411).below (al1p _ _)) (by unfold maxLen; simp <;> omega) (by simp <;> omega) ?_; intro v12 w12 O12; have A12 := hide O12; clear O12; rw [(uh HX8).2] at A12))
      obtain ⟨q12, d12, hq12, hL12, _⟩ := (uh A12).form
      subst hq12
      have I12 := hide (hL12.ints (isB_wf (uh HX8).1))
      have A1112 := hide ((uh A11).below (uh A12).2)
      clear A12 hL12
      refine (uh C8 _ _ _ (uh I12)).mono ?_
      rintro e w13 ⟨v13, rfl, hQ⟩
      obtain ⟨q13, d13, hq13, hL13, _⟩ := (uh hQ).1.form
      subst hq13
      have L13 := hide hL13
      have A1113 := hide ((uh A1112).below (uh hQ).1.2)
      clear hQ hL13 C8 I12
      go_wp2_with (first
        | (refine wpList_append_ls rfl (.tmp 61) (.tmp 65) 22 rfl w4 5 i1 (.int .u8 0) 1 Tryz.underlying22 hi1 y1 z1 b1 rfl (int_one .u8) _ (O ++ M7 ++ O) rfl (uh A1113) q13 d13 M8 rfl (uh L13) (by unfold maxLen; simp <;> omega) (by simp <;> omega) ?_; intro v14 w14 O14; have A14 := hide O14; clear O14; rw [uh HXC] at A14))
      obtain ⟨q14, d14, hq14, hL14, _⟩ := (uh A14).form
      subst hq14
      have I14 := hide (hL14.ints (isB_wf (uh HC)))
      replace X0 := hide ((uh X0).below (uh A14).2)
      replace B := hide (bl_tr (uh B) (uh A14).2)
      clear A14 hL14
      refine (uh CD _ _ _ (uh I14)).mono ?_
      rintro e w15 ⟨y, rfl, hq⟩
      obtain ⟨g1, g2, g3⟩ := uh hq
      replace X0 := hide ((uh X0).below g3)
      replace B := hide (bl_tr (uh B) g3)
      have S := hide (fun v (hv : Below w15.heap.size w15 v) => uh SM y v (bl_tr (uh B) hv) (g2.below hv) g1)
      clear hq g1 g2 g3 CD SM
      have x0 := (uh X0).cell
      have z0 := (uh X0).lt
      obtain ⟨yops, ynm, ynodes, yqn, ycn, yinits, yqi, yci, yinp, yqp, ycp, yout, yqo, yco⟩ := y
      simp only [moV, moCells, strV] at S ⊢
      go_wp2_with fail
      refine (uh S _ (al1p w15 (Obj.cells #[.int .i64 yops, .string (strOfNums ynm), .slice yqn ynodes.length ycn, .slice yqi yinits.length yci, .slice yqp yinp.length ycp, .slice yqo yout.length yco] 29))).mono ?_
      rintro e w16 ⟨rfl, hb⟩
      replace B := hide (bl_tr (uh B) (bl_tr (al1p w15 (Obj.cells #[.int .i64 yops, .string (strOfNums ynm), .slice yqn ynodes.length ycn, .slice yqi yinits.length yci, .slice yqp yinp.length ycp, .slice yqo yout.length yco] 29)) hb))
      clear hb S x0 z0
      go_wp2_with fail
      go_ret
      exact ⟨rfl, uh B⟩
    · have gl : (2000000 : Int) < ((encodeV M0.d).1.length : Int) := by omega
      generalize msgB (graphF M0.d) = G at CP
      generalize (encodeV M0.d).1 = R at CE CP HB gl
      clear hl hB hPV HE1 hlen h0 s0 u0 ho w1 w2
      obtain ⟨aops, anm, anodes, aqn, acn, ainits, aqi, aci, ainp, aqp, acp, aout, aqo, aco⟩ := M0
      simp only [moV, moCells, strV] at CE ⊢
      go_enter Tryz.func8, Tryz.ntmps8
      go_wp2_with fail
      refine (awake7_any _).mono ?_
      rintro e w1 ⟨rfl, hb⟩
      have X0 := hide (Box.below (Box.new W #[.int .i64 aops, .string (strOfNums anm), .slice aqn anodes.length acn, .slice aqi ainits.length aci, .slice aqp ainp.length acp, .slice aqo aout.length aco] 29) hb)
      have B := hide (bl_tr (al1p _ _) hb)
      have x0 := (uh X0).cell
      clear hb
      go_wp2_with fail
      refine (uh CE _ (uh B)).mono ?_
      rintro e w2 ⟨v2, rfl, hQ⟩
      obtain ⟨q2, d2, hq2, hL2, _⟩ := hQ.form
      subst hq2
      have I2 := hide (hL2.ints (isB_wf (uh HB)))
      replace B := hide (bl_tr (uh B) hQ.2)
      clear hQ hL2 CE x0
      go_wp2_with fail
      refine (uh CP _ _ _ (uh I2)).mono ?_
      rintro e w3 ⟨⟨q3, d3, rfl, hI⟩, hb⟩
      replace B := hide (bl_tr (uh B) hb)
      clear hb hI CP I2
      simp only
      go_wp2_with fail
      go_ret
      exact ⟨rfl, uh B⟩
  · obtain ⟨h1, h2⟩ := enc_no h0
    have CP := hide (fun p c v (hi : Ints .u8 v p c []) => mparts_any p c [] v hi (by simp))
    rw [parts_nil] at CP
    rw [h1] at CE
    have t0 : ((encodeV M0.d).2 != 0) = true := bneTp h0
    clear h2 h1 h0
    generalize (encodeV M0.d).2 = E at CE t0
    clear s0 u0 ho w1 w2
    obtain ⟨aops, anm, anodes, aqn, acn, ainits, aqi, aci, ainp, aqp, acp, aout, aqo, aco⟩ := M0
    simp only [moV, moCells, strV, List.length_nil] at CE CP ⊢
    go_enter Tryz.func8, Tryz.ntmps8
    go_wp2_with fail
    refine (awake7_any _).mono ?_
    rintro e w1 ⟨rfl, hb⟩
    have X0 := hide (Box.below (Box.new W #[.int .i64 aops, .string (strOfNums anm), .slice aqn anodes.length acn, .slice aqi ainits.length aci, .slice aqp ainp.length acp, .slice aqo aout.length aco] 29) hb)
    have B := hide (bl_tr (al1p _ _) hb)
    have x0 := (uh X0).cell
    clear hb
    go_wp2_with fail
    refine (uh CE _ (uh B)).mono ?_
    rintro e w2 ⟨v2, rfl, hQ⟩
    obtain ⟨q2, d2, hq2, hL2, _⟩ := hQ.form
    subst hq2
    have I2 := hide (hL2.ints (fun x hx => by cases hx))
    replace B := hide (bl_tr (uh B) hQ.2)
    clear hQ hL2 CE x0
    simp only [List.length_nil]
    go_wp2_with fail
    refine (uh CP _ _ _ (uh I2)).mono ?_
    rintro e w3 ⟨⟨q3, d3, rfl, hI⟩, hb⟩
    replace B := hide (bl_tr (uh B) hb)
    clear hb hI CP I2
    go_wp2_with fail
    go_ret
    exact ⟨rfl, uh B⟩

set_option maxRecDepth 100000 in
theorem contract (H : Type) (enc : TypeId × Value → H) (W : World) (base : Nat) (args : Array Value) (ds gs : List (DataW H)) (before : List MemPlace)
    (hval0 : ∀ (j : Nat) t v, Tryz.f8.params[j]? = some t → args[j]? = some v → Value.okWide Tryz.prog W .any base t v)
    (hW : DataW.Whole enc Tryz.prog Tryz.f8.params.toList Rows.onnxSkipsSpec.vars false W args.toList ds gs before) (hsz0 : (DataW.weightsEach Tryz.prog (Tryz.f8.params.toList ++ Rows.onnxSkipsSpec.plain.varTypes Tryz.prog) (ds ++ gs)).all (· ≤ reachBytes) = true) :
    Calls Tryz.prog 8 args W fun e W' => ∃ v, e = .returned v ∧ Rows.onnxSkipsSpec.post enc Tryz.prog Tryz.f8 false true false false W args v W' := by
  have hval : ∀ (j : Nat) t v, Tryz.f8.params[j]? = some t → args[j]? = some v → Value.okWide Tryz.prog W .any base t v := hval0
  have hW' := hW
  obtain ⟨p, q, hA0, hV, rfl, hfz, hnd⟩ := hW
  have hA : DataW.TrodAll enc Tryz.prog W 0 (fun _ => true) true Tryz.f8.params.toList args.toList ds p := hA0
  have hsz : (DataW.weightsEach Tryz.prog (Tryz.f8.params.toList ++ Rows.onnxSkipsSpec.plain.varTypes Tryz.prog) (ds ++ gs)).all (· ≤ reachBytes) = true := hsz0
  clear hsz0
  rw [Tryz.params8] at hA hval hsz
  obtain ⟨v0, vs0, d0, ds0, pl0, q0, hargs, rfl, rfl, h0, r0⟩ := trodAll_cons hA
  obtain ⟨v1, vs1, d1, ds1, pl1, q1, rfl, rfl, rfl, h1, r1⟩ := trodAll_cons r0
  obtain ⟨v2, vs2, d2, ds2, pl2, q2, rfl, rfl, rfl, h2, r2⟩ := trodAll_cons r1
  obtain ⟨v3, vs3, d3, ds3, pl3, q3, rfl, rfl, rfl, h3, r3⟩ := trodAll_cons r2
  obtain ⟨rfl, rfl, rfl⟩ := trodAll_nil r3
  obtain rfl : args = #[v0, v1, v2, v3] := by cases args; simp_all
  obtain ⟨rfl, rfl⟩ := trodVars_none hV
  have h0k := h0
  obtain ⟨M0, rfl, s0, g0⟩ := mo_open (hval 0 29 v0 rfl rfl) h0
  have hlt0 : ∀ y ∈ pl0, y.block < W.heap.size := fun y hy => hW'.lt y (by simp [hy])
  have u0 : MoLt M0 := g0 (fun m hm => by have h9 := List.all_eq_true.1 hsz m (DataW.weights_mem_each (j := 0) rfl rfl m hm); simpa using h9)
  obtain ⟨a1, rfl, rfl, rfl, w1⟩ := open_int Tryz.underlying3 (hval 1 3 v1 rfl rfl) h1
  obtain ⟨a2, rfl, rfl, rfl, w2⟩ := open_int Tryz.underlying45 (hval 2 45 v2 rfl rfl) h2
  obtain ⟨a3, rfl, rfl, rfl⟩ := open_bool Tryz.underlying4 (hval 3 4 v3 rfl rfl) h3
  clear hA0 hval0
  simp only [List.append_nil] at hW'
  refine (walk M0 a1 a2 a3 W s0 u0 w1 w2).mono fun e W' ⟨he, bel⟩ => ?_
  subst he
  exact ⟨_, rfl, _, _, _, [], _, [], hW', trodAll_mk1 (shut_bool Tryz.underlying4 _), (trodAll_cons_mk (Below.trod laidOut (by kernel_rfl) (of_decide_eq_true (by kernel_rfl)) h0k bel hlt0) (trodAll_cons_mk (shut_int Tryz.underlying3 w1) (trodAll_cons_mk (shut_int Tryz.underlying45 w2) (trodAll_cons_mk (shut_bool Tryz.underlying4 _) trodAll_mk0)))), rfl, bel.frame _, fun h => by cases h⟩

set_option maxRecDepth 100000 in
theorem lifted (os : Os) (started : os.Started) (H : Type) (enc : TypeId × Value → H) :
    ReturnsInHanded {} Tryz.checked os 8 .any (Rows.onnxSkipsSpec.pre6 enc Tryz.prog Tryz.f8 Rows.onnxSkipsRow.domain false) (Rows.onnxSkipsSpec.post enc Tryz.prog Tryz.f8 false true false false) := by
  refine returnsInHanded_of_change_sized (C := Tryz.checked) own started (by kernel_rfl) Tryz.func8
    (ChangeSpec.witness6 (enc := enc) (C := Tryz.checked) false ⟨#[], #[.agg #[.int .i64 0, .string { data := #[] }, .slice none 0 0, .slice none 0 0, .slice none 0 0, .slice none 0 0], .int .i64 0, .int .u64 0, .bool false], []⟩ 8 (by kernel_rfl) (by kernel_rfl) (by kernel_rfl) (by kernel_rfl)) ?_
  intro W base args ds gs before hval hW hcnd hsz _
  exact contract H enc W base args ds gs before hval hW hsz

theorem proved : Rows.OnnxSkipsSaid :=
  OpenClaim.holds_of_wide 8 Tryz.f8 rfl rfl rfl rfl rfl rfl rfl ⟨rfl, rfl, rfl, rfl, rfl⟩ rfl rfl rfl rfl rfl (by kernel_rfl) Tryz.func8 (by kernel_rfl)
    (of_decide_eq_true (by kernel_rfl)) (by unfold Func.isWrapper; first | (rw [if_pos (by decide +kernel)]; kernel_rfl) | (rw [if_neg (by decide +kernel)]; exact ⟨rfl, rfl⟩))
    (fun os started H enc _ => lifted os started H enc)
#print axioms proved
end Go.Proofs.YtaikppgoahdjbaaGreat.onnxSkips
