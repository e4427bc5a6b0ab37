import Derived.Test.YtaikppgoahdjbabGreatRows
import Derived.WalkKit
import Derived.ProofKit
import Derived.OpenShut
import Derived.Below
import Derived.Carry
import Derived.SizedLaws
import Derived.Test.YtaikppgoahdjbabGreatV52
import Derived.Test.YtaikppgoahdjbabGreatV14

/- For all models: the graph's fields gathered by their numbers, in another order of numbers, are read as the same model; no condition. -/
namespace Go.Proofs.YtaikppgoahdjbabGreat.onnxTurns
open Go.ChangeShapes Go.WideShapes Go.ChangeAt Go.RowKit
set_option linter.unusedVariables false

theorem own : ownKnob Tryz.prog.godebug = none := by kernel_rfl
theorem laidOut : laidOutB Tryz.prog = true := by kernel_rfl

set_option maxRecDepth 100000 in
set_option maxHeartbeats 4000000 in
/-- The statement's call returns true, whatever came in. -/
theorem walk (M0 : MoA) (W : World) (s0 : MoIn W.heap.size W M0) (u0 : MoLt M0) :
    Calls Tryz.prog 4 #[moV M0] W fun e W' => e = .returned (.bool true) ∧ Below W.heap.size W W' := by
  have ho := mo_ok7 s0
  have CE := hide (fun v (hv : Below W.heap.size W v) => cencode_any M0 v (s0.below hv) u0 hv.size)
  by_cases h0 : (encodeV M0.d).2 = 0
  · have hB := enc_isB ho h0
    have hPV := parts_ok ho h0
    have HE1 := hide (encode_ok h0)
    have hlen : (encodeV M0.d).1.length ≤ 4194304 := by rw [(uh HE1).2.2]; exact (uh HE1).2.1
    have CP := hide (fun p c v (hi : Ints .u8 v p c (encodeV M0.d).1) => mparts_any p c _ v hi hlen)
    rw [hPV] at CP
    rw [h0] at CE
    have HB := hide hB
    by_cases hl : (encodeV M0.d).1.length ≤ 2000000
    · obtain ⟨O, hO⟩ : ∃ O, (writeV (turnF M0.d)).1 = O := ⟨_, rfl⟩
      obtain ⟨M8, h8⟩ : ∃ M8, (writeV [blkF 8 [16, 17]]).1 = M8 := ⟨_, rfl⟩
      obtain ⟨M7, h7⟩ : ∃ M7, (writeV [blkF 7 O]).1 = M7 := ⟨_, rfl⟩
      obtain ⟨n1, n2, n3, n4, n5, n6, n7⟩ := turn_all ho h0 hl hO h8 h7
      have hgl : (msgB (graphF M0.d)).length ≤ 4194304 := by have := graph_le (uh HE1).2.1; have := (uh HE1).2.1; omega
      have hgw := graph_wr ho hgl
      have hrd := read_msg hgw hgl
      have HGB := hide (msg_isB8 hgw hgl)
      have CR : Hid (∀ p c v, Ints .u8 v p c (msgB (graphF M0.d)) → Calls Tryz.prog 8 #[.slice p (msgB (graphF M0.d)).length c] v fun e w' => (∃ q d L, e = .returned (.tuple #[.slice q L.length d, .int .i64 0]) ∧ Hid (L.map FA.f = graphF M0.d ∧ Fls w' q d L)) ∧ Below v.heap.size v w') := hide (fun p c v hi => by
        have k := rread_any p c _ v hi
        rw [hrd] at k
        exact k)
      have RS : Hid (∀ L : List FA, L.map FA.f = graphF M0.d → sumD L + L.length ≤ 4194304) := hide (fun L hL => read_sum (uh HGB) hgl (by rw [hrd]; exact hL))
      have CW : Hid (∀ (q : Option Addr) (d : Nat) (T L : List FA) (v : World), L.map FA.f = graphF M0.d → T = turnA L 5 → Fls v q d T → sumD T ≤ 140737480000000 → Calls Tryz.prog 9 #[.slice q T.length d] v fun e w' => ∃ u, e = .returned (.tuple #[u, .int .i64 0]) ∧ Hid (OwnG 5 (Value.int .u8) v w' u O ∧ isB O)) := hide (fun q d T L v hL hT hF hs => by
        have k := rwriteO_any q d T v hF hs
        subst hT
        rw [turnA_all hL, n1, hO] at k
        exact k)
      have C8 := hide (fun p c v (hi : Ints .u8 v p c [16, 17]) => mmessage_any 8 p c _ v rfl hi (by simp))
      have C7 := hide (fun p c v (hi : Ints .u8 v p c O) => mmessage_any 7 p c _ v rfl hi (by omega))
      rw [h8] at C8
      rw [h7] at C7
      have CD : Hid (∀ p c v, Ints .u8 v p c (M8 ++ M7) → Calls Tryz.prog 11 #[.slice p (M8 ++ M7).length c] v fun e w' => ∃ x : MoA, e = .returned (.tuple #[moV x, .int .i64 0]) ∧ Hid (M0.d = x.d ∧ MoIn 0 w' x ∧ Below v.heap.size v w')) := hide (fun p c v h => by
        have k := cdecode_any p c _ v h
        rw [n6] at k
        refine k.mono fun e u hh => ?_
        obtain ⟨x, he, hh⟩ := hh
        obtain ⟨⟨_, g1⟩, g2, g3⟩ := uh hh
        exact ⟨x, he, hide ⟨by rw [g1 rfl, n7], g2, g3⟩⟩)
      have HC := hide n5
      have gl : ¬ (2000000 : Int) < ((encodeV M0.d).1.length : Int) := by omega
      clear n1 n5 n6 n7 hB hPV hlen HE1 h0 hl hO h7 h8 hgl hgw hrd
      generalize msgB (graphF M0.d) = G at CP CR HGB
      generalize graphF M0.d = GF at CR RS CW
      generalize (encodeV M0.d).1 = R at CE CP HB gl
      have SM := hide (fun (y : MoA) v (hv : Below W.heap.size W v) (hy : MoIn 0 v y) (he : M0.d = y.d) => rmodel_true M0 y v (s0.below hv) hy he)
      generalize M0.d = D at CD SM
      obtain ⟨i1, hi1, y1, z1, b1⟩ := info_parts Tryz.infoU8
      obtain ⟨i2, hi2, y2, z2, b2⟩ := info_parts Tryz.infoRF
      obtain ⟨XC, hXC⟩ : ∃ X, M8 ++ M7 = X := ⟨_, rfl⟩
      rw [hXC] at CD HC
      have HXC := hide hXC
      clear hXC s0 u0 ho
      obtain ⟨aops, anm, anodes, aqn, acn, ainits, aqi, aci, ainp, aqp, acp, aout, aqo, aco⟩ := M0
      simp only [moV, moCells, strV] at CE SM ⊢
      go_enter Tryz.func4, Tryz.ntmps4
      go_wp2_with fail
      refine (awake7_any _).mono ?_
      rintro e w1 ⟨rfl, hb⟩
      have X0 := hide (Box.below (Box.new W #[.int .i64 aops, .string (strOfNums anm), .slice aqn anodes.length acn, .slice aqi ainits.length aci, .slice aqp ainp.length acp, .slice aqo aout.length aco] 26) hb)
      have B := hide (bl_tr (al1p _ _) hb)
      have x0 := (uh X0).cell
      clear hb
      go_wp2_with fail
      refine (uh CE _ (uh B)).mono ?_
      rintro e w2 ⟨v2, rfl, hQ⟩
      obtain ⟨q2, d2, hq2, hL2, _⟩ := hQ.form
      subst hq2
      have I2 := hide (hL2.ints (isB_wf (uh HB)))
      replace X0 := hide ((uh X0).below hQ.2)
      replace B := hide (bl_tr (uh B) hQ.2)
      clear hQ hL2 CE x0
      go_wp2_with fail
      refine (uh CP _ _ _ (uh I2)).mono ?_
      rintro e w3 ⟨⟨q3, d3, rfl, hI⟩, hb⟩
      have I3 := hide hI
      replace X0 := hide ((uh X0).below hb)
      replace B := hide (bl_tr (uh B) hb)
      clear hb hI CP I2
      simp only
      go_wp2_with fail
      refine (uh CR _ _ _ (uh I3)).mono ?_
      rintro e w4 ⟨⟨q4, d4, L, rfl, hL⟩, hb⟩
      obtain ⟨hL1, hL2⟩ := uh hL
      have HLS := hide (uh RS L hL1)
      have HL := hide hL1
      have F4 := hide hL2
      replace X0 := hide ((uh X0).below hb)
      replace B := hide (bl_tr (uh B) hb)
      clear hb hL hL1 hL2 CR I3 RS
      have XO := hide (Box.new w4 #[.int .i64 12, .int .i64 11, .int .i64 5, .int .i64 2, .int .i64 1] 3)
      have IO := hide (box_i64 (uh XO) ordL rfl (by unfold ordL; decide) (by unfold ordL; decide))
      have BO := hide (al1p w4 (Obj.cells #[.int .i64 12, .int .i64 11, .int .i64 5, .int .i64 2, .int .i64 1] 3))
      go_wp2_with fail
      generalize (w4.alloc (Obj.cells #[.int .i64 12, .int .i64 11, .int .i64 5, .int .i64 2, .int .i64 1] 3)) = W5 at XO IO BO ⊢
      replace X0 := hide ((uh X0).below (uh BO))
      replace B := hide (bl_tr (uh B) (uh BO))
      replace F4 := hide ((uh F4).below (uh BO))
      clear XO BO
      go_loopw [10, 12] (fun v iv wr => ∃ n : Nat, iv = .int .i64 n ∧ n ≤ 5 ∧ Hid (OwnF 63 W5 wr v (turnA L n))) (fun _ iv _ => 5 - (intOf iv).toNat)
      case atStart => exact ⟨0, rfl, by omega, hide (OwnF.nil _ _ _ (Below.refl _ _))⟩
      case round =>
        obtain ⟨n, rfl, hn, OT⟩ := hrel
        by_cases hlt : n < 5
        · have hi : (n : Int) < (5 : Int) := by omega
          obtain ⟨bo, oo, ho, hbo, hco⟩ := ((uh IO).below (uh OT).2).lies (by unfold ordL; decide)
          simp only [Option.some.injEq, Addr.mk.injEq] at ho
          obtain ⟨rfl, rfl, _⟩ := ho
          have hcn := hco n (by unfold ordL; simp; omega)
          rw [Nat.zero_add] at hcn
          have HT := hide (turnA_step L hlt)
          have hs := uh HLS
          have tl := turnA_len L hn
          have AL := hide (rall_any q4 d4 L (ordL.getD n 0) wr ((uh F4).below (uh OT).2) (by omega))
          have hal : (allA L (ordL.getD n 0)).length ≤ L.length := List.length_filter_le _ _
          generalize ordL.getD n 0 = ON at hcn HT AL hal
          have hON : (ordL.getD n 0) = (ordL.getD n 0) := rfl
          clear hON
          go_wp2_with fail
          refine (uh AL).mono ?_
          rintro e w6 ⟨v6, rfl, hO6⟩
          obtain ⟨q6, d6, hq6, hF6, _⟩ := hO6.form
          subst hq6
          have O6 := hide ((uh OT).below hO6.2)
          have F6 := hide hF6
          clear hO6 hF6 AL hcn hco hbo
          go_wp2_with (refine wpList_append_flds rfl (.tmp 54) (.tmp 60) 34 rfl W5 63 i2 _ 48 Tryz.underlying34 hi2 y2 z2 b2 rfl _ (turnA L n) rfl (uh O6) q6 d6 (allA L ON) rfl (uh F6) (by unfold maxLen; omega) (by omega) ?_; intro v7 w7 O7 G7; have O8 := hide O7; clear O7 G7; rw [← uh HT] at O8)
          go_roundw
          case rel => exact ⟨n + 1, by go_num, by omega, O8⟩
          case measure => simp [intOf]; omega
        · have hi : ¬ (n : Int) < (5 : Int) := by omega
          obtain rfl : n = 5 := by omega
          obtain ⟨qt, dt, hqt, hFt, _⟩ := (uh OT).form
          subst hqt
          have hs := uh HLS
          have tl := turnA_len L hn
          have FT : Hid (Fls wr qt dt (turnA L 5)) := hide ⟨hFt, fun a ha => ((uh F4).2 a (turnA_mem a ha)).below (uh OT).2⟩
          have CW5 := hide (uh CW qt dt (turnA L 5) L wr (uh HL) rfl (uh FT) (by omega))
          replace X0 := hide ((uh X0).below (uh OT).2)
          replace B := hide (bl_tr (uh B) (uh OT).2)
          generalize turnA L 5 = TA5 at CW5 ⊢
          clear OT hFt FT CW tl hs IO
          go_wp2_with fail
          refine (uh CW5).mono ?_
          rintro e w10 ⟨v10, rfl, hQ⟩
          obtain ⟨q10, d10, hq10, hL10, _⟩ := (uh hQ).1.form
          subst hq10
          have I10 := hide (hL10.ints (isB_wf (uh hQ).2))
          replace X0 := hide ((uh X0).below (uh hQ).1.2)
          replace B := hide (bl_tr (uh B) (uh hQ).1.2)
          have X16 := hide (Box.new w10 #[.int .u8 16, .int .u8 17] 5)
          have I16 := hide (box_ints (uh X16) [16, 17] rfl (by decide) (by decide))
          have X0a := hide ((uh X0).below (al1p w10 (Obj.cells #[.int .u8 16, .int .u8 17] 5)))
          have Ba := hide (bl_tr (uh B) (al1p w10 (Obj.cells #[.int .u8 16, .int .u8 17] 5)))
          clear hQ hL10 CW5 X0 B
          go_wp2_with fail
          refine (uh C8 _ _ _ (uh I16)).mono ?_
          rintro e w11 ⟨v11, rfl, hQ⟩
          have B11 := hide (bl_tr (al1p w10 (Obj.cells #[.int .u8 16, .int .u8 17] 5)) (uh hQ).1.2)
          have A11 := hide (uh hQ).1
          replace I10 := hide ((uh I10).below (uh B11))
          clear hQ C8 I16 X16 B11
          go_wp2_with fail
          refine (uh C7 _ _ _ (uh I10)).mono ?_
          rintro e w12 ⟨v12, rfl, hQ⟩
          obtain ⟨q12, d12, hq12, hL12, _⟩ := (uh hQ).1.form
          subst hq12
          have L12 := hide hL12
          replace A11 := hide ((uh A11).below (uh hQ).1.2)
          clear hQ hL12 C7 I10
          go_wp2_with (refine wpList_append_ls rfl (.tmp 69) (.tmp 71) 28 rfl (w10.alloc (Obj.cells #[.int .u8 16, .int .u8 17] 5)) 5 i1 (.int .u8 0) 1 Tryz.underlying28 hi1 y1 z1 b1 rfl (int_one .u8) _ M8 rfl (uh A11) q12 d12 M7 rfl (uh L12) (by unfold maxLen; simp <;> omega) (by simp <;> omega) ?_; intro v13 w13 O13; have A13 := hide O13; clear O13; rw [uh HXC] at A13)
          obtain ⟨q13, d13, hq13, hL13, _⟩ := (uh A13).form
          subst hq13
          have IC := hide (hL13.ints (isB_wf (uh HC)))
          have X0 := hide ((uh X0a).below (uh A13).2)
          have B := hide (bl_tr (uh Ba) (uh A13).2)
          clear A13 hL13 X0a Ba
          refine (uh CD _ _ _ (uh IC)).mono ?_
          rintro e w25 ⟨y, rfl, hq⟩
          obtain ⟨g1, g2, g3⟩ := uh hq
          replace X0 := hide ((uh X0).below g3)
          replace B := hide (bl_tr (uh B) g3)
          have S := hide (fun v (hv : Below w25.heap.size w25 v) => uh SM y v (bl_tr (uh B) hv) (g2.below hv) g1)
          clear hq g1 g2 g3 CD SM
          have x0 := (uh X0).cell
          have z0 := (uh X0).lt
          obtain ⟨yops, ynm, ynodes, yqn, ycn, yinits, yqi, yci, yinp, yqp, ycp, yout, yqo, yco⟩ := y
          simp only [moV, moCells, strV] at S ⊢
          go_wp2_with fail
          refine (uh S _ (al1p w25 (Obj.cells #[.int .i64 yops, .string (strOfNums ynm), .slice yqn ynodes.length ycn, .slice yqi yinits.length yci, .slice yqp yinp.length ycp, .slice yqo yout.length yco] 26))).mono ?_
          rintro e w26 ⟨rfl, hb⟩
          replace B := hide (bl_tr (uh B) (bl_tr (al1p w25 (Obj.cells #[.int .i64 yops, .string (strOfNums ynm), .slice yqn ynodes.length ycn, .slice yqi yinits.length yci, .slice yqp yinp.length ycp, .slice yqo yout.length yco] 26)) hb))
          clear hb S x0 z0
          go_wp2_with fail
          go_ret
          exact ⟨rfl, uh B⟩
    · have gl : (2000000 : Int) < ((encodeV M0.d).1.length : Int) := by omega
      generalize msgB (graphF M0.d) = G at CP
      generalize (encodeV M0.d).1 = R at CE CP HB gl
      clear hl hB hPV HE1 hlen h0 s0 u0 ho
      obtain ⟨aops, anm, anodes, aqn, acn, ainits, aqi, aci, ainp, aqp, acp, aout, aqo, aco⟩ := M0
      simp only [moV, moCells, strV] at CE ⊢
      go_enter Tryz.func4, Tryz.ntmps4
      go_wp2_with fail
      refine (awake7_any _).mono ?_
      rintro e w1 ⟨rfl, hb⟩
      have X0 := hide (Box.below (Box.new W #[.int .i64 aops, .string (strOfNums anm), .slice aqn anodes.length acn, .slice aqi ainits.length aci, .slice aqp ainp.length acp, .slice aqo aout.length aco] 26) hb)
      have B := hide (bl_tr (al1p _ _) hb)
      have x0 := (uh X0).cell
      clear hb
      go_wp2_with fail
      refine (uh CE _ (uh B)).mono ?_
      rintro e w2 ⟨v2, rfl, hQ⟩
      obtain ⟨q2, d2, hq2, hL2, _⟩ := hQ.form
      subst hq2
      have I2 := hide (hL2.ints (isB_wf (uh HB)))
      replace B := hide (bl_tr (uh B) hQ.2)
      clear hQ hL2 CE x0
      go_wp2_with fail
      refine (uh CP _ _ _ (uh I2)).mono ?_
      rintro e w3 ⟨⟨q3, d3, rfl, hI⟩, hb⟩
      replace B := hide (bl_tr (uh B) hb)
      clear hb hI CP I2
      simp only
      go_wp2_with fail
      go_ret
      exact ⟨rfl, uh B⟩
  · obtain ⟨h1, h2⟩ := enc_no h0
    have CP := hide (fun p c v (hi : Ints .u8 v p c []) => mparts_any p c [] v hi (by simp))
    rw [parts_nil] at CP
    rw [h1] at CE
    have t0 : ((encodeV M0.d).2 != 0) = true := bneTp h0
    clear h2 h1 h0
    generalize (encodeV M0.d).2 = E at CE t0
    clear s0 u0 ho
    obtain ⟨aops, anm, anodes, aqn, acn, ainits, aqi, aci, ainp, aqp, acp, aout, aqo, aco⟩ := M0
    simp only [moV, moCells, strV, List.length_nil] at CE CP ⊢
    go_enter Tryz.func4, Tryz.ntmps4
    go_wp2_with fail
    refine (awake7_any _).mono ?_
    rintro e w1 ⟨rfl, hb⟩
    have X0 := hide (Box.below (Box.new W #[.int .i64 aops, .string (strOfNums anm), .slice aqn anodes.length acn, .slice aqi ainits.length aci, .slice aqp ainp.length acp, .slice aqo aout.length aco] 26) hb)
    have B := hide (bl_tr (al1p _ _) hb)
    have x0 := (uh X0).cell
    clear hb
    go_wp2_with fail
    refine (uh CE _ (uh B)).mono ?_
    rintro e w2 ⟨v2, rfl, hQ⟩
    obtain ⟨q2, d2, hq2, hL2, _⟩ := hQ.form
    subst hq2
    have I2 := hide (hL2.ints (fun x hx => by cases hx))
    replace B := hide (bl_tr (uh B) hQ.2)
    clear hQ hL2 CE x0
    simp only [List.length_nil]
    go_wp2_with fail
    refine (uh CP _ _ _ (uh I2)).mono ?_
    rintro e w3 ⟨⟨q3, d3, rfl, hI⟩, hb⟩
    replace B := hide (bl_tr (uh B) hb)
    clear hb hI CP I2
    go_wp2_with fail
    go_ret
    exact ⟨rfl, uh B⟩

set_option maxRecDepth 100000 in
theorem contract (H : Type) (enc : TypeId × Value → H) (W : World) (base : Nat) (args : Array Value) (ds gs : List (DataW H)) (before : List MemPlace)
    (hval0 : ∀ (j : Nat) t v, Tryz.f4.params[j]? = some t → args[j]? = some v → Value.okWide Tryz.prog W .any base t v)
    (hW : DataW.Whole enc Tryz.prog Tryz.f4.params.toList Rows.onnxTurnsSpec.vars false W args.toList ds gs before) (hsz0 : (DataW.weightsEach Tryz.prog (Tryz.f4.params.toList ++ Rows.onnxTurnsSpec.plain.varTypes Tryz.prog) (ds ++ gs)).all (· ≤ reachBytes) = true) :
    Calls Tryz.prog 4 args W fun e W' => ∃ v, e = .returned v ∧ Rows.onnxTurnsSpec.post enc Tryz.prog Tryz.f4 false true false false W args v W' := by
  have hval : ∀ (j : Nat) t v, Tryz.f4.params[j]? = some t → args[j]? = some v → Value.okWide Tryz.prog W .any base t v := hval0
  have hW' := hW
  obtain ⟨p, q, hA0, hV, rfl, hfz, hnd⟩ := hW
  have hA : DataW.TrodAll enc Tryz.prog W 0 (fun _ => true) true Tryz.f4.params.toList args.toList ds p := hA0
  have hsz : (DataW.weightsEach Tryz.prog (Tryz.f4.params.toList ++ Rows.onnxTurnsSpec.plain.varTypes Tryz.prog) (ds ++ gs)).all (· ≤ reachBytes) = true := hsz0
  clear hsz0
  rw [Tryz.params4] at hA hval hsz
  obtain ⟨v0, vs0, d0, ds0, pl0, q0, hargs, rfl, rfl, h0, r0⟩ := trodAll_cons hA
  obtain ⟨rfl, rfl, rfl⟩ := trodAll_nil r0
  obtain rfl : args = #[v0] := by cases args; simp_all
  obtain ⟨rfl, rfl⟩ := trodVars_none hV
  have h0k := h0
  obtain ⟨M0, rfl, s0, g0⟩ := mo_open (hval 0 26 v0 rfl rfl) h0
  have hlt0 : ∀ y ∈ pl0, y.block < W.heap.size := fun y hy => hW'.lt y (by simp [hy])
  have u0 : MoLt M0 := g0 (fun m hm => by have h9 := List.all_eq_true.1 hsz m (DataW.weights_mem_each (j := 0) rfl rfl m hm); simpa using h9)
  clear hA0 hval0
  simp only [List.append_nil] at hW'
  refine (walk M0 W s0 u0).mono fun e W' ⟨he, bel⟩ => ?_
  subst he
  exact ⟨_, rfl, _, _, _, [], _, [], hW', trodAll_mk1 (shut_bool Tryz.underlying4 _), (trodAll_cons_mk (Below.trod laidOut (by kernel_rfl) (of_decide_eq_true (by kernel_rfl)) h0k bel hlt0) trodAll_mk0), rfl, bel.frame _, fun h => by cases h⟩

set_option maxRecDepth 100000 in
theorem lifted (os : Os) (started : os.Started) (H : Type) (enc : TypeId × Value → H) :
    ReturnsInHanded {} Tryz.checked os 4 .any (Rows.onnxTurnsSpec.pre6 enc Tryz.prog Tryz.f4 Rows.onnxTurnsRow.domain false) (Rows.onnxTurnsSpec.post enc Tryz.prog Tryz.f4 false true false false) := by
  refine returnsInHanded_of_change_sized (C := Tryz.checked) own started (by kernel_rfl) Tryz.func4
    (ChangeSpec.witness6 (enc := enc) (C := Tryz.checked) false ⟨#[], #[.agg #[.int .i64 0, .string { data := #[] }, .slice none 0 0, .slice none 0 0, .slice none 0 0, .slice none 0 0]], []⟩ 8 (by kernel_rfl) (by kernel_rfl) (by kernel_rfl) (by kernel_rfl)) ?_
  intro W base args ds gs before hval hW hcnd hsz _
  exact contract H enc W base args ds gs before hval hW hsz

theorem proved : Rows.OnnxTurnsSaid :=
  OpenClaim.holds_of_wide 4 Tryz.f4 rfl rfl rfl rfl rfl rfl rfl ⟨rfl, rfl, rfl, rfl, rfl⟩ rfl rfl rfl rfl rfl (by kernel_rfl) Tryz.func4 (by kernel_rfl)
    (of_decide_eq_true (by kernel_rfl)) (by unfold Func.isWrapper; first | (rw [if_pos (by decide +kernel)]; kernel_rfl) | (rw [if_neg (by decide +kernel)]; exact ⟨rfl, rfl⟩))
    (fun os started H enc _ => lifted os started H enc)
#print axioms proved
end Go.Proofs.YtaikppgoahdjbabGreat.onnxTurns
