import Derived.Test.YtaikppgoahdjbabGreatRows
import Derived.WalkKit
import Derived.ProofKit
import Derived.OpenShut
import Derived.Below
import Derived.Carry
import Derived.SizedLaws
import Derived.Test.YtaikppgoahdjbabGreatV52
import Derived.Test.YtaikppgoahdjbabGreatV14

/- For all models: the graph in two fields, cut between any two of its own, the set ahead of them, a set of another domain between: read as the same model; no condition. -/
namespace Go.Proofs.YtaikppgoahdjbabGreat.onnxSplits
open Go.ChangeShapes Go.WideShapes Go.ChangeAt Go.RowKit
set_option linter.unusedVariables false

theorem own : ownKnob Tryz.prog.godebug = none := by kernel_rfl
theorem laidOut : laidOutB Tryz.prog = true := by kernel_rfl

/-- What the calls behind the cut come to. -/
def SplitC (GF : List Fld) (D : ModelD) (K : Nat) (O1 O2 M8 M7 N8 N7 XC : List Int) : Prop :=
  (∀ (q : Option Addr) (d : Nat) (T : List FA) (v : World), T.map FA.f = GF.take K → Fls v q d T → sumD T ≤ 140737480000000 → Calls Tryz.prog 9 #[.slice q T.length d] v fun e w' => ∃ u, e = .returned (.tuple #[u, .int .i64 0]) ∧ Hid (OwnG 5 (Value.int .u8) v w' u O1 ∧ isB O1)) ∧
  (∀ (q : Option Addr) (d : Nat) (T : List FA) (v : World), T.map FA.f = GF.drop K → Fls v q d T → sumD T ≤ 140737480000000 → Calls Tryz.prog 9 #[.slice q T.length d] v fun e w' => ∃ u, e = .returned (.tuple #[u, .int .i64 0]) ∧ Hid (OwnG 5 (Value.int .u8) v w' u O2 ∧ isB O2)) ∧
  (∀ p c v, Ints .u8 v p c [16, 17] → Calls Tryz.prog 10 #[.int .i64 8, .slice p 2 c] v fun e w' => ∃ u, e = .returned u ∧ Hid (OwnG 5 (Value.int .u8) v w' u M8 ∧ isB M8)) ∧
  (∀ p c v, Ints .u8 v p c O1 → Calls Tryz.prog 10 #[.int .i64 7, .slice p O1.length c] v fun e w' => ∃ u, e = .returned u ∧ Hid (OwnG 5 (Value.int .u8) v w' u M7 ∧ isB M7)) ∧
  (∀ p c v, Ints .u8 v p c [10, 1, 120, 16, 3] → Calls Tryz.prog 10 #[.int .i64 8, .slice p 5 c] v fun e w' => ∃ u, e = .returned u ∧ Hid (OwnG 5 (Value.int .u8) v w' u N8 ∧ isB N8)) ∧
  (∀ p c v, Ints .u8 v p c O2 → Calls Tryz.prog 10 #[.int .i64 7, .slice p O2.length c] v fun e w' => ∃ u, e = .returned u ∧ Hid (OwnG 5 (Value.int .u8) v w' u N7 ∧ isB N7)) ∧
  (∀ p c v, Ints .u8 v p c XC → Calls Tryz.prog 11 #[.slice p XC.length c] v fun e w' => ∃ x : MoA, e = .returned (.tuple #[moV x, .int .i64 0]) ∧ Hid (D = x.d ∧ MoIn 0 w' x ∧ Below v.heap.size v w')) ∧
  isB XC ∧ M8 ++ M7 ++ N8 ++ N7 = XC
theorem split_calls {m : ModelD} (ho : okM m) (h0 : (encodeV m).2 = 0) (hl : (encodeV m).1.length ≤ 2000000) (K : Nat) :
    ∃ O1 O2 M8 M7 N8 N7 XC : List Int, O1.length ≤ 2000000 ∧ O2.length ≤ 2000000 ∧ M8.length ≤ 100 ∧ M7.length ≤ 2000100 ∧ N8.length ≤ 100 ∧ N7.length ≤ 2000100 ∧ SplitC (graphF m) m K O1 O2 M8 M7 N8 N7 XC := by
  obtain ⟨O1, e1⟩ : ∃ O, (writeV ((graphF m).take K)).1 = O := ⟨_, rfl⟩
  obtain ⟨O2, e2⟩ : ∃ O, (writeV ((graphF m).drop K)).1 = O := ⟨_, rfl⟩
  obtain ⟨M8, e3⟩ : ∃ O, (writeV [blkF 8 [16, 17]]).1 = O := ⟨_, rfl⟩
  obtain ⟨M7, e4⟩ : ∃ O, (writeV [blkF 7 O1]).1 = O := ⟨_, rfl⟩
  obtain ⟨N8, e5⟩ : ∃ O, (writeV [blkF 8 [10, 1, 120, 16, 3]]).1 = O := ⟨_, rfl⟩
  obtain ⟨N7, e6⟩ : ∃ O, (writeV [blkF 7 O2]).1 = O := ⟨_, rfl⟩
  obtain ⟨a1, a2, a3, a4, a5, a6, a7, a8, a9, a10, a11⟩ := split_all ho h0 hl (List.take_append_drop K (graphF m)) e1 e2 e3 e4 e5 e6
  refine ⟨O1, O2, M8, M7, N8, N7, _, a3, a4, a5, a6, a7, a8, ?_, ?_, ?_, ?_, ?_, ?_, ?_, a9, rfl⟩
  · intro q d T v hT hF hs
    have k := rwriteO_any q d T v hF hs
    rw [hT, a1, e1] at k
    exact k
  · intro q d T v hT hF hs
    have k := rwriteO_any q d T v hF hs
    rw [hT, a2, e2] at k
    exact k
  · intro p c v hi
    have k := mmessage_any 8 p c _ v rfl hi (by simp)
    rw [e3] at k
    exact k
  · intro p c v hi
    have k := mmessage_any 7 p c _ v rfl hi (by omega)
    rw [e4] at k
    exact k
  · intro p c v hi
    have k := mmessage_any 8 p c _ v rfl hi (by simp)
    rw [e5] at k
    exact k
  · intro p c v hi
    have k := mmessage_any 7 p c _ v rfl hi (by omega)
    rw [e6] at k
    exact k
  · intro p c v hi
    have k := cdecode_any p c _ v hi
    rw [a10] at k
    refine k.mono fun e u hh => ?_
    obtain ⟨x, he, hh⟩ := hh
    obtain ⟨⟨_, g1⟩, g2, g3⟩ := uh hh
    exact ⟨x, he, hide ⟨by rw [g1 rfl, a11], g2, g3⟩⟩
set_option maxRecDepth 100000 in
set_option maxHeartbeats 4000000 in
/-- The statement's call returns true, whatever came in. -/
theorem walk (M0 : MoA) (a1 : Int) (W : World) (s0 : MoIn W.heap.size W M0) (u0 : MoLt M0) (w1 : (Lit.int .i64 a1).wf = true) :
    Calls Tryz.prog 3 #[moV M0, .int .i64 a1] W fun e W' => e = .returned (.bool true) ∧ Below W.heap.size W W' := by
  have ho := mo_ok7 s0
  have CE := hide (fun v (hv : Below W.heap.size W v) => cencode_any M0 v (s0.below hv) u0 hv.size)
  by_cases h0 : (encodeV M0.d).2 = 0
  · have hB := enc_isB ho h0
    have hPV := parts_ok ho h0
    have HE1 := hide (encode_ok h0)
    have hlen : (encodeV M0.d).1.length ≤ 4194304 := by rw [(uh HE1).2.2]; exact (uh HE1).2.1
    have CP := hide (fun p c v (hi : Ints .u8 v p c (encodeV M0.d).1) => mparts_any p c _ v hi hlen)
    rw [hPV] at CP
    rw [h0] at CE
    have HB := hide hB
    by_cases hl : (encodeV M0.d).1.length ≤ 2000000
    · have SPL := hide (fun K => split_calls ho h0 hl K)
      have hgl : (msgB (graphF M0.d)).length ≤ 4194304 := by have := graph_le (uh HE1).2.1; have := (uh HE1).2.1; omega
      have hgw := graph_wr ho hgl
      have hrd := read_msg hgw hgl
      have HGB := hide (msg_isB8 hgw hgl)
      have CR : Hid (∀ p c v, Ints .u8 v p c (msgB (graphF M0.d)) → Calls Tryz.prog 8 #[.slice p (msgB (graphF M0.d)).length c] v fun e w' => (∃ q d L, e = .returned (.tuple #[.slice q L.length d, .int .i64 0]) ∧ Hid (L.map FA.f = graphF M0.d ∧ Fls w' q d L)) ∧ Below v.heap.size v w') := hide (fun p c v hi => by
        have k := rread_any p c _ v hi
        rw [hrd] at k
        exact k)
      have RS : Hid (∀ L : List FA, L.map FA.f = graphF M0.d → sumD L + L.length ≤ 4194304) := hide (fun L hL => read_sum (uh HGB) hgl (by rw [hrd]; exact hL))
      have gl : ¬ (2000000 : Int) < ((encodeV M0.d).1.length : Int) := by omega
      clear hB hPV hlen HE1 h0 hl hgl hgw hrd
      generalize msgB (graphF M0.d) = G at CP CR HGB
      generalize graphF M0.d = GF at CR RS SPL
      generalize (encodeV M0.d).1 = R at CE CP HB gl
      have SM := hide (fun (y : MoA) v (hv : Below W.heap.size W v) (hy : MoIn 0 v y) (he : M0.d = y.d) => rmodel_true M0 y v (s0.below hv) hy he)
      generalize M0.d = D at SPL SM
      obtain ⟨i1, hi1, y1, z1, b1⟩ := info_parts Tryz.infoU8
      have hand := and65535_i64 a1
      have hN : 0 ≤ a1 % 65536 ∧ a1 % 65536 < 65536 := ⟨Int.emod_nonneg _ (by decide), Int.emod_lt_of_pos _ (by decide)⟩
      generalize a1 % 65536 = N at hand hN
      obtain ⟨hN0, hN1⟩ := hN
      clear s0 u0 ho w1
      obtain ⟨aops, anm, anodes, aqn, acn, ainits, aqi, aci, ainp, aqp, acp, aout, aqo, aco⟩ := M0
      simp only [moV, moCells, strV] at CE SM ⊢
      go_enter Tryz.func3, Tryz.ntmps3
      go_wp2_with fail
      refine (awake7_any _).mono ?_
      rintro e w1 ⟨rfl, hb⟩
      have X0 := hide (Box.below (Box.new W #[.int .i64 aops, .string (strOfNums anm), .slice aqn anodes.length acn, .slice aqi ainits.length aci, .slice aqp ainp.length acp, .slice aqo aout.length aco] 26) hb)
      have B := hide (bl_tr (al1p _ _) hb)
      have x0 := (uh X0).cell
      clear hb
      go_wp2_with fail
      refine (uh CE _ (uh B)).mono ?_
      rintro e w2 ⟨v2, rfl, hQ⟩
      obtain ⟨q2, d2, hq2, hL2, _⟩ := hQ.form
      subst hq2
      have I2 := hide (hL2.ints (isB_wf (uh HB)))
      replace X0 := hide ((uh X0).below hQ.2)
      replace B := hide (bl_tr (uh B) hQ.2)
      clear hQ hL2 CE x0
      go_wp2_with fail
      refine (uh CP _ _ _ (uh I2)).mono ?_
      rintro e w3 ⟨⟨q3, d3, rfl, hI⟩, hb⟩
      have I3 := hide hI
      replace X0 := hide ((uh X0).below hb)
      replace B := hide (bl_tr (uh B) hb)
      clear hb hI CP I2
      simp only
      go_wp2_with fail
      refine (uh CR _ _ _ (uh I3)).mono ?_
      rintro e w4 ⟨⟨q4, d4, L, rfl, hL⟩, hb⟩
      obtain ⟨hL1, hL2⟩ := uh hL
      have HLS := hide (uh RS L hL1)
      have HL := hide hL1
      have F4 := hide hL2
      replace X0 := hide ((uh X0).below hb)
      replace B := hide (bl_tr (uh B) hb)
      clear hb hL hL1 hL2 CR I3 RS
      have hs := uh HLS
      by_cases hL0 : L.length = 0
      · have hLn : L = [] := List.eq_nil_of_length_eq_zero hL0
        subst hLn
        obtain ⟨O1, O2, M8, M7, N8, N7, XC, n1, n2, n3, n4, n5, n6, HS⟩ := uh SPL 0
        obtain ⟨W1, W2, HSr⟩ := HS
        have HS2 := hide HSr
        have hGF : GF = [] := (uh HL).symm
        have CW1 := hide (W1 q4 d4 [] w4 (by rw [hGF]; rfl) (uh F4) (by simp [sumD]))
        have W2h := hide (fun q d v (h : Fls v q d []) => W2 q d [] v (by rw [hGF]; rfl) h (by simp [sumD]))
        have hd4 := (uh F4).1.2.2.2
        clear W1 W2 HSr SPL hs HLS HL hGF hL0
        simp only [List.length_nil] at CW1 W2h ⊢
        have hd63 := (uh F4).1.2.1
        have hq : (q4 = none ∧ d4 = 0) ∨ (∃ a, q4 = some a ∧ d4 = 0) ∨ ∃ a, q4 = some a ∧ ¬ d4 = 0 := by
          cases q4 with
          | none => exact .inl ⟨rfl, hd4 rfl⟩
          | some a =>
            by_cases hz : d4 = 0
            · exact .inr (.inl ⟨a, rfl, hz⟩)
            · exact .inr (.inr ⟨a, rfl, hz⟩)
        clear hd4
        rcases hq with ⟨rfl, rfl⟩ | ⟨a4, rfl, rfl⟩ | ⟨a4, rfl, hd0⟩
        all_goals
          go_wp2_with fail
          refine (uh CW1).mono ?_
          rintro e w5 ⟨v5, rfl, hQ⟩
          obtain ⟨q5, d5, hq5, hL5, _⟩ := (uh hQ).1.form
          subst hq5
          have I5 := hide (hL5.ints (isB_wf (uh hQ).2))
          have B5 := hide (uh hQ).1.2
          replace X0 := hide ((uh X0).below (uh B5))
          replace B := hide (bl_tr (uh B) (uh B5))
          replace F4 := hide ((uh F4).below (uh B5))
          clear hQ hL5 CW1
          have CW2 := hide (uh W2h _ _ _ (uh F4))
          clear W2h
          go_wp2_with fail
          refine (uh CW2).mono ?_
          rintro e w6 ⟨v6, rfl, hQ⟩
          obtain ⟨q6, d6, hq6, hL6, _⟩ := (uh hQ).1.form
          subst hq6
          have I6 := hide (hL6.ints (isB_wf (uh hQ).2))
          replace I5 := hide ((uh I5).below (uh hQ).1.2)
          replace X0 := hide ((uh X0).below (uh hQ).1.2)
          replace B := hide (bl_tr (uh B) (uh hQ).1.2)
          clear hQ hL6 CW2 F4 B5
          obtain ⟨C8, C7, E8, E7, CD, hXB, hXC⟩ := uh HS2
          have C8 := hide C8
          have C7 := hide C7
          have E8 := hide E8
          have E7 := hide E7
          have CD := hide CD
          have HC := hide hXB
          have HXC := hide hXC
          clear HS2 hXB hXC
          have X16 := hide (Box.new w6 #[.int .u8 16, .int .u8 17] 5)
          have I16 := hide (box_ints (uh X16) [16, 17] rfl (by decide) (by decide))
          go_wp2_with fail
          refine (uh C8 _ _ _ (uh I16)).mono ?_
          rintro e w7 ⟨v7, rfl, hQ⟩
          obtain ⟨q7, d7, hq7, hL7, _⟩ := (uh hQ).1.form
          subst hq7
          have L7 := hide hL7
          have B7 := hide (bl_tr (al1p w6 (Obj.cells #[.int .u8 16, .int .u8 17] 5)) (uh hQ).1.2)
          have A0 := hide (OwnG.nil 5 (f := Value.int .u8) w6 w7 (uh B7))
          clear hQ hL7 C8 I16 X16
          go_wp2_with (refine wpList_append_ls rfl (.tmp 79) (.tmp 81) 28 rfl w6 5 i1 (.int .u8 0) 1 Tryz.underlying28 hi1 y1 z1 b1 rfl (int_one .u8) _ [] rfl (uh A0) q7 d7 M8 rfl (uh L7) (by unfold maxLen; simp <;> omega) (by simp <;> omega) ?_; intro v8 w8 O8; have A8 := hide O8; clear O8; rw [List.nil_append] at A8)
          have I58 := hide ((uh I5).below (uh A8).2)
          refine (uh C7 _ _ _ (uh I58)).mono ?_
          rintro e w9 ⟨v9, rfl, hQ⟩
          obtain ⟨q9, d9, hq9, hL9, _⟩ := (uh hQ).1.form
          subst hq9
          have L9 := hide hL9
          have A9 := hide ((uh A8).below (uh hQ).1.2)
          clear hQ hL9 C7 I58 A8
          go_wp2_with (refine wpList_append_ls rfl (.tmp 83) (.tmp 85) 28 rfl w6 5 i1 (.int .u8 0) 1 Tryz.underlying28 hi1 y1 z1 b1 rfl (int_one .u8) _ M8 rfl (uh A9) q9 d9 M7 rfl (uh L9) (by unfold maxLen; simp <;> omega) (by simp <;> omega) ?_; intro v10 w10 O10; have A10 := hide O10; clear O10)
          have X5 := hide (Box.new w10 #[.int .u8 10, .int .u8 1, .int .u8 120, .int .u8 16, .int .u8 3] 5)
          have I5x := hide (box_ints (uh X5) [10, 1, 120, 16, 3] rfl (by decide) (by decide))
          refine (uh E8 _ _ _ (uh I5x)).mono ?_
          rintro e w11 ⟨v11, rfl, hQ⟩
          obtain ⟨q11, d11, hq11, hL11, _⟩ := (uh hQ).1.form
          subst hq11
          have L11 := hide hL11
          have A11 := hide ((uh A10).below (bl_tr (al1p w10 (Obj.cells #[.int .u8 10, .int .u8 1, .int .u8 120, .int .u8 16, .int .u8 3] 5)) (uh hQ).1.2))
          clear hQ hL11 E8 I5x X5 A10
          go_wp2_with (refine wpList_append_ls rfl (.tmp 87) (.tmp 89) 28 rfl w6 5 i1 (.int .u8 0) 1 Tryz.underlying28 hi1 y1 z1 b1 rfl (int_one .u8) _ (M8 ++ M7) rfl (uh A11) q11 d11 N8 rfl (uh L11) (by unfold maxLen; simp <;> omega) (by simp <;> omega) ?_; intro v12 w12 O12; have A12 := hide O12; clear O12)
          have I612 := hide ((uh I6).below (uh A12).2)
          refine (uh E7 _ _ _ (uh I612)).mono ?_
          rintro e w13 ⟨v13, rfl, hQ⟩
          obtain ⟨q13, d13, hq13, hL13, _⟩ := (uh hQ).1.form
          subst hq13
          have L13 := hide hL13
          have A13 := hide ((uh A12).below (uh hQ).1.2)
          clear hQ hL13 E7 I612 A12
          go_wp2_with (refine wpList_append_ls rfl (.tmp 91) (.tmp 93) 28 rfl w6 5 i1 (.int .u8 0) 1 Tryz.underlying28 hi1 y1 z1 b1 rfl (int_one .u8) _ (M8 ++ M7 ++ N8) rfl (uh A13) q13 d13 N7 rfl (uh L13) (by unfold maxLen; simp <;> omega) (by simp <;> omega) ?_; intro v14 w14 O14; have A14 := hide O14; clear O14; rw [uh HXC] at A14)
          obtain ⟨q14, d14, hq14, hL14, _⟩ := (uh A14).form
          subst hq14
          have IC := hide (hL14.ints (isB_wf (uh HC)))
          replace X0 := hide ((uh X0).below (uh A14).2)
          replace B := hide (bl_tr (uh B) (uh A14).2)
          clear A14 hL14
          refine (uh CD _ _ _ (uh IC)).mono ?_
          rintro e w25 ⟨y, rfl, hq⟩
          obtain ⟨g1, g2, g3⟩ := uh hq
          replace X0 := hide ((uh X0).below g3)
          replace B := hide (bl_tr (uh B) g3)
          have S := hide (fun v (hv : Below w25.heap.size w25 v) => uh SM y v (bl_tr (uh B) hv) (g2.below hv) g1)
          clear hq g1 g2 g3 CD SM
          have x0 := (uh X0).cell
          have z0 := (uh X0).lt
          obtain ⟨yops, ynm, ynodes, yqn, ycn, yinits, yqi, yci, yinp, yqp, ycp, yout, yqo, yco⟩ := y
          simp only [moV, moCells, strV] at S ⊢
          go_wp2_with fail
          refine (uh S _ (al1p w25 (Obj.cells #[.int .i64 yops, .string (strOfNums ynm), .slice yqn ynodes.length ycn, .slice yqi yinits.length yci, .slice yqp yinp.length ycp, .slice yqo yout.length yco] 26))).mono ?_
          rintro e w26 ⟨rfl, hb⟩
          replace B := hide (bl_tr (uh B) (bl_tr (al1p w25 (Obj.cells #[.int .i64 yops, .string (strOfNums ynm), .slice yqn ynodes.length ycn, .slice yqi yinits.length yci, .slice yqp yinp.length ycp, .slice yqo yout.length yco] 26)) hb))
          clear hb S x0 z0
          go_wp2_with fail
          go_ret
          exact ⟨rfl, uh B⟩
      · have hLp : (0 : Int) < (L.length : Int) := by omega
        obtain ⟨K, hK, hKl⟩ : ∃ K : Nat, N % ((L.length : Int) + 1) = (K : Int) ∧ K ≤ L.length := by
          refine ⟨(N % ((L.length : Int) + 1)).toNat, ?_, ?_⟩
          · have := Int.emod_nonneg N (show (L.length : Int) + 1 ≠ 0 by omega)
            omega
          · have := Int.emod_lt_of_pos N (show (0 : Int) < (L.length : Int) + 1 by omega)
            omega
        obtain ⟨O1, O2, M8, M7, N8, N7, XC, n1, n2, n3, n4, n5, n6, HS⟩ := uh SPL K
        obtain ⟨W1, W2, HSr⟩ := HS
        have HS2 := hide HSr
        obtain ⟨b4, o4, hq4, hb4, _⟩ := (uh F4).1.2.2.1 (by omega)
        subst hq4
        have hcap := (uh F4).1.1
        have hcap2 := (uh F4).1.2.1
        have sc := sumD_cut L K
        have hLb : L.length ≤ 4194304 := by omega
        have CW1 := hide (W1 (some ⟨b4, o4, none⟩) d4 (L.take K) w4 (by rw [List.map_take, uh HL]) ((uh F4).take K) (by omega))
        rw [List.length_take, Nat.min_eq_left hKl] at CW1
        have W2h : Hid (∀ v, Fls v (some ⟨b4, o4, none⟩) d4 L → Calls Tryz.prog 9 #[.slice (some ⟨b4, o4 + K * 4, none⟩) (L.length - K) (d4 - K)] v fun e w' => ∃ u, e = .returned (.tuple #[u, .int .i64 0]) ∧ Hid (OwnG 5 (Value.int .u8) v w' u O2 ∧ isB O2)) := hide (fun v hF => by
          have k := W2 (some ⟨b4, o4 + K * 4, none⟩) (d4 - K) (L.drop K) v (by rw [List.map_drop, uh HL]) (hF.drop K hKl) (by omega)
          rw [List.length_drop] at k
          exact k)
        have W2e : Hid (∀ v, d4 = K → Calls Tryz.prog 9 #[.slice (some ⟨b4, o4, none⟩) (L.length - K) 0] v fun e w' => ∃ u, e = .returned (.tuple #[u, .int .i64 0]) ∧ Hid (OwnG 5 (Value.int .u8) v w' u O2 ∧ isB O2)) := hide (fun v hd => by
          have h0 : L.length - K = 0 := by omega
          have h1 : L.drop K = [] := List.drop_eq_nil_of_le (by omega)
          have k := W2 (some ⟨b4, o4, none⟩) 0 [] v (by rw [← uh HL, ← List.map_drop, h1]) ⟨⟨by simp, by omega, fun h => absurd h (by simp), fun h => by cases h⟩, fun a ha => by cases ha⟩ (by simp [sumD])
          rw [h0]
          exact k)
        clear W1 W2 HSr SPL hs HLS HL sc hL0
        obtain ⟨LL, hLL⟩ : ∃ n, L.length = n := ⟨_, rfl⟩
        rw [hLL] at hLp hK hKl hcap W2h W2e hLb ⊢
        clear hLL
        have hKd : K ≤ d4 := by omega
        have hz1 : ¬ ((LL : Int) + 1 = 0) := by omega
        have hz2 : (((LL : Int) + 1) == 0) = false := by simp; omega
        go_wp2_with fail
        refine (uh CW1).mono ?_
        rintro e w5 ⟨v5, rfl, hQ⟩
        obtain ⟨q5, d5, hq5, hL5, _⟩ := (uh hQ).1.form
        subst hq5
        have I5 := hide (hL5.ints (isB_wf (uh hQ).2))
        have B5 := hide (uh hQ).1.2
        replace X0 := hide ((uh X0).below (uh B5))
        replace B := hide (bl_tr (uh B) (uh B5))
        replace F4 := hide ((uh F4).below (uh B5))
        clear hQ hL5 CW1
        obtain ⟨A2, C2, N2, hA, CW2⟩ : ∃ A2 C2 N2, (d4 = K ∧ A2 = (⟨b4, o4, none⟩ : Addr) ∧ C2 = 0 ∧ N2 = 0 ∨ ¬ d4 = K ∧ A2 = ⟨b4, o4 + K * 4, none⟩ ∧ C2 = d4 - K ∧ N2 = LL - K) ∧ Hid (Calls Tryz.prog 9 #[.slice (some A2) N2 C2] w5 fun e w' => ∃ u, e = .returned (.tuple #[u, .int .i64 0]) ∧ Hid (OwnG 5 (Value.int .u8) w5 w' u O2 ∧ isB O2)) := by
          by_cases hdk : d4 = K
          · exact ⟨_, _, _, .inl ⟨hdk, rfl, rfl, rfl⟩, hide (by have k := uh W2e w5 hdk; rwa [show LL - K = 0 by omega] at k)⟩
          · exact ⟨_, _, _, .inr ⟨hdk, rfl, rfl, rfl⟩, hide (uh W2h w5 (uh F4))⟩
        clear W2h W2e
        rcases hA with ⟨hdk, rfl, rfl, rfl⟩ | ⟨hdk, rfl, rfl, rfl⟩
        all_goals
          try subst hdk
          go_wp2_with fail
          refine (uh CW2).mono ?_
          rintro e w6 ⟨v6, rfl, hQ⟩
          obtain ⟨q6, d6, hq6, hL6, _⟩ := (uh hQ).1.form
          subst hq6
          have I6 := hide (hL6.ints (isB_wf (uh hQ).2))
          replace I5 := hide ((uh I5).below (uh hQ).1.2)
          replace X0 := hide ((uh X0).below (uh hQ).1.2)
          replace B := hide (bl_tr (uh B) (uh hQ).1.2)
          clear hQ hL6 CW2 F4 B5
          obtain ⟨C8, C7, E8, E7, CD, hXB, hXC⟩ := uh HS2
          have C8 := hide C8
          have C7 := hide C7
          have E8 := hide E8
          have E7 := hide E7
          have CD := hide CD
          have HC := hide hXB
          have HXC := hide hXC
          clear HS2 hXB hXC
          have X16 := hide (Box.new w6 #[.int .u8 16, .int .u8 17] 5)
          have I16 := hide (box_ints (uh X16) [16, 17] rfl (by decide) (by decide))
          go_wp2_with fail
          refine (uh C8 _ _ _ (uh I16)).mono ?_
          rintro e w7 ⟨v7, rfl, hQ⟩
          obtain ⟨q7, d7, hq7, hL7, _⟩ := (uh hQ).1.form
          subst hq7
          have L7 := hide hL7
          have B7 := hide (bl_tr (al1p w6 (Obj.cells #[.int .u8 16, .int .u8 17] 5)) (uh hQ).1.2)
          have A0 := hide (OwnG.nil 5 (f := Value.int .u8) w6 w7 (uh B7))
          clear hQ hL7 C8 I16 X16
          go_wp2_with (refine wpList_append_ls rfl (.tmp 79) (.tmp 81) 28 rfl w6 5 i1 (.int .u8 0) 1 Tryz.underlying28 hi1 y1 z1 b1 rfl (int_one .u8) _ [] rfl (uh A0) q7 d7 M8 rfl (uh L7) (by unfold maxLen; simp <;> omega) (by simp <;> omega) ?_; intro v8 w8 O8; have A8 := hide O8; clear O8; rw [List.nil_append] at A8)
          have I58 := hide ((uh I5).below (uh A8).2)
          refine (uh C7 _ _ _ (uh I58)).mono ?_
          rintro e w9 ⟨v9, rfl, hQ⟩
          obtain ⟨q9, d9, hq9, hL9, _⟩ := (uh hQ).1.form
          subst hq9
          have L9 := hide hL9
          have A9 := hide ((uh A8).below (uh hQ).1.2)
          clear hQ hL9 C7 I58 A8
          go_wp2_with (refine wpList_append_ls rfl (.tmp 83) (.tmp 85) 28 rfl w6 5 i1 (.int .u8 0) 1 Tryz.underlying28 hi1 y1 z1 b1 rfl (int_one .u8) _ M8 rfl (uh A9) q9 d9 M7 rfl (uh L9) (by unfold maxLen; simp <;> omega) (by simp <;> omega) ?_; intro v10 w10 O10; have A10 := hide O10; clear O10)
          have X5 := hide (Box.new w10 #[.int .u8 10, .int .u8 1, .int .u8 120, .int .u8 16, .int .u8 3] 5)
          have I5x := hide (box_ints (uh X5) [10, 1, 120, 16, 3] rfl (by decide) (by decide))
          refine (uh E8 _ _ _ (uh I5x)).mono ?_
          rintro e w11 ⟨v11, rfl, hQ⟩
          obtain ⟨q11, d11, hq11, hL11, _⟩ := (uh hQ).1.form
          subst hq11
          have L11 := hide hL11
          have A11 := hide ((uh A10).below (bl_tr (al1p w10 (Obj.cells #[.int .u8 10, .int .u8 1, .int .u8 120, .int .u8 16, .int .u8 3] 5)) (uh hQ).1.2))
          clear hQ hL11 E8 I5x X5 A10
          go_wp2_with (refine wpList_append_ls rfl (.tmp 87) (.tmp 89) 28 rfl w6 5 i1 (.int .u8 0) 1 Tryz.underlying28 hi1 y1 z1 b1 rfl (int_one .u8) _ (M8 ++ M7) rfl (uh A11) q11 d11 N8 rfl (uh L11) (by unfold maxLen; simp <;> omega) (by simp <;> omega) ?_; intro v12 w12 O12; have A12 := hide O12; clear O12)
          have I612 := hide ((uh I6).below (uh A12).2)
          refine (uh E7 _ _ _ (uh I612)).mono ?_
          rintro e w13 ⟨v13, rfl, hQ⟩
          obtain ⟨q13, d13, hq13, hL13, _⟩ := (uh hQ).1.form
          subst hq13
          have L13 := hide hL13
          have A13 := hide ((uh A12).below (uh hQ).1.2)
          clear hQ hL13 E7 I612 A12
          go_wp2_with (refine wpList_append_ls rfl (.tmp 91) (.tmp 93) 28 rfl w6 5 i1 (.int .u8 0) 1 Tryz.underlying28 hi1 y1 z1 b1 rfl (int_one .u8) _ (M8 ++ M7 ++ N8) rfl (uh A13) q13 d13 N7 rfl (uh L13) (by unfold maxLen; simp <;> omega) (by simp <;> omega) ?_; intro v14 w14 O14; have A14 := hide O14; clear O14; rw [uh HXC] at A14)
          obtain ⟨q14, d14, hq14, hL14, _⟩ := (uh A14).form
          subst hq14
          have IC := hide (hL14.ints (isB_wf (uh HC)))
          replace X0 := hide ((uh X0).below (uh A14).2)
          replace B := hide (bl_tr (uh B) (uh A14).2)
          clear A14 hL14
          refine (uh CD _ _ _ (uh IC)).mono ?_
          rintro e w25 ⟨y, rfl, hq⟩
          obtain ⟨g1, g2, g3⟩ := uh hq
          replace X0 := hide ((uh X0).below g3)
          replace B := hide (bl_tr (uh B) g3)
          have S := hide (fun v (hv : Below w25.heap.size w25 v) => uh SM y v (bl_tr (uh B) hv) (g2.below hv) g1)
          clear hq g1 g2 g3 CD SM
          have x0 := (uh X0).cell
          have z0 := (uh X0).lt
          obtain ⟨yops, ynm, ynodes, yqn, ycn, yinits, yqi, yci, yinp, yqp, ycp, yout, yqo, yco⟩ := y
          simp only [moV, moCells, strV] at S ⊢
          go_wp2_with fail
          refine (uh S _ (al1p w25 (Obj.cells #[.int .i64 yops, .string (strOfNums ynm), .slice yqn ynodes.length ycn, .slice yqi yinits.length yci, .slice yqp yinp.length ycp, .slice yqo yout.length yco] 26))).mono ?_
          rintro e w26 ⟨rfl, hb⟩
          replace B := hide (bl_tr (uh B) (bl_tr (al1p w25 (Obj.cells #[.int .i64 yops, .string (strOfNums ynm), .slice yqn ynodes.length ycn, .slice yqi yinits.length yci, .slice yqp yinp.length ycp, .slice yqo yout.length yco] 26)) hb))
          clear hb S x0 z0
          go_wp2_with fail
          go_ret
          exact ⟨rfl, uh B⟩
    · have gl : (2000000 : Int) < ((encodeV M0.d).1.length : Int) := by omega
      generalize msgB (graphF M0.d) = G at CP
      generalize (encodeV M0.d).1 = R at CE CP HB gl
      clear hl hB hPV HE1 hlen h0 s0 u0 ho w1
      obtain ⟨aops, anm, anodes, aqn, acn, ainits, aqi, aci, ainp, aqp, acp, aout, aqo, aco⟩ := M0
      simp only [moV, moCells, strV] at CE ⊢
      go_enter Tryz.func3, Tryz.ntmps3
      go_wp2_with fail
      refine (awake7_any _).mono ?_
      rintro e w1 ⟨rfl, hb⟩
      have X0 := hide (Box.below (Box.new W #[.int .i64 aops, .string (strOfNums anm), .slice aqn anodes.length acn, .slice aqi ainits.length aci, .slice aqp ainp.length acp, .slice aqo aout.length aco] 26) hb)
      have B := hide (bl_tr (al1p _ _) hb)
      have x0 := (uh X0).cell
      clear hb
      go_wp2_with fail
      refine (uh CE _ (uh B)).mono ?_
      rintro e w2 ⟨v2, rfl, hQ⟩
      obtain ⟨q2, d2, hq2, hL2, _⟩ := hQ.form
      subst hq2
      have I2 := hide (hL2.ints (isB_wf (uh HB)))
      replace B := hide (bl_tr (uh B) hQ.2)
      clear hQ hL2 CE x0
      go_wp2_with fail
      refine (uh CP _ _ _ (uh I2)).mono ?_
      rintro e w3 ⟨⟨q3, d3, rfl, hI⟩, hb⟩
      replace B := hide (bl_tr (uh B) hb)
      clear hb hI CP I2
      simp only
      go_wp2_with fail
      go_ret
      exact ⟨rfl, uh B⟩
  · obtain ⟨h1, h2⟩ := enc_no h0
    have CP := hide (fun p c v (hi : Ints .u8 v p c []) => mparts_any p c [] v hi (by simp))
    rw [parts_nil] at CP
    rw [h1] at CE
    have t0 : ((encodeV M0.d).2 != 0) = true := bneTp h0
    clear h2 h1 h0
    generalize (encodeV M0.d).2 = E at CE t0
    clear s0 u0 ho w1
    obtain ⟨aops, anm, anodes, aqn, acn, ainits, aqi, aci, ainp, aqp, acp, aout, aqo, aco⟩ := M0
    simp only [moV, moCells, strV, List.length_nil] at CE CP ⊢
    go_enter Tryz.func3, Tryz.ntmps3
    go_wp2_with fail
    refine (awake7_any _).mono ?_
    rintro e w1 ⟨rfl, hb⟩
    have X0 := hide (Box.below (Box.new W #[.int .i64 aops, .string (strOfNums anm), .slice aqn anodes.length acn, .slice aqi ainits.length aci, .slice aqp ainp.length acp, .slice aqo aout.length aco] 26) hb)
    have B := hide (bl_tr (al1p _ _) hb)
    have x0 := (uh X0).cell
    clear hb
    go_wp2_with fail
    refine (uh CE _ (uh B)).mono ?_
    rintro e w2 ⟨v2, rfl, hQ⟩
    obtain ⟨q2, d2, hq2, hL2, _⟩ := hQ.form
    subst hq2
    have I2 := hide (hL2.ints (fun x hx => by cases hx))
    replace B := hide (bl_tr (uh B) hQ.2)
    clear hQ hL2 CE x0
    simp only [List.length_nil]
    go_wp2_with fail
    refine (uh CP _ _ _ (uh I2)).mono ?_
    rintro e w3 ⟨⟨q3, d3, rfl, hI⟩, hb⟩
    replace B := hide (bl_tr (uh B) hb)
    clear hb hI CP I2
    go_wp2_with fail
    go_ret
    exact ⟨rfl, uh B⟩

set_option maxRecDepth 100000 in
theorem contract (H : Type) (enc : TypeId × Value → H) (W : World) (base : Nat) (args : Array Value) (ds gs : List (DataW H)) (before : List MemPlace)
    (hval0 : ∀ (j : Nat) t v, Tryz.f3.params[j]? = some t → args[j]? = some v → Value.okWide Tryz.prog W .any base t v)
    (hW : DataW.Whole enc Tryz.prog Tryz.f3.params.toList Rows.onnxSplitsSpec.vars false W args.toList ds gs before) (hsz0 : (DataW.weightsEach Tryz.prog (Tryz.f3.params.toList ++ Rows.onnxSplitsSpec.plain.varTypes Tryz.prog) (ds ++ gs)).all (· ≤ reachBytes) = true) :
    Calls Tryz.prog 3 args W fun e W' => ∃ v, e = .returned v ∧ Rows.onnxSplitsSpec.post enc Tryz.prog Tryz.f3 false true false false W args v W' := by
  have hval : ∀ (j : Nat) t v, Tryz.f3.params[j]? = some t → args[j]? = some v → Value.okWide Tryz.prog W .any base t v := hval0
  have hW' := hW
  obtain ⟨p, q, hA0, hV, rfl, hfz, hnd⟩ := hW
  have hA : DataW.TrodAll enc Tryz.prog W 0 (fun _ => true) true Tryz.f3.params.toList args.toList ds p := hA0
  have hsz : (DataW.weightsEach Tryz.prog (Tryz.f3.params.toList ++ Rows.onnxSplitsSpec.plain.varTypes Tryz.prog) (ds ++ gs)).all (· ≤ reachBytes) = true := hsz0
  clear hsz0
  rw [Tryz.params3] at hA hval hsz
  obtain ⟨v0, vs0, d0, ds0, pl0, q0, hargs, rfl, rfl, h0, r0⟩ := trodAll_cons hA
  obtain ⟨v1, vs1, d1, ds1, pl1, q1, rfl, rfl, rfl, h1, r1⟩ := trodAll_cons r0
  obtain ⟨rfl, rfl, rfl⟩ := trodAll_nil r1
  obtain rfl : args = #[v0, v1] := by cases args; simp_all
  obtain ⟨rfl, rfl⟩ := trodVars_none hV
  have h0k := h0
  obtain ⟨M0, rfl, s0, g0⟩ := mo_open (hval 0 26 v0 rfl rfl) h0
  have hlt0 : ∀ y ∈ pl0, y.block < W.heap.size := fun y hy => hW'.lt y (by simp [hy])
  have u0 : MoLt M0 := g0 (fun m hm => by have h9 := List.all_eq_true.1 hsz m (DataW.weights_mem_each (j := 0) rfl rfl m hm); simpa using h9)
  obtain ⟨a1, rfl, rfl, rfl, w1⟩ := open_int Tryz.underlying3 (hval 1 3 v1 rfl rfl) h1
  clear hA0 hval0
  simp only [List.append_nil] at hW'
  refine (walk M0 a1 W s0 u0 w1).mono fun e W' ⟨he, bel⟩ => ?_
  subst he
  exact ⟨_, rfl, _, _, _, [], _, [], hW', trodAll_mk1 (shut_bool Tryz.underlying4 _), (trodAll_cons_mk (Below.trod laidOut (by kernel_rfl) (of_decide_eq_true (by kernel_rfl)) h0k bel hlt0) (trodAll_cons_mk (shut_int Tryz.underlying3 w1) trodAll_mk0)), rfl, bel.frame _, fun h => by cases h⟩

set_option maxRecDepth 100000 in
theorem lifted (os : Os) (started : os.Started) (H : Type) (enc : TypeId × Value → H) :
    ReturnsInHanded {} Tryz.checked os 3 .any (Rows.onnxSplitsSpec.pre6 enc Tryz.prog Tryz.f3 Rows.onnxSplitsRow.domain false) (Rows.onnxSplitsSpec.post enc Tryz.prog Tryz.f3 false true false false) := by
  refine returnsInHanded_of_change_sized (C := Tryz.checked) own started (by kernel_rfl) Tryz.func3
    (ChangeSpec.witness6 (enc := enc) (C := Tryz.checked) false ⟨#[], #[.agg #[.int .i64 0, .string { data := #[] }, .slice none 0 0, .slice none 0 0, .slice none 0 0, .slice none 0 0], .int .i64 0], []⟩ 8 (by kernel_rfl) (by kernel_rfl) (by kernel_rfl) (by kernel_rfl)) ?_
  intro W base args ds gs before hval hW hcnd hsz _
  exact contract H enc W base args ds gs before hval hW hsz

theorem proved : Rows.OnnxSplitsSaid :=
  OpenClaim.holds_of_wide 3 Tryz.f3 rfl rfl rfl rfl rfl rfl rfl ⟨rfl, rfl, rfl, rfl, rfl⟩ rfl rfl rfl rfl rfl (by kernel_rfl) Tryz.func3 (by kernel_rfl)
    (of_decide_eq_true (by kernel_rfl)) (by unfold Func.isWrapper; first | (rw [if_pos (by decide +kernel)]; kernel_rfl) | (rw [if_neg (by decide +kernel)]; exact ⟨rfl, rfl⟩))
    (fun os started H enc _ => lifted os started H enc)
#print axioms proved
end Go.Proofs.YtaikppgoahdjbabGreat.onnxSplits
