/- For all bytes: what the code reads of them, or why it reads none, is what the document says; what it answers is its owner's, and what was lent stays; no condition. -/
import Derived.Test.YtbcmfgohbppndaaRows
import Derived.WalkKit
import Derived.ProofKit
import Derived.OpenShut
import Derived.Below
import Derived.Carry
import Derived.SizedLaws
import Derived.Test.YtbcmfgohbppndaaLO
namespace Go.Proofs.Ytbcmfgohbppndaa.pbufReads
open Go.ChangeShapes Go.WideShapes Go.ChangeAt Go.RowKit
set_option linter.unusedVariables false

theorem own : ownKnob Try.prog.godebug = none := by kernel_rfl
theorem laidOut : laidOutB Try.prog = true := by kernel_rfl

set_option maxRecDepth 100000 in
set_option maxHeartbeats 4000000 in
/-- The statement's call returns true, whatever came in. -/
theorem walk (p0 : Option Addr) (c0 : Nat) (x0 : List Int) (W : World) (s0 : Ints .u8 W p0 c0 x0) (u0 : c0 * 1 ≤ 140737488351232) :
    Calls Try.prog 5 #[.slice p0 x0.length c0] W fun e W' => e = .returned (.bool true) ∧ Below W.heap.size W W' := by
  obtain ⟨i1, hi1, y1, z1, b1⟩ := info_parts Try.infoU8
  have S0 := hide s0
  have hB := wf_isB s0.2.2.1
  have hl : x0.length ≤ 140737488351232 := by have := s0.1; omega
  have LE := hide (fun w h => lent6_any p0 c0 x0 w h hl)
  have CR := hide (fun q d w h => cread_any q d x0 w h)
  have RR := hide (fun w h => rread2_any p0 c0 x0 w h)
  have HSUM : Hid (∀ L : List FA, L.map FA.f = (readV x0).1 → sumD L + L.length ≤ 4194304) := hide (fun L hL => by
    by_cases hs : x0.length ≤ 4194304
    · exact read_sum hB hs hL
    · have e : readV x0 = ([], 8) := by unfold readV; rw [if_pos (by omega)]
      rw [e] at hL
      rw [map_nil_of hL]
      simp [sumD])
  generalize readV x0 = R at CR RR HSUM
  obtain ⟨R1, R2⟩ := R
  simp only at CR RR HSUM
  clear s0 u0 hB
  go_enter Try.func5, Try.ntmps5
  go_wp2_with fail
  refine (awake6_any _).mono ?_
  rintro e w1 ⟨rfl, hb⟩
  have B := hide hb
  clear hb
  go_wp2_with fail
  refine (unhide LE _ ((unhide S0).below (unhide B))).mono ?_
  rintro e w2 ⟨⟨g, k, rfl, hL, _⟩, hb⟩
  have LN := hide hL
  replace B := hide (bl_tr (unhide B) hb)
  clear hL hb LE
  go_wp2_with fail
  refine (unhide CR _ _ _ (unhide LN).1).mono ?_
  rintro e w3 ⟨v3, L, rfl, hf3, h3⟩
  obtain ⟨q3, d3, rfl, hF3⟩ := (unhide h3).fls
  have O3 := h3
  have F3 := hide hF3
  have HF3 := hf3
  have B23 := hide (unhide h3).1.2
  clear hF3 h3 hf3
  go_wp2_with fail
  refine (unhide CR _ _ _ ((unhide LN).below (unhide B23)).1).mono ?_
  rintro e w4 ⟨v4, M, rfl, hf4, h4⟩
  obtain ⟨q4, d4, rfl, hF4⟩ := (unhide h4).fls
  have O4 := h4
  have F4 := hide hF4
  have HF4 := hf4
  have B34 := hide (unhide h4).1.2
  clear hF4 h4 hf4 CR
  go_wp2_with fail
  refine (unhide RR _ ((unhide S0).below (bl_tr (bl_tr (unhide B) (unhide B23)) (unhide B34)))).mono ?_
  rintro e w5 ⟨⟨q5, d5, N, rfl, hN⟩, hb⟩
  obtain ⟨hf5, hF5, hN5⟩ := unhide hN
  have F5 := hide hF5
  have HF5 := hide hf5
  have N5 := hide hN5
  have B45 := hide hb
  clear hN hf5 hF5 hN5 hb RR
  have SA := hide (same6_any q3 q5 d3 d5 L N w5 ((unhide F3).below (bl_tr (unhide B34) (unhide B45))) (unhide F5))
  rw [decide_eq_true ((unhide HF3).trans (unhide HF5).symm)] at SA
  go_wp2_with fail
  refine (unhide SA).mono ?_
  rintro e w6 ⟨rfl, hb⟩
  have B56 := hide hb
  clear hb SA
  have WH := hide (whole6_any g k p0 c0 x0 w6 ((unhide LN).below (bl_tr (unhide B23) (bl_tr (unhide B34) (bl_tr (unhide B45) (unhide B56))))) ((unhide S0).below (bl_tr (unhide B) (bl_tr (unhide B23) (bl_tr (unhide B34) (bl_tr (unhide B45) (unhide B56)))))))
  go_wp2_with fail
  refine (unhide WH).mono ?_
  rintro e U ⟨rfl, hb⟩
  have B3U := hide (bl_tr (unhide B34) (bl_tr (unhide B45) (bl_tr (unhide B56) hb)))
  have B4U := hide (bl_tr (unhide B45) (bl_tr (unhide B56) hb))
  have B5U := hide (bl_tr (unhide B56) hb)
  clear hb WH
  have z23 : w2.heap.size ≤ w3.heap.size := (unhide B23).size
  have z3U : w3.heap.size ≤ U.heap.size := (unhide B3U).size
  have z34 : w3.heap.size ≤ w4.heap.size := (unhide B34).size
  have hsum := unhide HSUM L (unhide HF3)
  have IV0 : Hid (Inv6 w2.heap.size w3.heap.size w2 U q3 L 0 U) := hide (by
    have sp : Spoil w2.heap.size w3.heap.size w3 U := Spoil.below (unhide B3U) z23
    refine ⟨bl_tr (unhide B23) (unhide B3U), Mid.refl _ _ _, (OwnF.rowOK (unhide O3).1 (Nat.le_refl _) (Nat.le_refl _)).spoil sp, fun i _ hi => sp.2.2.2 _ _ _ (OwnD.dataOK ((unhide O3).2 _ (getD_memF hi)).2 ((unhide O3).2 _ (getD_memF hi)).1.ok.2.2 (Nat.le_refl _))⟩)
  have HDL : Hid (∀ i, i < L.length → (L.getD i noFA).d.length ≤ 4194304) := hide (fun i hi => sum_mem hsum (getD_memF hi))
  have hLl : L.length ≤ 4194304 := by omega
  clear hsum O3 F3 HSUM
  go_wp2_with fail
  go_loopw [11] (fun iv wr => ∃ n : Nat, iv = .int .i64 n ∧ n ≤ L.length ∧ Hid (Inv6 w2.heap.size w3.heap.size w2 U q3 L n wr)) (fun iv _ => L.length - (intOf iv).toNat)
  case atStart => exact ⟨0, rfl, by omega, IV0⟩
  case round =>
    obtain ⟨n, rfl, hn, IV⟩ := hrel
    by_cases hlt : n < L.length
    · have hi : (n : Int) < (L.length : Int) := by omega
      have hdl := unhide HDL n hlt
      go_wp2_with fail
      go_loopw [12] (fun jv wr => ∃ j : Nat, jv = .int .i64 j ∧ j ≤ (L.getD n noFA).d.length ∧ Hid (Inv6 w2.heap.size w3.heap.size w2 U q3 L n wr)) (fun jv _ => (L.getD n noFA).d.length - (intOf jv).toNat)
      case atStart => exact ⟨0, rfl, by omega, IV⟩
      case round =>
        obtain ⟨j, rfl, hj, IQ⟩ := hrel
        have zq : U.heap.size ≤ wr.heap.size := (unhide IQ).2.1.1
        obtain ⟨r, o, hq, hr, c3, c0', fr⟩ := (unhide IQ).2.2.1.at hlt
        have HBK := hide ((unhide IQ).2.2.1.blk hlt hq)
        have HDA := hide ((unhide IQ).2.2.2 n (Nat.le_refl _) hlt)
        obtain ⟨a, ha⟩ : ∃ a, L.getD n noFA = a := ⟨_, rfl⟩
        rw [ha] at c3 c0' hj hdl HDA
        rw [ha]
        subst hq
        by_cases hjl : j < a.d.length
        · have hji : (j : Int) < (a.d.length : Int) := by omega
          obtain ⟨gd, od, x, hqd, hgd, cd, fd, x0', x1', hset⟩ := (unhide HDA).at hjl
          rw [hqd] at c3
          obtain ⟨h0, h1⟩ := xor8 1 (by omega) x x0' x1'
          have SP := hide (hset _ h0 h1)
          clear hset h0 h1 c0'
          go_wp2_with fail
          go_region
          go_wp2_with fail
          go_roundw
          case rel => exact ⟨j + 1, by go_num, by omega, hide ((unhide IQ).spoil ((unhide SP).trans (Spoil.below (bdrewp _) (by have := (unhide SP).2.1.1; omega))))⟩
          case measure => simp [intOf]; omega
        · have hji : ¬ (j : Int) < (a.d.length : Int) := by omega
          have hzq : w2.heap.size ≤ wr.heap.size := by omega
          go_wp2_with (at_builtin; (refine wpList_append_spoil rfl _ _ 24 rfl i1 (.int .u8 0) Try.underlying24 hi1 y1 z1 b1 rfl w2.heap.size w3.heap.size (Nat.le_trans hzq (al1p _ _).size) a.q a.d.length a.c rfl ((Spoil.below (al1p _ _) hzq).2.2.2 _ _ _ (unhide HDA)) (by omega) ⟨_, 0, none⟩ 1 77 (by omega) (by omega) rfl (cell_new8 _ _ _) ?_; intro q9 n9 m9 w9 SP9; have IV9 := hide ((unhide IQ).spoil ((Spoil.below (al1p _ _) hzq).trans SP9)); obtain ⟨r9, o9, hq9, hr9, c39, c09, fr9⟩ := (unhide IV9).2.2.1.at hlt; simp only [Option.some.injEq, Addr.mk.injEq] at hq9; obtain ⟨e91, e92, _⟩ := hq9; subst e91 e92; clear SP9))
          go_roundw
          case rel =>
            obtain ⟨k0, k1, k2, k3⟩ := unhide HBK
            have hb9 := (unhide IV9).2.2.1.blk hlt rfl
            have st1 := Inv6.store (m := n) (k := 3) (unhide IV9).next rfl hlt rfl hb9.2.2.2 k0 k1 k2 (by omega) (.slice q9 n9 m9)
            have hb10 : ∃ cur : Array Value, (w9.setCell ⟨r, o + n * 4 + 3, none⟩ (.slice q9 n9 m9)).heap[r]? = some (.cells cur 40 (0, 0)) := by
              obtain ⟨cur, hc⟩ := hb9.2.2.2
              exact ⟨_, Box.same (w := w9) (g := r) (cs := cur) (t := 40) hc _ (.slice q9 n9 m9)⟩
            have st2 := Inv6.store (m := n) (k := 0) st1 rfl hlt rfl hb10 k0 k1 k2 (by omega) (.int .i64 (-1))
            exact ⟨n + 1, by go_num, by omega, hide st2⟩
          case measure => simp [intOf]; omega
    · have hi : ¬ (n : Int) < (L.length : Int) := by omega
      have FM : Hid (Fls wr q4 d4 M) := hide (((unhide F4).below (unhide B4U)).mid (unhide IV).2.1 (OwnL.newF (unhide O4) (Nat.le_refl _)))
      have FN : Hid (Fls wr q5 d5 N) := hide (((unhide F5).below (unhide B5U)).mid (unhide IV).2.1 ((unhide N5).mono z34))
      have SA := hide (same6_any q4 q5 d4 d5 M N wr (unhide FM) (unhide FN))
      rw [decide_eq_true ((unhide HF4).trans (unhide HF5).symm)] at SA
      have BW := hide (bl_tr (unhide B) (unhide IV).1)
      have LNr := hide ((unhide LN).below (unhide IV).1)
      clear FM FN IV
      go_wp2_with fail
      refine (unhide SA).mono ?_
      rintro e w10 ⟨rfl, hb⟩
      have WH := hide (whole6_any g k p0 c0 x0 w10 ((unhide LNr).below hb) ((unhide S0).below (bl_tr (unhide BW) hb)))
      replace BW := hide (bl_tr (unhide BW) hb)
      clear hb SA
      go_wp2_with fail
      refine (unhide WH).mono ?_
      rintro e w11 ⟨rfl, hb⟩
      replace BW := hide (bl_tr (unhide BW) hb)
      clear hb WH
      go_wp2_with fail
      go_ret
      exact ⟨rfl, unhide BW⟩

set_option maxRecDepth 100000 in
theorem contract (H : Type) (enc : TypeId × Value → H) (W : World) (base : Nat) (args : Array Value) (ds gs : List (DataW H)) (before : List MemPlace)
    (hval0 : ∀ (j : Nat) t v, Try.f5.params[j]? = some t → args[j]? = some v → Value.okWide Try.prog W .any base t v)
    (hW : DataW.Whole enc Try.prog Try.f5.params.toList Rows.pbufReadsSpec.vars false W args.toList ds gs before) (hsz0 : (DataW.weightsEach Try.prog (Try.f5.params.toList ++ Rows.pbufReadsSpec.plain.varTypes Try.prog) (ds ++ gs)).all (· ≤ reachBytes) = true) :
    Calls Try.prog 5 args W fun e W' => ∃ v, e = .returned v ∧ Rows.pbufReadsSpec.post enc Try.prog Try.f5 false true false false W args v W' := by
  have hval : ∀ (j : Nat) t v, Try.f5.params[j]? = some t → args[j]? = some v → Value.okWide Try.prog W .any base t v := hval0
  have hW' := hW
  obtain ⟨p, q, hA0, hV, rfl, hfz, hnd⟩ := hW
  have hA : DataW.TrodAll enc Try.prog W 0 (fun _ => true) true Try.f5.params.toList args.toList ds p := hA0
  have hsz : (DataW.weightsEach Try.prog (Try.f5.params.toList ++ Rows.pbufReadsSpec.plain.varTypes Try.prog) (ds ++ gs)).all (· ≤ reachBytes) = true := hsz0
  clear hsz0
  rw [Try.params5] at hA hval hsz
  obtain ⟨v0, vs0, d0, ds0, pl0, q0, hargs, rfl, rfl, h0, r0⟩ := trodAll_cons hA
  obtain ⟨rfl, rfl, rfl⟩ := trodAll_nil r0
  obtain rfl : args = #[v0] := by cases args; simp_all
  obtain ⟨rfl, rfl⟩ := trodVars_none hV
  have h0k := h0
  obtain ⟨p0, c0, x0, rfl, s0, hd0⟩ := ints_open Try.underlying24 Try.underlying5 (by kernel_rfl) (hval 0 24 v0 rfl rfl) h0
  have hlt0 : ∀ y ∈ pl0, y.block < W.heap.size := fun y hy => hW'.lt y (by simp [hy])
  have u0 : c0 * 1 ≤ 140737488351232 := by
    rcases hd0 with ⟨_, e⟩ | ⟨sp, e, e2⟩
    · omega
    · subst e
      have := sized_slice hsz (j := 0) (t := 24) (e := 5) rfl rfl Try.underlying24
      rw [show Try.prog.bytesOf 5 = 1 by kernel_rfl] at this
      simp only [lits, List.length_map, reachBytes] at this
      rw [e2] at this
      exact this
  clear hA0 hval0
  simp only [List.append_nil] at hW'
  refine (walk p0 c0 x0 W s0 u0).mono fun e W' ⟨he, bel⟩ => ?_
  subst he
  exact ⟨_, rfl, _, _, _, [], _, [], hW', trodAll_mk1 (shut_bool Try.underlying4 _), (trodAll_cons_mk (Below.trod laidOut (by kernel_rfl) (of_decide_eq_true (by kernel_rfl)) h0k bel hlt0) trodAll_mk0), rfl, bel.frame _, fun h => by cases h⟩

set_option maxRecDepth 100000 in
theorem lifted (os : Os) (started : os.Started) (H : Type) (enc : TypeId × Value → H) :
    ReturnsInHanded {} Try.checked os 5 .any (Rows.pbufReadsSpec.pre6 enc Try.prog Try.f5 Rows.pbufReadsRow.domain false) (Rows.pbufReadsSpec.post enc Try.prog Try.f5 false true false false) := by
  refine returnsInHanded_of_change_sized (C := Try.checked) own started (by kernel_rfl) Try.func5
    (ChangeSpec.witness6 (enc := enc) (C := Try.checked) false ⟨#[], #[.slice none 0 0], []⟩ 8 (by kernel_rfl) (by kernel_rfl) (by kernel_rfl) (by kernel_rfl)) ?_
  intro W base args ds gs before hval hW hcnd hsz _
  exact contract H enc W base args ds gs before hval hW hsz

theorem proved : Rows.PbufReadsSaid :=
  OpenClaim.holds_of_wide 5 Try.f5 rfl rfl rfl rfl rfl rfl rfl ⟨rfl, rfl, rfl, rfl, rfl⟩ rfl rfl rfl rfl rfl (by kernel_rfl) Try.func5 (by kernel_rfl)
    (of_decide_eq_true (by kernel_rfl)) (by unfold Func.isWrapper; first | (rw [if_pos (by decide +kernel)]; kernel_rfl) | (rw [if_neg (by decide +kernel)]; exact ⟨rfl, rfl⟩))
    (fun os started H enc _ => lifted os started H enc)
#print axioms proved
end Go.Proofs.Ytbcmfgohbppndaa.pbufReads
