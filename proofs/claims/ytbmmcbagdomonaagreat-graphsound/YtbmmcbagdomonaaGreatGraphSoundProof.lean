import Derived.Test.YtbmmcbagdomonaaGreatRows
import Derived.WalkKit
import Derived.ProofKit
import Derived.OpenShut
import Derived.Below
import Derived.Carry
import Derived.SizedLaws
import Derived.BigQuiet
import Derived.Test.YtbmmcbagdomonaaGreatV51
import Derived.Test.YtbmmcbagdomonaaGreatV52
import Derived.Test.YtbmmcbagdomonaaGreatV30
import Derived.Test.YtbmmcbagdomonaaGreatV36

/- For all models: the graph of a model that is taken is sound, each node of the model that is no Constant stands in it once, and so it is when the dead nodes are gone, and then all live; no condition. -/
namespace Go.Proofs.YtbmmcbagdomonaaGreat.graphSound
open Go.ChangeShapes Go.WideShapes Go.ChangeAt Go.RowKit
set_option linter.unusedVariables false

theorem own : ownKnob Tryz.prog.godebug = none := by kernel_rfl
theorem laidOut : laidOutB Tryz.prog = true := by kernel_rfl

set_option maxRecDepth 100000 in
set_option linter.unusedSimpArgs false in
set_option maxHeartbeats 16000000 in
/-- The statement's call returns true, whatever came in. -/
theorem walk (M0 : MoA) (W : World) (s0 : MoIn W.heap.size W M0) (u0 : MoLt M0) :
    Calls Tryz.prog 5 #[moV M0] W fun e W' => e = .returned (.bool true) ∧ Below W.heap.size W W' := by
  have CR := hide (fun v (hv : Below W.heap.size W v) => cbuild9_any M0 W.heap.size v (s0.below hv) u0)
  have HFIT := hide (build_fit (x := M0))
  have HPL := hide (built_place (m := M0.d))
  have HBAD := hide (build_bad (m := M0.d))
  have HSND := hide (build_sound (m := M0.d))
  have HCN := hide (built_cnt (m := M0.d))
  have HRS : Hid ((buildV M0.d).2.1 = 0 → M0.nodes.length ≤ 1024 ∧ ∀ n ∈ M0.nodes, (resV n.d).2.2 = 0) := hide (fun h => by
    obtain ⟨h0, h1, _⟩ := build_no h
    exact ⟨(sm9_of h0).2.1, fun n hn => h1 n.d (List.mem_map.2 ⟨n, hn, rfl⟩)⟩)
  have HS0 := hide s0
  clear s0 u0
  obtain ⟨ops, nm, nodes, qn, cn, inits, qi, ci, inp, qp, cp, out, qo, co⟩ := M0
  have HDN : Hid ((MoA.d ⟨ops, nm, nodes, qn, cn, inits, qi, ci, inp, qp, cp, out, qo, co⟩).2.2.1 = nodes.map NoA.d) := hide rfl
  obtain ⟨MD, hMD⟩ : ∃ D, MoA.d ⟨ops, nm, nodes, qn, cn, inits, qi, ci, inp, qp, cp, out, qo, co⟩ = D := ⟨_, rfl⟩
  rw [hMD] at CR HFIT HPL HBAD HSND HCN HRS HDN
  clear hMD
  simp only [moV, moCells, strV] at CR ⊢
  simp only at HRS
  rw [uh HDN] at HPL HCN
  rw [List.length_map] at HPL HCN
  obtain ⟨E1, hE1⟩ : ∃ E, (buildV MD).2.1 = E := ⟨_, rfl⟩
  obtain ⟨A1, hA1⟩ : ∃ E, (buildV MD).2.2 = E := ⟨_, rfl⟩
  rw [hE1] at CR HPL HBAD HSND HCN HRS
  rw [hA1] at CR HPL
  obtain ⟨GD, hGD⟩ : ∃ G, (buildV MD).1 = G := ⟨_, rfl⟩
  rw [hGD] at CR HFIT HBAD HSND HCN
  clear hE1 hA1 hGD
  go_enter Tryz.func5, Tryz.ntmps5
  go_wp2_with fail
  refine (awake9_any _).mono ?_
  rintro e w1 ⟨rfl, hb⟩
  have X0 := hide (Box.below (Box.new W #[.int .i64 ops, .string (strOfNums nm), .slice qn nodes.length cn, .slice qi inits.length ci, .slice qp inp.length cp, .slice qo out.length co] 26) hb)
  have B1 := hide (bl_tr (al1p _ _) hb)
  clear hb
  have x0 := (uh X0).cell
  go_wp2_with fail
  refine (uh CR _ (uh B1)).mono ?_
  rintro e w2 ⟨ga, rfl, hga, hgi, hb2⟩
  have GDE := hide hga
  have GI2 := hide hgi
  have B2 := hide (bl_tr (uh B1) hb2)
  have Y2 := hide ((uh X0).below hb2)
  have HZ2 := hide hb2.size
  clear hga hgi hb2 x0 CR
  obtain ⟨gvals, gqv, gcv, gnodes, gqn, gcn, ginp, gqi, gci, gout, gqo, gco⟩ := ga
  simp only [grV, grCells]
  obtain ⟨w3, hV3⟩ : ∃ V, w2.alloc (.cells #[.slice gqv gvals.length gcv, .slice gqn gnodes.length gcn, .slice gqi ginp.length gci, .slice gqo gout.length gco] 32) = V := ⟨_, rfl⟩
  have G3 : Hid (Box w3 w2.heap.size #[.slice gqv gvals.length gcv, .slice gqn gnodes.length gcn, .slice gqi ginp.length gci, .slice gqo gout.length gco] 32) := hide (by rw [← hV3]; exact Box.new _ _ _)
  have K3 : Hid (Below w2.heap.size w2 w3) := hide (by rw [← hV3]; exact al1p _ _)
  have Y3 := hide ((uh Y2).below (uh K3))
  have B3 := hide (bl_tr (uh B2) (uh K3))
  have GI3 := hide (grP.hold (uh GI2) (Hold.below (uh K3)))
  have y3 := (uh Y3).cell
  clear K3 Y2 B2
  by_cases h0 : E1 = 0
  · subst h0
    have hsm := (uh HRS rfl).1
    have HSM := hide hsm
    have HRN := hide (uh HRS rfl).2
    have HCK := hide (uh HSND rfl)
    have HCT := hide (uh HCN rfl)
    clear HPL HBAD HSND HCN HRS hsm
    go_upto_region 3 with fail
    (try rw [hV3])
    clear hV3
    obtain ⟨gb, hgb⟩ : ∃ g, w2.heap.size = g := ⟨_, rfl⟩
    rw [hgb] at G3 ⊢
    clear hgb
    go_upto_region 7 with fail
    obtain ⟨i1, hi1, y1, z1, b1⟩ := info_parts Tryz.info8int
    have hnc : nodes.length ≤ 9223372036854775807 := by have := uh HSM; omega
    have hgl : gnodes.length ≤ 1024 := by
      have := (uh HFIT).nn
      rw [← uh GDE] at this
      simpa [GrA.d] using this
    have HGL := hide hgl
    clear y3 hgl
    obtain ⟨TL, hTL⟩ : ∃ T, gnodes.map GnA.d = T := ⟨_, rfl⟩
    have HTL := hide hTL
    clear hTL
    go_loopw [7, 8] (fun rv iv wr => ∃ n : Nat, iv = .int .i64 n ∧ n ≤ nodes.length ∧ Hid (RowI wr w3.heap.size rv (thG TL n)) ∧ Hid (Below w3.heap.size w3 wr)) (fun _ iv _ => nodes.length - (intOf iv).toNat)
    case atStart => exact ⟨0, rfl, by omega, hide (RowI.nil _ _), hide (Below.refl _ _)⟩
    case round =>
      obtain ⟨n, rfl, hn, HRI, HB⟩ := hrel
      have x0 := ((uh Y3).below (uh HB)).cell
      have g0 := ((uh G3).below (uh HB)).cell
      by_cases hlt : n < nodes.length
      · have hi : (n : Int) < (nodes.length : Int) := by omega
        have HLT := hide hlt
        obtain ⟨u, hu⟩ : ∃ u, u = wr := ⟨_, rfl⟩
        subst hu
        go_upto_region 11 with fail
        go_loopw [9, 10] (fun tv kv wq => ∃ k : Nat, tv = .int .i64 ((cntG ((gnodes.take k).map GnA.d) n : Nat) : Int) ∧ kv = .int .i64 k ∧ k ≤ gnodes.length ∧ wq = u) (fun _ kv _ => gnodes.length - (intOf kv).toNat)
        case atStart => exact ⟨0, rfl, rfl, by omega, rfl⟩
        case round =>
          obtain ⟨k, rfl, rfl, hk, hw⟩ := hrel
          subst hw
          by_cases hlk : k < gnodes.length
          · have hik : (k : Int) < (gnodes.length : Int) := by omega
            obtain ⟨bg, og, hq, hbg, _⟩ := (uh GI3).2.1.1.lies (show 0 < gnodes.length by omega)
            simp only at hq
            subst hq
            have A1 := Rc.at9 ((uh GI3).2.1.1.below (uh HB)) (i := k) hlk
            have c39 := A1 39 _ (gn_39 _)
            have HT := hide (cntG_take gnodes k n hlk)
            have hcl := cntG_le ((gnodes.take k).map GnA.d) n
            rw [List.length_map, List.length_take] at hcl
            simp only at c39
            generalize gnodes.getD k noGnA = x at c39 HT
            obtain ⟨C, hC⟩ : ∃ C, cntG ((gnodes.take k).map GnA.d) n = C := ⟨_, rfl⟩
            rw [hC] at HT hcl
            (try rw [hC])
            have hg4 := uh HGL
            by_cases hs : x.src = (n : Int)
            · have e1 : (x.src == (n : Int)) = true := by simpa using hs
              have hw1 : IntKind.i64.wrap ((C : Int) + 1) = (C : Int) + 1 := by rw [IntKind.wrap_i64]; omega
              have hw2 : IntKind.i64.wrap ((k : Int) + 1) = (k : Int) + 1 := by rw [IntKind.wrap_i64]; omega
              have HS := hide hs
              clear A1 hs hC
              go_wp2_with fail
              go_roundw
              case rel => exact ⟨k + 1, by rw [uh HT, if_pos (uh HS)]; rfl, by go_num, by omega, trivial⟩
              case measure => (simp [intOf] <;> omega)
            · have e1 : (x.src == (n : Int)) = false := by simpa using hs
              have hw2 : IntKind.i64.wrap ((k : Int) + 1) = (k : Int) + 1 := by rw [IntKind.wrap_i64]; omega
              have HS := hide hs
              clear A1 hs hC
              go_wp2_with fail
              go_roundw
              case rel => exact ⟨k + 1, by rw [uh HT, if_neg (uh HS)]; rfl, by go_num, by omega, trivial⟩
              case measure => (simp [intOf] <;> omega)
          · have hik : ¬ (k : Int) < (gnodes.length : Int) := by omega
            have ek : k = gnodes.length := by omega
            subst ek
            have hcnt : Hid (cntG ((gnodes.take gnodes.length).map GnA.d) n = cntG TL n) := hide (by rw [List.take_length, uh HTL])
            rw [uh hcnt]
            have hw4 : IntKind.i64.wrap ((n : Int) + 1) = (n : Int) + 1 := by rw [IntKind.wrap_i64]; omega
            have hsm := uh HSM
            have hcle : cntG TL n ≤ 1024 := by
              have h1 := cntG_le TL n
              have h2 : TL.length = gnodes.length := by rw [← uh HTL, List.length_map]
              have h3 := uh HGL
              omega
            obtain ⟨C, hC⟩ : ∃ C, cntG TL n = C := ⟨_, rfl⟩
            have HC := hide hC
            rw [hC] at hcle ⊢
            clear hC
            have HSU := hide (thG_succ TL n)
            have HTLN := hide (thG_len TL n)
            have HRO := hide (fun g (h : u7.ownBlock = some g) => (uh HRI).lt9 g h)
            clear x0 g0
            have x0 := ((uh Y3).below (uh HB)).cell
            have g0 := ((uh G3).below (uh HB)).cell
            have hh : RowI (wr.alloc (.cells #[.int .i64 (C : Int)] 3)) w3.heap.size u7 (thG TL n) := (uh HRI).below (al1p _ _)
            have HH := hide hh
            have hl9 : (thG TL n).length ≤ 1000000000 := by rw [uh HTLN]; omega
            have HL9 := hide hl9
            have hz9 : w3.heap.size ≤ (wr.alloc (.cells #[.int .i64 (C : Int)] 3)).heap.size := by have := (uh HB).size; simp; omega
            have HZ9 := hide hz9
            have hb9 : Below w3.heap.size w3 (wr.alloc (.cells #[.int .i64 (C : Int)] 3)) := bl_tr (uh HB) (al1p _ _)
            have HB9 := hide (fun w' (g7 : (wr.alloc (.cells #[.int .i64 (C : Int)] 3)).grownBy w' u7.ownBlock) => (gr_bel hb9 g7 (fun g hg => ((uh HRI).lt9 g hg).1) : Below w3.heap.size w3 w'))
            clear hh hl9 hz9 hb9
            go_upto_region 15 with fail
            go_wp2_with (at_builtin; (refine wpList_append_num rfl _ _ 30 rfl w3.heap.size i1 Tryz.underlying30 hi1 y1 z1 b1 u7 (thG TL n) rfl (uh HH) ⟨wr.heap.size, 0, none⟩ 1 (C : Int) rfl (cell_new9 _ _ _) (uh HL9) (uh HZ9) ?_; intro v7 w7 r7 g7 l7; have RI7 := hide r7; have B7 := hide (uh HB9 w7 g7); clear r7 g7 l7))
            go_roundw
            case rel => exact ⟨n + 1, by go_num, by have := uh HLT; omega, hide (by rw [uh HSU, uh HC]; exact uh RI7), B7⟩
            case measure => (simp [intOf] <;> omega)
      · have hi : ¬ (n : Int) < (nodes.length : Int) := by omega
        have en : n = nodes.length := by omega
        subst en
        obtain ⟨v1, hv1⟩ : ∃ v, v = wr := ⟨_, rfl⟩
        subst hv1
        obtain ⟨tp, tc, htv, htl, _⟩ := (uh HRI).form
        rw [thG_len] at htv
        subst htv
        have HTH := hide htl
        have YV := hide ((uh Y3).below (uh HB))
        have GV := hide ((uh G3).below (uh HB))
        have GIV := hide (grP.hold (uh GI3) (Hold.below (uh HB)))
        have BV := hide (bl_tr (uh B3) (uh HB))
        clear htl x0 g0 HRI Y3 G3 GI3 B3
        have x0 := (uh YV).cell
        go_upto_region 17 with fail
        clear x0
        have HTHC : Hid (∀ n, n < nodes.length → ∃ b o, tp = some ⟨b, o, none⟩ ∧ b < v1.heap.size ∧ v1.cell? ⟨b, o + n, none⟩ = some (.int .i64 ((cntG TL n : Nat) : Int))) := hide (fun n hn => by
          have hT0 : 0 < (thG TL nodes.length).length := by rw [thG_len]; omega
          obtain ⟨bt, ot, htp, hbt, hct⟩ := (uh HTH).lies hT0
          have k1 := hct n (by rw [thG_len]; exact hn)
          have hdef : (default : Int) = 0 := rfl
          rw [hdef, thG_get TL nodes.length n hn] at k1
          exact ⟨bt, ot, htp, hbt, k1⟩)
        clear HTH
        go_loopw [11] (fun iv wq => ∃ n : Nat, iv = .int .i64 n ∧ n ≤ nodes.length ∧ ∃ m, wq = v1.drewN m) (fun iv _ => nodes.length - (intOf iv).toNat)
        case atStart => exact ⟨0, rfl, by omega, 0, rfl⟩
        case round =>
          obtain ⟨n, rfl, hn2, m, rfl⟩ := hrel
          have HB2 := hide (bw_drew (Below.refl v1.heap.size v1) m)
          have x0 := (uh YV).cell
          have hsm := uh HSM
          by_cases hlt : n < nodes.length
          · have hi2 : (n : Int) < (nodes.length : Int) := by omega
            have hnodes : Rc 5 noCells noNoA v1 qn cn nodes := ((uh HS0).below (uh BV)).2.2.1.2.1
            obtain ⟨bq, oq, hq, hbq, hcq⟩ := hnodes.lies (show 0 < nodes.length by omega)
            subst hq
            have k0 : v1.cell? ⟨bq, oq + n * 5, none⟩ = some (.string (strOfNums (nodes.getD n noNoA).op)) := hcq n hlt 0 _ rfl
            obtain ⟨bt, ot, htp, hbt, k1⟩ := uh HTHC n hlt
            subst htp
            have hcn := uh HCT n hlt
            rw [← uh GDE] at hcn
            simp only [GrA.d] at hcn
            rw [uh HTL, getD_map9 NoA.d nodes noNoA _ hlt] at hcn
            have hop := op_const (uh HRN _ (getD_mem9 (z := noNoA) hlt))
            have hib : isB (nodes.getD n noNoA).op := ((uh HS0).2.2.1.1 _ (getD_mem9 (z := noNoA) hlt)).1
            have hopd : (nodes.getD n noNoA).d.1 = (nodes.getD n noNoA).op := rfl
            rw [hopd] at hop
            clear hcq hnodes hbq hbt hopd
            generalize nodes.getD n noNoA = y at k0 hcn hop hib
            have hw2 : IntKind.i64.wrap ((n : Int) + 1) = (n : Int) + 1 := by rw [IntKind.wrap_i64]; omega
            by_cases hc : y.op = [67, 111, 110, 115, 116, 97, 110, 116]
            · rw [if_neg (by simp [hop.2 hc])] at hcn
              rw [hcn] at k1
              simp only [Int.natCast_zero, Int.natCast_one, Int.ofNat_zero, Int.ofNat_one] at k1
              have n0 : ((strOfNums y.op).toList == [67, 111, 110, 115, 116, 97, 110, 116]) = true := lit_yes8 hib [67, 111, 110, 115, 116, 97, 110, 116] rfl _ rfl hc
              clear hop hcn hib hc hsm
              go_wp2_with fail
              go_quiet (fail)
              go_wp2_with fail
              go_roundw
              case rel => exact ⟨n + 1, by go_num, by omega, _, rfl⟩
              case measure => (simp [intOf] <;> omega)
            · rw [if_pos (fun e => hc (hop.1 e))] at hcn
              rw [hcn] at k1
              simp only [Int.natCast_zero, Int.natCast_one, Int.ofNat_zero, Int.ofNat_one] at k1
              have n0 : ((strOfNums y.op).toList == [67, 111, 110, 115, 116, 97, 110, 116]) = false := lit_no8 hib [67, 111, 110, 115, 116, 97, 110, 116] rfl _ rfl hc
              clear hop hcn hib hc hsm
              go_wp2_with fail
              go_quiet (fail)
              go_wp2_with fail
              go_roundw
              case rel => exact ⟨n + 1, by go_num, by omega, _, rfl⟩
              case measure => (simp [intOf] <;> omega)
          · have hi2 : ¬ (n : Int) < (nodes.length : Int) := by omega
            have GI4 := hide (grP.hold (uh GIV) (Hold.below (uh HB2)))
            have GV4 := hide ((uh GV).below (uh HB2))
            have YV4 := hide ((uh YV).below (uh HB2))
            have BV4 := hide (bl_tr (uh BV) (uh HB2))
            obtain ⟨U, hU⟩ : ∃ u, v1.drewN m = u := ⟨_, rfl⟩
            rw [hU] at GI4 GV4 YV4 BV4 ⊢
            clear x0
            have x0 := (uh YV4).cell
            clear HB2 GIV GV YV BV HTHC HCT HRN HS0 hsm HSM hU
            obtain ⟨a0, ha0⟩ : ∃ a : GrA, a = ⟨gvals, gqv, gcv, gnodes, gqn, gcn, ginp, gqi, gci, gout, gqo, gco⟩ := ⟨_, rfl⟩
            have hga0 : grV a0 = .agg #[.slice gqv gvals.length gcv, .slice gqn gnodes.length gcn, .slice gqi ginp.length gci, .slice gqo gout.length gco] := by rw [ha0]; rfl
            rw [← ha0] at GI4 GDE
            have HFT := hide (show okGrD a0.d by rw [uh GDE]; exact uh HFIT)
            have CP : Hid (∀ v, Below U.heap.size U v → Calls Tryz.prog 15 #[grV a0] v fun e w' => ∃ a : GrA, e = .returned (grV a) ∧ a.d = pruneG GD ∧ GrIn (fun b => v.heap.size ≤ b) w' a ∧ Below v.heap.size v w') := hide (fun v hv => by
              have := cprune9_any a0 _ v (grP.hold (uh GI4) (Hold.below hv)) (uh HFT).gr (uh HFT).sums.1
              rw [uh GDE] at this
              exact this)
            have HCG : Hid (∀ v, Below U.heap.size U v → Calls Tryz.prog 12 #[grV a0] v fun e w' => e = .returned (.int .i64 0) ∧ Below v.heap.size v w') := hide (fun v hv => by
              have := ccheck9_any a0 _ v (grP.hold (uh GI4) (Hold.below hv)) (uh HFT).sums.2.2 (uh HFT).sums.2.1
              rw [uh GDE, uh HCK] at this
              exact this)
            have LOG : Hid (∀ v, Below U.heap.size U v → Ints .i64 v gqo gco gout) := hide (fun v hv => by
              have := (grP.hold (uh GI4) (Hold.below hv)).2.2.2.1
              rw [ha0] at this
              exact this)
            have HGO : Hid (GD.out = gout ∧ GD.vals.length = gvals.length) := hide (by rw [← uh GDE, ha0]; exact ⟨rfl, by simp [GrA.d]⟩)
            clear ha0
            rw [hga0] at CP HCG
            clear hga0 GI4
            have g0 := (uh GV4).cell
            go_wp2_with fail
            refine (uh CP _ (Below.refl _ _)).mono ?_
            rintro e u1 ⟨pa, rfl, hd, hi, hb⟩
            have AD := hide hd
            have AI := hide hi
            have AB := hide hb
            clear hd hi hb x0 g0 CP
            have HPS : Hid (pa.vals.length = gvals.length ∧ pa.out = gout ∧ okGrD pa.d ∧ checkG pa.d = 0 ∧ (∀ i, i < pa.nodes.length → (liveG pa.d).getD i false = true) ∧ (liveG pa.d).length = pa.nodes.length) := hide (by
              refine ⟨?_, ?_, ?_, ?_, ?_, ?_⟩
              · have := congrArg (fun g : GrD => g.vals.length) (uh AD)
                simp only [GrA.d, List.length_map] at this
                rw [this]; exact (uh HGO).2
              · have := congrArg (fun g : GrD => g.out) (uh AD)
                simp only [GrA.d] at this
                rw [this]; exact (uh HGO).1
              · rw [uh AD]; exact prune_fit (uh HFIT)
              · rw [uh AD]; exact prune_sound (uh HCK)
              · intro i hi
                obtain ⟨hl, hb⟩ := prune_live GD
                rw [uh AD]
                have hlen := congrArg (fun g : GrD => g.nodes.length) (uh AD)
                simp only [GrA.d, List.length_map] at hlen
                rw [List.getD_eq_getElem?_getD, List.getElem?_eq_getElem (by rw [hl, ← hlen]; exact hi)]
                exact hb _ (List.getElem_mem _)
              · rw [uh AD, (prune_live GD).1, ← uh AD]; simp [GrA.d])
            clear AD HGO
            have HCA : Hid (∀ v, Below u1.heap.size u1 v → Calls Tryz.prog 12 #[grV pa] v fun e w' => e = .returned (.int .i64 0) ∧ Below v.heap.size v w') := hide (fun v hv => by
              have := ccheck9_any pa _ v (grP.hold (uh AI) (Hold.below hv)) (uh HPS).2.2.1.sums.2.2 (uh HPS).2.2.1.sums.2.1
              rw [(uh HPS).2.2.2.1] at this
              exact this)
            have HLA : Hid (∀ v, Below u1.heap.size u1 v → Calls Tryz.prog 13 #[grV pa] v fun e w' => ∃ b, e = .returned (.slice (some ⟨b, 0, none⟩) pa.nodes.length pa.nodes.length) ∧ b < w'.heap.size ∧ (∀ i, i < pa.nodes.length → w'.cell? ⟨b, i, none⟩ = some (.bool true)) ∧ Below v.heap.size v w') := hide (fun v hv => by
              have h9 := (uh HPS).2.2.1.gr
              refine (clive9_any pa _ v (grP.hold (uh AI) (Hold.below hv)) (Nat.le_trans h9.nn (by omega)) (uh HPS).2.2.1.sums.1).mono ?_
              rintro e w' ⟨⟨b, he, hb, hm⟩, hw⟩
              refine ⟨b, he, hm.lt, fun i hi => ?_, hw⟩
              have := hm.at (m := i) (by rw [(uh HPS).2.2.2.2.2]; exact hi)
              rw [(uh HPS).2.2.2.2.1 i hi] at this
              exact this)
            have LOP : Hid (∀ v, Below u1.heap.size u1 v → Calls Tryz.prog 19 #[.slice pa.qo pa.out.length pa.co, .slice gqo gout.length gco] v fun e w' => e = .returned (.bool true) ∧ Below v.heap.size v w') := hide (fun v hv =>
              rsame7_true pa.qo gqo pa.co gco pa.out gout v (grP.hold (uh AI) (Hold.below hv)).2.2.2.1 (uh LOG v (bl_tr (uh AB) hv)) (uh HPS).2.1)
            have HPN : Hid (pa.nodes.length ≤ 1024) := hide (by have := (uh HPS).2.2.1.nn; simpa [GrA.d] using this)
            have HVL : Hid (pa.vals.length = gvals.length) := hide (uh HPS).1
            have hpn := uh HPN
            clear HPS AI LOG
            obtain ⟨pvals, pqv, pcv, pnodes, pqn, pcn, pinp, pqi, pci, pout, pqo, pco⟩ := pa
            simp only [grV, grCells] at HCA HLA LOP HVL HPN hpn ⊢
            rw [uh HVL] at HCA HLA ⊢
            clear HVL
            generalize pnodes.length = N at HCA HLA HPN hpn ⊢
            generalize gvals.length = NV at *
            generalize pout.length = NO at *
            generalize gout.length = NG at *
            obtain ⟨u2, hu2⟩ : ∃ V, u1.alloc (.cells #[.slice pqv NV pcv, .slice pqn N pcn, .slice pqi pinp.length pci, .slice pqo NO pco] 32) = V := ⟨_, rfl⟩
            have PB2 : Hid (Box u2 u1.heap.size #[.slice pqv NV pcv, .slice pqn N pcn, .slice pqi pinp.length pci, .slice pqo NO pco] 32) := hide (by rw [← hu2]; exact Box.new _ _ _)
            have PK2 : Hid (Below u1.heap.size u1 u2) := hide (by rw [← hu2]; exact al1p _ _)
            have y0 := (uh PB2).cell
            go_upto_region 22 with fail
            (try rw [hu2])
            clear hu2
            go_wp2_with fail
            refine (uh HLA _ (uh PK2)).mono ?_
            rintro e u3 ⟨b, rfl, hbl, hbt, hbw⟩
            have BT := hide hbt
            have BL := hide hbl
            have K3 := hide (bl_tr (uh PK2) hbw)
            have PB3 := hide ((uh PB2).below hbw)
            clear hbt hbl hbw y0 PB2 PK2 HLA
            go_wp2_with fail
            have hnp : N ≤ 9223372036854775807 := by omega
            clear hpn
            go_loopw [14] (fun iv wq => ∃ n : Nat, iv = .int .i64 n ∧ n ≤ N ∧ wq = u3) (fun iv _ => N - (intOf iv).toNat)
            case atStart => exact ⟨0, rfl, by omega, rfl⟩
            case round =>
              obtain ⟨n, rfl, hn3, hw⟩ := hrel
              subst hw
              by_cases hl3 : n < N
              · have hi3 : (n : Int) < (N : Int) := by omega
                have k2 := uh BT n hl3
                have hpn := uh HPN
                have hw2 : IntKind.i64.wrap ((n : Int) + 1) = (n : Int) + 1 := by rw [IntKind.wrap_i64]; omega
                go_wp2_with fail
                go_roundw
                case rel => exact ⟨n + 1, by go_num, by omega, trivial⟩
                case measure => (simp [intOf] <;> omega)
              · have hi3 : ¬ (n : Int) < (N : Int) := by omega
                have BVF := hide (bl_tr (uh BV4) (bl_tr (uh AB) (uh K3)))
                have GB3 := hide ((uh GV4).below (bl_tr (uh AB) (uh K3)))
                have BU3 := hide (bl_tr (uh AB) (uh K3))
                clear BV4 GV4
                have HCG3 : Hid (∀ v, Below wr.heap.size wr v → Calls Tryz.prog 12 #[.agg #[.slice gqv NV gcv, .slice gqn gnodes.length gcn, .slice gqi ginp.length gci, .slice gqo NG gco]] v fun e w' => e = .returned (.int .i64 0) ∧ Below v.heap.size v w') := hide (fun v hv => uh HCG v (bl_tr (uh BU3) hv))
                have HCA3 : Hid (∀ v, Below wr.heap.size wr v → Calls Tryz.prog 12 #[.agg #[.slice pqv NV pcv, .slice pqn N pcn, .slice pqi pinp.length pci, .slice pqo NO pco]] v fun e w' => e = .returned (.int .i64 0) ∧ Below v.heap.size v w') := hide (fun v hv => uh HCA v (bl_tr (uh K3) hv))
                have LOP3 : Hid (∀ v, Below wr.heap.size wr v → Calls Tryz.prog 19 #[.slice pqo NO pco, .slice gqo NG gco] v fun e w' => e = .returned (.bool true) ∧ Below v.heap.size v w') := hide (fun v hv => uh LOP v (bl_tr (uh K3) hv))
                have GX := hide (fun v (hv : Below wr.heap.size wr v) => ((uh GB3).below hv).cell)
                have PX := hide (fun v (hv : Below wr.heap.size wr v) => ((uh PB3).below hv).cell)
                clear HCG HCA LOP BU3 K3 GB3 PB3 BT BL AB HPN
                have g3 := uh GX _ (Below.refl _ _)
                go_wp2_with fail
                refine (uh HCG3 _ (Below.refl _ _)).mono ?_
                rintro e u5 ⟨rfl, hb5⟩
                have K5 := hide hb5
                have p5 := uh PX _ hb5
                clear hb5 g3 HCG3
                go_wp2_with fail
                refine (uh HCA3 _ (uh K5)).mono ?_
                rintro e u6 ⟨rfl, hb6⟩
                have K6 := hide (bl_tr (uh K5) hb6)
                have p6 := uh PX _ (uh K6)
                have g6 := uh GX _ (uh K6)
                clear hb6 p5 HCA3
                go_wp2_with fail
                refine (uh LOP3 _ (uh K6)).mono ?_
                rintro e u7 ⟨rfl, hb7⟩
                have K7 := hide (bl_tr (uh K6) hb7)
                have p7 := uh PX _ (uh K7)
                clear hb7 p6 g6 LOP3
                go_wp2_with fail
                go_ret
                exact ⟨rfl, bl_tr (uh BVF) (uh K7)⟩
  · have hbad := uh HBAD h0
    have hpl := uh HPL h0
    have hl0 : gvals.length = 0 := by
      have := congrArg (fun g : GrD => g.vals.length) ((uh GDE).trans hbad)
      simpa [GrA.d, noGr] using this
    have t1 : (E1 != 0) = true := by simpa using h0
    have t2 : decide (-1 ≤ A1) = true := by simpa using hpl.1
    have t3 : decide (A1 < (nodes.length : Int)) = true := by simpa using hpl.2
    have g3 := (uh G3).cell
    rw [hl0] at hV3 G3 g3 ⊢
    clear h0 hbad hpl
    go_wp2_with fail
    go_ret
    exact ⟨rfl, uh B3⟩

set_option maxRecDepth 100000 in
theorem contract (H : Type) (enc : TypeId × Value → H) (W : World) (base : Nat) (args : Array Value) (ds gs : List (DataW H)) (before : List MemPlace)
    (hval0 : ∀ (j : Nat) t v, Tryz.f5.params[j]? = some t → args[j]? = some v → Value.okWide Tryz.prog W .any base t v)
    (hW : DataW.Whole enc Tryz.prog Tryz.f5.params.toList Rows.graphSoundSpec.vars false W args.toList ds gs before) (hsz0 : (DataW.weightsEach Tryz.prog (Tryz.f5.params.toList ++ Rows.graphSoundSpec.plain.varTypes Tryz.prog) (ds ++ gs)).all (· ≤ reachBytes) = true) :
    Calls Tryz.prog 5 args W fun e W' => ∃ v, e = .returned v ∧ Rows.graphSoundSpec.post enc Tryz.prog Tryz.f5 false true false false W args v W' := by
  have hval : ∀ (j : Nat) t v, Tryz.f5.params[j]? = some t → args[j]? = some v → Value.okWide Tryz.prog W .any base t v := hval0
  have hW' := hW
  obtain ⟨p, q, hA0, hV, rfl, hfz, hnd⟩ := hW
  have hA : DataW.TrodAll enc Tryz.prog W 0 (fun _ => true) true Tryz.f5.params.toList args.toList ds p := hA0
  have hsz : (DataW.weightsEach Tryz.prog (Tryz.f5.params.toList ++ Rows.graphSoundSpec.plain.varTypes Tryz.prog) (ds ++ gs)).all (· ≤ reachBytes) = true := hsz0
  clear hsz0
  rw [Tryz.params5] at hA hval hsz
  obtain ⟨v0, vs0, d0, ds0, pl0, q0, hargs, rfl, rfl, h0, r0⟩ := trodAll_cons hA
  obtain ⟨rfl, rfl, rfl⟩ := trodAll_nil r0
  obtain rfl : args = #[v0] := by cases args; simp_all
  obtain ⟨rfl, rfl⟩ := trodVars_none hV
  have h0k := h0
  obtain ⟨M0, rfl, s0, g0⟩ := mo_open (hval 0 26 v0 rfl rfl) h0
  have hlt0 : ∀ y ∈ pl0, y.block < W.heap.size := fun y hy => hW'.lt y (by simp [hy])
  have u0 : MoLt M0 := g0 (fun m hm => by have h9 := List.all_eq_true.1 hsz m (DataW.weights_mem_each (j := 0) rfl rfl m hm); simpa using h9)
  clear hA0 hval0
  simp only [List.append_nil] at hW'
  refine (walk M0 W s0 u0).mono fun e W' ⟨he, bel⟩ => ?_
  subst he
  exact ⟨_, rfl, _, _, _, [], _, [], hW', trodAll_mk1 (shut_bool Tryz.underlying4 _), (trodAll_cons_mk (Below.trod laidOut (by kernel_rfl) (of_decide_eq_true (by kernel_rfl)) h0k bel hlt0) trodAll_mk0), rfl, bel.frame _, fun h => by cases h⟩

set_option maxRecDepth 100000 in
theorem lifted (os : Os) (started : os.Started) (H : Type) (enc : TypeId × Value → H) :
    ReturnsInHanded {} Tryz.checked os 5 .any (Rows.graphSoundSpec.pre6 enc Tryz.prog Tryz.f5 Rows.graphSoundRow.domain false) (Rows.graphSoundSpec.post enc Tryz.prog Tryz.f5 false true false false) := by
  refine returnsInHanded_of_change_sized (C := Tryz.checked) own started (by kernel_rfl) Tryz.func5
    (ChangeSpec.witness6 (enc := enc) (C := Tryz.checked) false ⟨#[], #[.agg #[.int .i64 0, .string { data := #[] }, .slice none 0 0, .slice none 0 0, .slice none 0 0, .slice none 0 0]], []⟩ 8 (by kernel_rfl) (by kernel_rfl) (by kernel_rfl) (by kernel_rfl)) ?_
  intro W base args ds gs before hval hW hcnd hsz _
  exact contract H enc W base args ds gs before hval hW hsz

theorem proved : Rows.GraphSoundSaid :=
  OpenClaim.holds_of_wide 5 Tryz.f5 rfl rfl rfl rfl rfl rfl rfl ⟨rfl, rfl, rfl, rfl, rfl⟩ rfl rfl rfl rfl rfl (by kernel_rfl) Tryz.func5 (by kernel_rfl)
    (of_decide_eq_true (by kernel_rfl)) (by unfold Func.isWrapper; first | (rw [if_pos (by decide +kernel)]; kernel_rfl) | (rw [if_neg (by decide +kernel)]; exact ⟨rfl, rfl⟩))
    (fun os started H enc _ => lifted os started H enc)
#print axioms proved
end Go.Proofs.YtbmmcbagdomonaaGreat.graphSound
