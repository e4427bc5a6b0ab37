import Derived.Test.YtkjlhmojdffooaaGreatV21
import Derived.Test.YtkjlhmojdffooaaGreatV26

/-
  Layer 7: what the code writes of a node, of a graph.
-/
namespace Go.Proofs.YtkjlhmojdffooaaGreat
open Go.RowKit
set_option linter.unusedVariables false

/-- A node that is not too great to be written. -/
def NoSm (a : NoA) : Prop := a.op ≠ [] ∧ a.op.length ≤ 100000 ∧ a.nm.length ≤ 100000 ∧ (∀ s ∈ a.ins, s.length ≤ 100000) ∧ (∀ s ∈ a.outs, s.length ≤ 100000) ∧ ∀ x ∈ a.at', AtSm x ∧ kindB x.kd = true

set_option maxRecDepth 100000 in
set_option maxHeartbeats 8000000 in
theorem cnode_any (g : Nat) (fs0 : List Fld) (a : NoA) {B : Nat} (w : World) (hW : WrIn g w fs0) (h : NoIn B w a) (hB : B ≤ g) (hm : NoSm a) :
    Calls Tryz.prog 97 #[.pointer (some ⟨g, 0, none⟩), .agg (noCells a).toArray] w fun e w' => WEnd g w (fs0 ++ nodeF a.d) e w' := by
  have kc := fun (w : World) (b : ByteArray) => Go.Lib.run_convert_string_bytes (P := Tryz.prog) w 9 22 5 b Tryz.underlying9 Tryz.underlying22 Tryz.underlying5
  have HI := hide (fun v (hv : KeptW g w v) => h.kept nodeTS_in (hv.model hB))
  have HW := hide hW
  have gl := hW.lt
  have A1 := hide (fun v (hv : KeptW g w v) => (unhide HI v hv).2.2.1.2.1)
  have A2 := hide (fun v (hv : KeptW g w v) => (unhide HI v hv).2.2.2.1.2.1)
  have S1 : Hid (∀ s ∈ a.ins, isB s ∧ s.length ≤ 100000) := hide (fun s hs => ⟨h.2.2.1.1 s hs, hm.2.2.2.1 s hs⟩)
  have S2 : Hid (∀ s ∈ a.outs, isB s ∧ s.length ≤ 100000) := hide (fun s hs => ⟨h.2.2.2.1.1 s hs, hm.2.2.2.2.1 s hs⟩)
  have n1 := h.2.2.1.2.1.len
  have n2 := h.2.2.2.1.2.1.len
  have C3 := hide (fun v fs (hv : WrIn g v fs) => cname_any g fs 3 a.nm v hv h.2.1 (by decide) (by decide) (by have := hm.2.2.1; omega))
  have C4 := hide (fun v fs (hv : WrIn g v fs) => cname_any g fs 4 a.op v hv h.1 (by decide) (by decide) (by have := hm.2.1; omega))
  rw [show wordF 4 a.op = [blkF 4 a.op] from by unfold wordF; rw [if_neg hm.1]] at C4
  have C5 := hide (fun v fs (hk : KeptW g w v) (hv : WrIn g v fs) => ceachAttr_any g B fs 5 152 (ent_of Tryz.func152 (by kernel_rfl) rfl) (fun x => attrF x.d) a.qa a.ca a.at' v hv (unhide HI v hk).2.2.2.2.2.1 (unhide HI v hk).2.2.2.2.2.2 hB (by decide) (by decide) (fun u gi hu hgg hwi x hx => by
    have hx2 := cattr_any gi [] x u hwi ((((unhide HI v hk).2.2.2.2.1 x hx).kept tenTS_in (hu.model hB))) (B := B) (Nat.le_trans hB hgg) (hm.2.2.2.2.2 x hx).1 (hm.2.2.2.2.2 x hx).2
    rw [List.nil_append] at hx2
    exact hx2))
  have HV : Hid (fs0 ++ nodeF a.d = fs0 ++ a.ins.map (blkF 1) ++ a.outs.map (blkF 2) ++ wordF 3 a.nm ++ [blkF 4 a.op] ++ a.at'.map fun x => blkF 5 (msgB (attrF x.d))) := hide (by unfold nodeF NoA.d; simp only [List.append_assoc, List.map_map]; rfl)
  rw [unhide HV]
  clear HV hW h hm HI
  obtain ⟨op, nm, ins, qi, ci, outs, qo, co, at', qa, ca⟩ := a
  simp only at A1 A2 S1 S2 n1 n2 C3 C4 C5 ⊢
  generalize wordF 3 nm = F3' at C3 ⊢
  generalize blkF 4 op = F4 at C4 ⊢
  obtain ⟨F5, hF5⟩ : ∃ F, (at'.map fun x => blkF 5 (msgB (attrF x.d))) = F := ⟨_, rfl⟩
  rw [hF5] at C5 ⊢
  unfold strV at C3 C4
  unfold noCells strV
  simp only
  clear hF5
  go_enter Tryz.func97, Tryz.ntmps97
  go_wp2_with fail
  obtain ⟨W, hWe⟩ : ∃ W, (w.alloc (Obj.cells #[.string (strOfNums op), .string (strOfNums nm), .slice qi ins.length ci, .slice qo outs.length co, .slice qa at'.length ca] 75)) = W := ⟨_, rfl⟩
  have BX : Hid (Box W w.heap.size #[.string (strOfNums op), .string (strOfNums nm), .slice qi ins.length ci, .slice qo outs.length co, .slice qa at'.length ca] 75) := hide (by rw [← hWe]; exact Box.new w _ _)
  have K0 : Hid (KeptW g w W) := hide (by rw [← hWe]; exact KeptW.below (al1p _ _) (by omega))
  have V0 : Hid (WrIn g W fs0) := hide (by rw [← hWe]; exact (unhide HW).below (al1p _ _))
  have X0 : Hid (KeptW g W W) := hide (KeptW.refl _ _)
  rw [hWe]
  clear hWe HW
  have x0 := (unhide BX).cell
  go_loopw [11] (fun iv wr => ∃ n : Nat, iv = .int .i64 n ∧ n ≤ ins.length ∧ Hid (WrIn g wr (fs0 ++ (ins.take n).map (blkF 1))) ∧ Hid (KeptW g W wr)) (fun iv _ => ins.length - (intOf iv).toNat)
  case atStart => exact ⟨0, rfl, by omega, hide (by rw [List.take_zero, List.map_nil, List.append_nil]; exact unhide V0), X0⟩
  case round =>
    obtain ⟨n, rfl, hn, HN, HB⟩ := hrel
    by_cases hlt : n < ins.length
    · have hi : (n : Int) < (ins.length : Int) := by omega
      have xr := ((unhide HB).box (by decide) (by decide) (unhide BX)).cell
      obtain ⟨b, o, rfl, hb, hc⟩ := (unhide A1 _ ((unhide K0).trans (unhide HB))).lies (by omega)
      have k1 : wr.cell? ⟨b, o + n, none⟩ = some (strV (ins.getD n default)) := hc n hlt
      have hmem := getD_mem7 (z := default) hlt
      have CD := hide (fun v p c hv hb => cdata_any g (fs0 ++ (ins.take n).map (blkF 1)) 1 p c (ins.getD n default) v hv (Ls.ints hb (isB_wf ((unhide S1 _ hmem).1))) (by decide) (by decide) (by have := (unhide S1 _ hmem).2; omega))
      have hBb := hide (fun v => below_bytes v 5 (strOfNums (ins.getD n default)))
      have HL := hide (fun v => ls_bytes (w := v) (e := 5) ((unhide S1 _ hmem).1) (by have := (unhide S1 _ hmem).2; omega))
      have hlen := str_len (ins.getD n default)
      have HT := hide (map_take7 (blkF 1) default ins n hlt)
      generalize ins.getD n default = s at k1 CD hBb HL hlen HT
      unfold strV at k1
      clear hc hmem
      have V2 := hide ((unhide HN).below (unhide hBb wr))
      have X2 := hide ((unhide HB).trans (KeptW.below (unhide hBb wr) (Nat.le_of_lt (unhide HN).lt)))
      go_wp2_with fail
      refine (unhide CD _ _ _ (unhide V2) (unhide HL wr)).mono ?_
      rintro e w3 ⟨rfl, hv1, hv2⟩
      rw [List.append_assoc, ← unhide HT] at hv1
      have H1 := hide hv1
      have H2 := hide ((unhide X2).trans hv2)
      clear hv1 hv2 CD
      go_wp2_with fail
      go_roundw
      case rel => exact ⟨n + 1, by go_num, by omega, H1, H2⟩
      case measure => simp [intOf]; omega
    · have hi : ¬ (n : Int) < (ins.length : Int) := by omega
      rw [List.take_of_length_le (by omega)] at HN
      have xr := ((unhide HB).box (by decide) (by decide) (unhide BX)).cell
      have V1 := HN
      have X1 := HB
      clear HN HB
      go_wp2_with fail
      go_loopw [23] (fun iv wr => ∃ n : Nat, iv = .int .i64 n ∧ n ≤ outs.length ∧ Hid (WrIn g wr (fs0 ++ ins.map (blkF 1) ++ (outs.take n).map (blkF 2))) ∧ Hid (KeptW g W wr)) (fun iv _ => outs.length - (intOf iv).toNat)
      case atStart => exact ⟨0, rfl, by omega, hide (by rw [List.take_zero, List.map_nil, List.append_nil]; exact unhide V1), X1⟩
      case round =>
        obtain ⟨n, rfl, hn, HN, HB⟩ := hrel
        by_cases hlt : n < outs.length
        · have hi : (n : Int) < (outs.length : Int) := by omega
          have xr := ((unhide HB).box (by decide) (by decide) (unhide BX)).cell
          obtain ⟨b, o, rfl, hb, hc⟩ := (unhide A2 _ ((unhide K0).trans (unhide HB))).lies (by omega)
          have k1 : wr.cell? ⟨b, o + n, none⟩ = some (strV (outs.getD n default)) := hc n hlt
          have hmem := getD_mem7 (z := default) hlt
          have CD := hide (fun v p c hv hb => cdata_any g (fs0 ++ ins.map (blkF 1) ++ (outs.take n).map (blkF 2)) 2 p c (outs.getD n default) v hv (Ls.ints hb (isB_wf ((unhide S2 _ hmem).1))) (by decide) (by decide) (by have := (unhide S2 _ hmem).2; omega))
          have hBb := hide (fun v => below_bytes v 5 (strOfNums (outs.getD n default)))
          have HL := hide (fun v => ls_bytes (w := v) (e := 5) ((unhide S2 _ hmem).1) (by have := (unhide S2 _ hmem).2; omega))
          have hlen := str_len (outs.getD n default)
          have HT := hide (map_take7 (blkF 2) default outs n hlt)
          generalize outs.getD n default = s at k1 CD hBb HL hlen HT
          unfold strV at k1
          clear hc hmem
          have V2 := hide ((unhide HN).below (unhide hBb wr))
          have X2 := hide ((unhide HB).trans (KeptW.below (unhide hBb wr) (Nat.le_of_lt (unhide HN).lt)))
          go_wp2_with fail
          refine (unhide CD _ _ _ (unhide V2) (unhide HL wr)).mono ?_
          rintro e w3 ⟨rfl, hv1, hv2⟩
          rw [List.append_assoc, ← unhide HT] at hv1
          have H1 := hide hv1
          have H2 := hide ((unhide X2).trans hv2)
          clear hv1 hv2 CD
          go_wp2_with fail
          go_roundw
          case rel => exact ⟨n + 1, by go_num, by omega, H1, H2⟩
          case measure => simp [intOf]; omega
        · have hi : ¬ (n : Int) < (outs.length : Int) := by omega
          rw [List.take_of_length_le (by omega)] at HN
          have xr := ((unhide HB).box (by decide) (by decide) (unhide BX)).cell
          have V2 := HN
          have X2 := HB
          have K2 := hide ((unhide K0).trans (unhide X2))
          clear HN HB
          go_wp2_with fail
          refine (unhide C3 _ _ (unhide V2)).mono ?_
          rintro e w3 ⟨rfl, hv1, hv2⟩
          have V3 := hide hv1
          have X3 := hide ((unhide X2).trans hv2)
          have K3 := hide ((unhide K0).trans (unhide X3))
          have x3 := ((unhide X3).box (by decide) (by decide) (unhide BX)).cell
          clear hv1 hv2
          go_wp2_with fail
          refine (unhide C4 _ _ (unhide V3)).mono ?_
          rintro e w4 ⟨rfl, hv1, hv2⟩
          have V4 := hide hv1
          have X4 := hide ((unhide X3).trans hv2)
          have K4 := hide ((unhide K0).trans (unhide X4))
          have x4 := ((unhide X4).box (by decide) (by decide) (unhide BX)).cell
          clear hv1 hv2
          go_wp2_with fail
          refine (unhide C5 _ _ (unhide K4) (unhide V4)).mono ?_
          rintro e w5 ⟨rfl, hv1, hv2⟩
          have V5 := hide hv1
          have X5 := hide ((unhide X4).trans hv2)
          have K5 := hide ((unhide K0).trans (unhide X5))
          have x5 := ((unhide X5).box (by decide) (by decide) (unhide BX)).cell
          clear hv1 hv2
          go_wp2_with fail
          go_end0
          exact ⟨rfl, unhide V5, unhide K5⟩

end Go.Proofs.YtkjlhmojdffooaaGreat

/-
  Layer 7: what the code writes of a graph.
-/
namespace Go.Proofs.YtkjlhmojdffooaaGreat
open Go.RowKit
set_option linter.unusedVariables false

/-- A model that is not too great to be written. -/
def MoSm (a : MoA) : Prop := a.nm.length ≤ 100000 ∧ (∀ x ∈ a.nodes, NoSm x) ∧ (∀ x ∈ a.inits, x.nm.length ≤ 100000 ∧ TenWr x.T) ∧ (∀ x ∈ a.inp, x.nm.length ≤ 100000) ∧ ∀ x ∈ a.out, x.nm.length ≤ 100000

set_option maxRecDepth 100000 in
set_option maxHeartbeats 4000000 in
theorem cgraph_any (g : Nat) (fs0 : List Fld) (a : MoA) {B : Nat} (w : World) (hW : WrIn g w fs0) (h : MoIn B w a) (hB : B ≤ g) (hm : MoSm a) :
    Calls Tryz.prog 47 #[.pointer (some ⟨g, 0, none⟩), moV a] w fun e w' => WEnd g w (fs0 ++ graphF a.d) e w' := by
  have HI := hide (fun v (hv : KeptW g w v) => h.kept (hv.model hB))
  have HW := hide hW
  have gl := hW.lt
  have C1 := hide (fun v fs (hk : KeptW g w v) (hv : WrIn g v fs) => ceachNode_any g B fs 1 97 (ent_of Tryz.func97 (by kernel_rfl) rfl) (fun x => nodeF x.d) a.qn a.cn a.nodes v hv (unhide HI v hk).2.2.1.2.1 (unhide HI v hk).2.2.1.2.2 hB (by decide) (by decide) (fun u gi hu hgg hwi x hx => by
    have hx2 := cnode_any gi [] x u hwi ((((unhide HI v hk).2.2.1.1 x hx).kept nodeTS_in (hu.model hB))) (B := B) (Nat.le_trans hB hgg) (hm.2.1 x hx)
    rw [List.nil_append] at hx2
    exact hx2))
  have C2 := hide (fun v fs (hv : WrIn g v fs) => cname_any g fs 2 a.nm v hv h.2.1 (by decide) (by decide) (by have := hm.1; omega))
  have C3 := hide (fun v fs (hk : KeptW g w v) (hv : WrIn g v fs) => ceachInit_any g B fs 5 100 (ent_of Tryz.func100 (by kernel_rfl) rfl) (fun x => tensF x.nm x.T) a.qi a.ci a.inits v hv (unhide HI v hk).2.2.2.1.2.1 (unhide HI v hk).2.2.2.1.2.2 hB (by decide) (by decide) (fun u gi hu hgg hwi x hx => by
    have hx2 := cinit_any gi [] x u hwi ((((unhide HI v hk).2.2.2.1.1 x hx).kept tenTS_in (hu.model hB))) (B := B) (Nat.le_trans hB hgg) (hm.2.2.1 x hx).1 (hm.2.2.1 x hx).2
    rw [List.nil_append] at hx2
    exact hx2))
  have C4 := hide (fun v fs (hk : KeptW g w v) (hv : WrIn g v fs) => ceachValue_any g B fs 11 102 (ent_of Tryz.func102 (by kernel_rfl) rfl) (fun x => valF x.d) a.qp a.cp a.inp v hv (unhide HI v hk).2.2.2.2.1.2.1 (unhide HI v hk).2.2.2.2.1.2.2 hB (by decide) (by decide) (fun u gi hu hgg hwi x hx => by
    have hx2 := cvalue_any gi [] x u hwi ((((unhide HI v hk).2.2.2.2.1.1 x hx).kept (by decide) (hu.model hB))) (B := B) (Nat.le_trans hB hgg) (hm.2.2.2.1 x hx)
    rw [List.nil_append] at hx2
    exact hx2))
  have C5 := hide (fun v fs (hk : KeptW g w v) (hv : WrIn g v fs) => ceachValue_any g B fs 12 102 (ent_of Tryz.func102 (by kernel_rfl) rfl) (fun x => valF x.d) a.qo a.co a.out v hv (unhide HI v hk).2.2.2.2.2.2.1 (unhide HI v hk).2.2.2.2.2.2.2 hB (by decide) (by decide) (fun u gi hu hgg hwi x hx => by
    have hx2 := cvalue_any gi [] x u hwi ((((unhide HI v hk).2.2.2.2.2.1 x hx).kept (by decide) (hu.model hB))) (B := B) (Nat.le_trans hB hgg) (hm.2.2.2.2 x hx)
    rw [List.nil_append] at hx2
    exact hx2))
  have HV : Hid (fs0 ++ graphF a.d = fs0 ++ (a.nodes.map fun x => blkF 1 (msgB (nodeF x.d))) ++ wordF 2 a.nm ++ (a.inits.map fun x => blkF 5 (msgB (tensF x.nm x.T))) ++ (a.inp.map fun x => blkF 11 (msgB (valF x.d))) ++ a.out.map fun x => blkF 12 (msgB (valF x.d))) := hide (by unfold graphF MoA.d; simp only [List.append_assoc, List.map_map]; rfl)
  rw [unhide HV]
  clear HV hW h hm HI
  obtain ⟨ops, nm, nodes, qn, cn, inits, qi, ci, inp, qp, cp, out, qo, co⟩ := a
  simp only at C1 C2 C3 C4 C5 ⊢
  obtain ⟨F1, hF1⟩ : ∃ F, (nodes.map fun x => blkF 1 (msgB (nodeF x.d))) = F := ⟨_, rfl⟩
  rw [hF1] at C1 ⊢
  obtain ⟨F3', hF3⟩ : ∃ F, (inits.map fun x => blkF 5 (msgB (tensF x.nm x.T))) = F := ⟨_, rfl⟩
  rw [hF3] at C3 ⊢
  obtain ⟨F4, hF4⟩ : ∃ F, (inp.map fun x => blkF 11 (msgB (valF x.d))) = F := ⟨_, rfl⟩
  rw [hF4] at C4 ⊢
  obtain ⟨F5, hF5⟩ : ∃ F, (out.map fun x => blkF 12 (msgB (valF x.d))) = F := ⟨_, rfl⟩
  rw [hF5] at C5 ⊢
  generalize wordF 2 nm = F2 at C2 ⊢
  clear hF1 hF3 hF4 hF5
  unfold strV at C2
  unfold moV moCells strV
  simp only
  go_enter Tryz.func47, Tryz.ntmps47
  go_wp2_with fail
  obtain ⟨W, hWe⟩ : ∃ W, (w.alloc (Obj.cells #[.int .i64 ops, .string (strOfNums nm), .slice qn nodes.length cn, .slice qi inits.length ci, .slice qp inp.length cp, .slice qo out.length co] 29)) = W := ⟨_, rfl⟩
  have BX : Hid (Box W w.heap.size #[.int .i64 ops, .string (strOfNums nm), .slice qn nodes.length cn, .slice qi inits.length ci, .slice qp inp.length cp, .slice qo out.length co] 29) := hide (by rw [← hWe]; exact Box.new w _ _)
  have K0 : Hid (KeptW g w W) := hide (by rw [← hWe]; exact KeptW.below (al1p _ _) (by omega))
  have V0 : Hid (WrIn g W fs0) := hide (by rw [← hWe]; exact (unhide HW).below (al1p _ _))
  have X0 : Hid (KeptW g W W) := hide (KeptW.refl _ _)
  rw [hWe]
  clear hWe HW
  refine (unhide C1 _ _ (unhide K0) (unhide V0)).mono ?_
  rintro e w1 ⟨rfl, hv1, hv2⟩
  have V1 := hide hv1
  have X1 := hide ((unhide X0).trans hv2)
  have K1 := hide ((unhide K0).trans (unhide X1))
  have x1 := ((unhide X1).box (by decide) (by decide) (unhide BX)).cell
  clear hv1 hv2
  go_wp2_with fail
  refine (unhide C2 _ _ (unhide V1)).mono ?_
  rintro e w2 ⟨rfl, hv1, hv2⟩
  have V2 := hide hv1
  have X2 := hide ((unhide X1).trans hv2)
  have K2 := hide ((unhide K0).trans (unhide X2))
  have x2 := ((unhide X2).box (by decide) (by decide) (unhide BX)).cell
  clear hv1 hv2
  go_wp2_with fail
  refine (unhide C3 _ _ (unhide K2) (unhide V2)).mono ?_
  rintro e w3 ⟨rfl, hv1, hv2⟩
  have V3 := hide hv1
  have X3 := hide ((unhide X2).trans hv2)
  have K3 := hide ((unhide K0).trans (unhide X3))
  have x3 := ((unhide X3).box (by decide) (by decide) (unhide BX)).cell
  clear hv1 hv2
  go_wp2_with fail
  refine (unhide C4 _ _ (unhide K3) (unhide V3)).mono ?_
  rintro e w4 ⟨rfl, hv1, hv2⟩
  have V4 := hide hv1
  have X4 := hide ((unhide X3).trans hv2)
  have K4 := hide ((unhide K0).trans (unhide X4))
  have x4 := ((unhide X4).box (by decide) (by decide) (unhide BX)).cell
  clear hv1 hv2
  go_wp2_with fail
  refine (unhide C5 _ _ (unhide K4) (unhide V4)).mono ?_
  rintro e w5 ⟨rfl, hv1, hv2⟩
  have V5 := hide hv1
  have X5 := hide ((unhide X4).trans hv2)
  have K5 := hide ((unhide K0).trans (unhide X5))
  have x5 := ((unhide X5).box (by decide) (by decide) (unhide BX)).cell
  clear hv1 hv2
  go_wp2_with fail
  go_end0
  exact ⟨rfl, unhide V5, unhide K5⟩
set_option maxRecDepth 100000 in
set_option maxHeartbeats 1000000 in
theorem cenc1_any (gin gm : Nat) (a : MoA) {B : Nat} (w : World) (hW : WrIn gin w []) (hb : Box w gm (moCells a) 29) (h : MoIn B w a) (hB : B ≤ gin) (hm : MoSm a) :
    Calls Tryz.prog 46 #[.pointer (some ⟨gin, 0, none⟩), .pointer (some ⟨gm, 0, none⟩)] w fun e w' => WEnd gin w (graphF a.d) e w' := by
  have C1 := hide (cgraph_any gin [] a w hW h hB hm)
  rw [List.nil_append] at C1
  generalize graphF a.d = F at C1 ⊢
  have x0 := hb.cell
  clear hW hb h hm
  unfold moV moCells strV at C1
  unfold moCells strV at x0
  go_enter Tryz.func46, Tryz.ntmps46
  go_wp2_with fail
  refine (unhide C1).mono ?_
  rintro e v ⟨rfl, hv1, hv2⟩
  have H1 := hide hv1
  have H2 := hide hv2
  clear hv1 hv2
  go_wp2_with fail
  go_end0
  exact ⟨rfl, unhide H1, unhide H2⟩
set_option maxRecDepth 100000 in
set_option maxHeartbeats 1000000 in
theorem cenc2_any (gin : Nat) (w : World) (hW : WrIn gin w []) :
    Calls Tryz.prog 48 #[.pointer (some ⟨gin, 0, none⟩)] w fun e w' => WEnd gin w [numF 2 17] e w' := by
  have C1 := hide (cnumber_any gin [] 2 17 w hW (by decide) (by decide))
  rw [List.nil_append, show u64w 17 = 17 from rfl] at C1
  generalize numF 2 17 = F at C1 ⊢
  clear hW
  go_enter Tryz.func48, Tryz.ntmps48
  go_wp2_with fail
  refine (unhide C1).mono ?_
  rintro e v ⟨rfl, hv1, hv2⟩
  have H1 := hide hv1
  have H2 := hide hv2
  clear hv1 hv2
  go_wp2_with fail
  go_end0
  exact ⟨rfl, unhide H1, unhide H2⟩
end Go.Proofs.YtkjlhmojdffooaaGreat

/-
  Layer 7: the code's Encode.
-/
namespace Go.Proofs.YtkjlhmojdffooaaGreat
open Go.RowKit
set_option linter.unusedVariables false

theorem ownsRow_base {b c k n : Nat} {e : TypeId} {w : World} {v : Value} {xs : List Value} (h : w.ownsRow b e k v n xs) (hc : c ≤ b) : w.ownsRow c e k v n xs := by
  obtain ⟨l1, h1⟩ := h
  refine ⟨l1, ?_⟩
  rcases h1 with g | ⟨g, cap, cur, hv, hg, rest⟩
  · exact .inl g
  · exact .inr ⟨g, cap, cur, hv, Nat.le_trans hc hg, rest⟩
theorem countF_le : ∀ (l : List Int) (n : Int), 0 ≤ n → n ≤ 4096 → (∀ x ∈ l, 0 ≤ x) → 0 ≤ (countF n l).1 ∧ (countF n l).1 ≤ 4096
  | [], n, h0, h1, _ => ⟨h0, h1⟩
  | x :: r, n, h0, h1, hp => by
    rw [countF]
    split
    · exact ⟨by decide, by decide⟩
    · split
      · exact ⟨by decide, by decide⟩
      · exact countF_le r _ (Int.mul_nonneg h0 (hp x (by simp))) (by omega) (fun y hy => hp y (by simp [hy]))
theorem count_le (d : List Int) : 0 ≤ (countV d).1 ∧ (countV d).1 ≤ 4096 := by
  unfold countV
  split
  · exact ⟨by decide, by decide⟩
  · rename_i h
    split
    · exact ⟨by decide, by decide⟩
    · split
      · exact ⟨by decide, by decide⟩
      · exact countF_le d 1 (by decide) (by decide) (fun x hx => by
          have h1 : (d.any fun x => decide (x < 0)) = false := by simpa using h
          rw [List.any_eq_false] at h1
          have := h1 x hx
          simp at this
          exact this)
theorem count_dims {d : List Int} (h : (countV d).2 = 0) : d.length ≤ 8 := by
  unfold countV at h
  split at h
  · cases h
  · split at h
    · cases h
    · omega
theorem mayT_small {t : TenD} (h : mayT t = true) (hd : muchD t.2.1 = false) : TenWr t := by
  unfold mayT at h
  unfold muchD at hd
  simp only [Bool.and_eq_true, Bool.or_eq_true, bne_iff_ne, beq_iff_eq] at h
  have hd2 : (countV t.2.1).2 ≠ 8 := by simpa using hd
  obtain ⟨_, h1, h2⟩ := h
  have h0 : (countV t.2.1).2 = 0 := by
    rcases count_cases t.2.1 with g | g | g
    · exact g
    · exact absurd g h1
    · exact absurd g hd2
  have hl := count_dims h0
  obtain ⟨c0, c1⟩ := count_le t.2.1
  rcases h2 with g | ⟨_, g⟩
  · exact absurd h0 g
  · unfold elemsN at g
    exact ⟨by omega, by omega, by omega, by omega⟩
theorem muchN_le {s : Str} (h : muchN s = false) : s.length ≤ 256 := by
  unfold muchN at h
  have := of_decide_eq_false h
  omega
theorem mayA_small {a : AtA} (h : mayA a.d = true) (hm : muchA a.d = false) : AtSm a ∧ kindB a.kd = true := by
  obtain ⟨nm, kd, f, i, s, T, A, fl, qf, cf, is, qi, ci⟩ := a
  unfold muchA AtA.d at hm
  unfold mayA zeroR AtA.d at h
  simp only [Bool.or_eq_false_iff] at hm
  obtain ⟨m1, m2, m3, m4, m5⟩ := hm
  have l1 := muchN_le m1
  have l2 := of_decide_eq_false m2
  have l4 := of_decide_eq_false m4
  have l5 := of_decide_eq_false m5
  simp only [Bool.and_eq_true] at h
  obtain ⟨h1, _, _, _, h5, _, _⟩ := h
  have ht : TenWr T := by
    by_cases h4 : kd = 4
    · rw [if_pos h4] at h1
      exact mayT_small h1 m3
    · have : emptyT T = true := by simpa [h4] using h5
      unfold emptyT at this
      simp only [Bool.and_eq_true, beq_iff_eq] at this
      exact ⟨by omega, by omega, by omega, by omega⟩
  refine ⟨⟨by simp only; omega, by simp only; omega, by simp only; omega, by simp only; omega, ht.1, ht.2.1, ht.2.2.1, ht.2.2.2⟩, ?_⟩
  simp only
  by_cases h4 : kd = 4
  · subst h4; rfl
  · rw [if_neg h4] at h1; exact h1
theorem any_no {α : Type} {P : α → Bool} {l : List α} (h : l.any P = false) : ∀ x ∈ l, P x = false := fun x hx => by
  rw [List.any_eq_false] at h
  simpa using h x hx
theorem mayNo_small {a : NoA} (h : mayNo a.d = true) (hm : muchNo a.d = false) : NoSm a := by
  unfold mayNo NoA.d at h
  unfold muchNo NoA.d at hm
  simp only [Bool.and_eq_true, List.all_eq_true, List.mem_map, forall_exists_index, and_imp, forall_apply_eq_imp_iff₂, Bool.not_eq_true', decide_eq_false_iff_not] at h
  simp only [Bool.or_eq_false_iff] at hm
  obtain ⟨m1, m2, _, m4, _, m6, _, m8⟩ := hm
  refine ⟨h.1, by have := muchN_le m1; omega, by have := muchN_le m2; omega, fun s hs => by have := muchN_le (any_no m4 s hs); omega, fun s hs => by have := muchN_le (any_no m6 s hs); omega, fun x hx => mayA_small (h.2 x hx) (any_no m8 _ (List.mem_map.2 ⟨x, hx, rfl⟩))⟩
theorem check_small {a : MoA} (h : checkM a.d = 0) : MoSm a := by
  rw [← check_code] at h
  have h1 : mayM a.d = true := by
    cases hm : mayM a.d
    · rw [hm] at h; cases h
    · rfl
  rw [h1] at h
  have h2 : muchM a.d = false := by
    cases hm : muchM a.d
    · rfl
    · rw [hm] at h; cases h
  unfold mayM MoA.d at h1
  unfold muchM MoA.d at h2
  simp only [Bool.and_eq_true, List.all_eq_true, List.mem_map, forall_exists_index, and_imp, forall_apply_eq_imp_iff₂] at h1
  simp only [Bool.or_eq_false_iff] at h2
  obtain ⟨_, a1, a2, a3, a4⟩ := h1
  obtain ⟨b0, _, b1, _, b2, _, b3, _, b4⟩ := h2
  have key : ∀ (x : VaA), muchV x.d = false → x.nm.length ≤ 100000 := fun x hx => by
    unfold muchV VaA.d at hx
    simp only [Bool.or_eq_false_iff] at hx
    have := muchN_le hx.1; omega
  refine ⟨by have := muchN_le b0; omega, fun x hx => mayNo_small (a1 x hx) (any_no b1 _ (List.mem_map.2 ⟨x, hx, rfl⟩)), fun x hx => ?_, fun x hx => key x (any_no b3 _ (List.mem_map.2 ⟨x, hx, rfl⟩)), fun x hx => key x (any_no b4 _ (List.mem_map.2 ⟨x, hx, rfl⟩))⟩
  have hm := any_no b2 _ (List.mem_map.2 ⟨x, hx, rfl⟩)
  unfold muchI InA.d at hm
  simp only [Bool.or_eq_false_iff] at hm
  exact ⟨by have := muchN_le hm.1; omega, mayT_small (a2 x hx) hm.2⟩
set_option maxRecDepth 100000 in
set_option maxHeartbeats 4000000 in
theorem cencode_any (a : MoA) {B : Nat} (w : World) (h : MoIn B w a) (hs : MoLt a) (hB : B ≤ w.heap.size) :
    Calls Tryz.prog 18 #[moV a] w fun e w' => ∃ v, e = .returned (.tuple #[v, .int .i64 (encodeV a.d).2]) ∧ OwnG 5 (Value.int .u8) w w' v (encodeV a.d).1 := by
  have C1 := hide (fun v (hv : Below w.heap.size w v) => ccheck_any a v (h.below hv) hs)
  have HR : Hid (encodeV a.d = if checkM a.d = 0 then (if 4194304 < (msgB (modelF a.d)).length then ([], 8) else (msgB (modelF a.d), 0)) else ([], checkM a.d)) := hide rfl
  have HSm := hide (check_small (a := a))
  have C2 := hide (fun g v (hv : WrIn g v []) => cnumber_any g [] 1 8 v hv (by decide) (by decide))
  have C3 := hide (fun g v fs gm (hw : WrIn g v fs) (hb : Box v gm (moCells a) 29) (hi : MoIn B v a) (hg : B ≤ g) (hm : MoSm a) => cinner_any g fs (graphF a.d) 7 46 (ent_of Tryz.func46 (by kernel_rfl) rfl) #[.pointer (some ⟨gm, 0, none⟩)] v hw (fun u gi hu hgi hwi => cenc1_any gi gm a u hwi (hb.below hu) (hi.below hu) (by have := hw.lt; omega) hm) (by decide) (by decide))
  have C4 := hide (fun g v fs (hw : WrIn g v fs) => cinner_any g fs [numF 2 17] 8 48 (ent_of Tryz.func48 (by kernel_rfl) rfl) #[] v hw (fun u gi hu hgi hwi => cenc2_any gi u hwi) (by decide) (by decide))
  have HI := hide (fun v (hv : Below w.heap.size w v) => h.below hv)
  have HV : Hid (modelF a.d = [numF 1 8] ++ [blkF 7 (msgB (graphF a.d))] ++ [blkF 8 (msgB [numF 2 17])]) := hide rfl
  obtain ⟨E, hE⟩ : ∃ E, encodeV a.d = E := ⟨_, rfl⟩
  rw [hE] at HR ⊢
  clear h hs hE
  generalize modelF a.d = MF at HR HV
  generalize graphF a.d = GF at C3 HV
  generalize checkM a.d = CK at C1 HR HSm
  obtain ⟨E1, E2⟩ := E
  obtain ⟨ops, nm, nodes, qn, cn, inits, qi, ci, inp, qp, cp, out, qo, co⟩ := a
  unfold moV moCells strV at C1 ⊢
  unfold moCells strV at C3
  simp only at C1 C3 ⊢
  rw [show u64w 8 = 8 from rfl, List.nil_append] at C2
  go_enter Tryz.func18, Tryz.ntmps18
  go_wp2_with fail
  obtain ⟨W, hWe⟩ : ∃ W, (w.alloc (Obj.cells #[.int .i64 ops, .string (strOfNums nm), .slice qn nodes.length cn, .slice qi inits.length ci, .slice qp inp.length cp, .slice qo out.length co] 29)) = W := ⟨_, rfl⟩
  have BX : Hid (Box W w.heap.size #[.int .i64 ops, .string (strOfNums nm), .slice qn nodes.length cn, .slice qi inits.length ci, .slice qp inp.length cp, .slice qo out.length co] 29) := hide (by rw [← hWe]; exact Box.new w _ _)
  have BW : Hid (Below w.heap.size w W) := hide (by rw [← hWe]; exact al1p _ _)
  rw [hWe]
  clear hWe
  refine (unhide C1 _ (unhide BW)).mono ?_
  rintro e w1 ⟨rfl, hv⟩
  have B1 := hide (bl_tr (unhide BW) hv)
  have BX1 := hide ((unhide BX).below hv)
  clear hv C1
  by_cases hck : CK = 0
  rotate_left
  · have tck : (CK != 0) = true := by simp [hck]
    have HE : (E1, E2) = ([], CK) := by have := unhide HR; rw [if_neg hck] at this; exact this
    simp only [Prod.mk.injEq] at HE
    obtain ⟨rfl, rfl⟩ := HE
    clear HR
    go_wp2_with fail
    go_ret2
    exact ⟨_, rfl, OwnG.nil _ _ _ (unhide B1)⟩
  · subst hck
    have HM := hide (unhide HSm rfl)
    have HR2 : Hid ((E1, E2) = if 4194304 < (msgB MF).length then ([], 8) else (msgB MF, 0)) := hide (by have := unhide HR; rw [if_pos rfl] at this; exact this)
    clear HR HSm
    go_wp2_with fail
    refine (unhide C2 w1.heap.size _ (WrIn.new w1)).mono ?_
    rintro e w2 ⟨rfl, hv1, hv2⟩
    have s1 := (unhide B1).size
    have V2 := hide hv1
    have B2 : Hid (Below w1.heap.size w1 w2) := hide (bl_tr7 (al1p w1 _) hv2.1)
    clear hv1 hv2 C2
    go_wp2_with fail
    refine (unhide C3 w1.heap.size w2 _ w.heap.size (unhide V2) ((unhide BX1).below (unhide B2)) (unhide HI _ (bl_tr (unhide B1) (unhide B2))) (by omega) (unhide HM)).mono ?_
    rintro e w3 ⟨rfl, hv1, hv2⟩
    have V3 := hide hv1
    have B3 : Hid (Below w1.heap.size w1 w3) := hide (bl_tr7 (unhide B2) hv2.1)
    clear hv1 hv2 C3
    go_wp2_with fail
    refine (unhide C4 w1.heap.size w3 _ (unhide V3)).mono ?_
    rintro e w4 ⟨rfl, hv1, hv2⟩
    rw [← unhide HV] at hv1
    have B4 : Hid (Below w1.heap.size w1 w4) := hide (bl_tr7 (unhide B3) hv2.1)
    obtain ⟨vw, bs, full, x1, x2, x3, x4, x5⟩ := hv1
    obtain ⟨pv, cv, rfl⟩ := own_slice x2
    have y1 := x1.cell
    have HO : Hid (OwnG 5 (Value.int .u8) w w4 (.slice pv bs.length cv) bs) := hide ⟨ownsRow_base x2 (by omega), bl_tr (unhide B1) (unhide B4)⟩
    clear hv2 C4 x1 x2 x5
    cases full
    · obtain ⟨g1, g2⟩ := x3.has
      have HE : (E1, E2) = (msgB MF, 0) := by have := unhide HR2; rw [if_neg (by omega)] at this; exact this
      simp only [Prod.mk.injEq] at HE
      obtain ⟨rfl, rfl⟩ := HE
      have G1 := hide g1
      clear HR2 x3 g1 g2
      go_wp2_with fail
      go_ret2
      exact ⟨_, rfl, by rw [← unhide G1]; exact unhide HO⟩
    · have g1 := x3.isFull
      have HE : (E1, E2) = ([], 8) := by have := unhide HR2; rw [if_pos g1] at this; exact this
      simp only [Prod.mk.injEq] at HE
      obtain ⟨rfl, rfl⟩ := HE
      have BB := hide (unhide HO).2
      clear HR2 x3 g1
      go_wp2_with fail
      go_ret2
      exact ⟨_, rfl, OwnG.nil _ _ _ (unhide BB)⟩
end Go.Proofs.YtkjlhmojdffooaaGreat
