import Derived.Test.YtaikppgoahdjbabGreatV12
import Derived.Test.YtaikppgoahdjbabGreatV21
import Derived.Test.YtaikppgoahdjbabGreatV23
import Derived.Test.YtaikppgoahdjbabGreatV25
set_option maxRecDepth 100000
set_option maxHeartbeats 8000000
namespace Go.Proofs.YtaikppgoahdjbabGreat
open Go.RowKit
set_option linter.unusedVariables false
def NoSm (a:NoA):Prop:=a.op ≠ [] ∧ a.op.length ≤ 100000 ∧ a.nm.length ≤ 100000 ∧ (∀ s ∈ a.ins,s.length ≤ 100000) ∧ (∀ s ∈ a.outs,s.length ≤ 100000) ∧ ∀ x ∈ a.at',AtSm x ∧ kindB x.kd = true
theorem cnode_any (g:Nat) (fs0:List Fld) (a:NoA) {B:Nat} (w:World) (hW:WrIn g w fs0) (h:NoIn B w a) (hB:B ≤ g) (hm:NoSm a) :
  Calls Tryz.prog 37 #[.pointer (some ⟨g,0,none⟩),.agg (noCells a).toArray] w fun e w' => WEnd g w (fs0 ++ nodeF a.d) e w':=by
 have kc:=fun (w:World) (b:ByteArray) => Go.Lib.run_convert_string_bytes (P:=Tryz.prog) w 9 28 5 b Tryz.underlying9 Tryz.underlying28 Tryz.underlying5
 have HI:=hide (fun v (hv:KeptW g w v) => h.kept nodeTS_in (hv.model hB))
 have HW:=hide hW
 have gl:=hW.lt
 have A1:=hide (fun v (hv:KeptW g w v) => (uh HI v hv).2.2.1.2.1)
 have A2:=hide (fun v (hv:KeptW g w v) => (uh HI v hv).2.2.2.1.2.1)
 have S1:Hid (∀ s ∈ a.ins,isB s ∧ s.length ≤ 100000):=hide (fun s hs => ⟨h.2.2.1.1 s hs,hm.2.2.2.1 s hs⟩)
 have S2:Hid (∀ s ∈ a.outs,isB s ∧ s.length ≤ 100000):=hide (fun s hs => ⟨h.2.2.2.1.1 s hs,hm.2.2.2.2.1 s hs⟩)
 have n1:=h.2.2.1.2.1.len
 have n2:=h.2.2.2.1.2.1.len
 have C3:=hide (fun v fs (hv:WrIn g v fs) => cname_any g fs 3 a.nm v hv h.2.1 (by decide) (by decide) (by have:=hm.2.2.1; omega))
 have C4:=hide (fun v fs (hv:WrIn g v fs) => cname_any g fs 4 a.op v hv h.1 (by decide) (by decide) (by have:=hm.2.1; omega))
 rw [show wordF 4 a.op = [blkF 4 a.op] from by unfold wordF; rw [if_neg hm.1]] at C4
 have C5:=hide (fun v fs (hk:KeptW g w v) (hv:WrIn g v fs) => ceachAttr_any g B fs 5 73 (ent_of Tryz.func73 (by kernel_rfl) rfl) (fun x => attrF x.d) a.qa a.ca a.at' v hv (uh HI v hk).2.2.2.2.2.1 (uh HI v hk).2.2.2.2.2.2 hB (by decide) (by decide) (fun u gi hu hgg hwi x hx => by
  have hx2:=cattr_any gi [] x u hwi ((((uh HI v hk).2.2.2.2.1 x hx).kept tenTS_in (hu.model hB))) (B:=B) (Nat.le_trans hB hgg) (hm.2.2.2.2.2 x hx).1 (hm.2.2.2.2.2 x hx).2
  rw [List.nil_append] at hx2
  exact hx2))
 have HV:Hid (fs0 ++ nodeF a.d = fs0 ++ a.ins.map (blkF 1) ++ a.outs.map (blkF 2) ++ wordF 3 a.nm ++ [blkF 4 a.op] ++ a.at'.map fun x => blkF 5 (msgB (attrF x.d))):=hide (by unfold nodeF NoA.d; simp only [List.append_assoc,List.map_map]; rfl)
 rw [uh HV]
 clear HV hW h hm HI
 obtain ⟨op,nm,ins,qi,ci,outs,qo,co,at',qa,ca⟩:=a
 simp only at A1 A2 S1 S2 n1 n2 C3 C4 C5 ⊢
 generalize wordF 3 nm = F3' at C3 ⊢
 generalize blkF 4 op = F4 at C4 ⊢
 obtain ⟨F5,hF5⟩:∃ F,(at'.map fun x => blkF 5 (msgB (attrF x.d))) = F:=⟨_,rfl⟩
 rw [hF5] at C5 ⊢
 unfold strV at C3 C4
 unfold noCells strV
 simp only
 clear hF5
 go_enter Tryz.func37,Tryz.ntmps37
 go_wp2_with fail
 obtain ⟨W,hWe⟩:∃ W,(w.alloc (Obj.cells #[.string (strOfNums op),.string (strOfNums nm),.slice qi ins.length ci,.slice qo outs.length co,.slice qa at'.length ca] 81)) = W:=⟨_,rfl⟩
 have BX:Hid (Box W w.heap.size #[.string (strOfNums op),.string (strOfNums nm),.slice qi ins.length ci,.slice qo outs.length co,.slice qa at'.length ca] 81):=hide (by rw [← hWe]; exact Box.new w _ _)
 have K0:Hid (KeptW g w W):=hide (by rw [← hWe]; exact KeptW.below (al1p _ _) (by omega))
 have V0:Hid (WrIn g W fs0):=hide (by rw [← hWe]; exact (uh HW).below (al1p _ _))
 have X0:Hid (KeptW g W W):=hide (KeptW.refl _ _)
 rw [hWe]
 clear hWe HW
 have x0:=(uh BX).cell
 go_loopw [11] (fun iv wr => ∃ n:Nat,iv = .int .i64 n ∧ n ≤ ins.length ∧ Hid (WrIn g wr (fs0 ++ (ins.take n).map (blkF 1))) ∧ Hid (KeptW g W wr)) (fun iv _ => ins.length - (intOf iv).toNat)
 case atStart => exact ⟨0,rfl,by omega,hide (by rw [List.take_zero,List.map_nil,List.append_nil]; exact uh V0),X0⟩
 case round =>
  obtain ⟨n,rfl,hn,HN,HB⟩:=hrel
  by_cases hlt:n < ins.length
  ·have hi:(n:Int) < (ins.length:Int):=by omega
   have xr:=((uh HB).box (by decide) (by decide) (uh BX)).cell
   obtain ⟨b,o,rfl,hb,hc⟩:=(uh A1 _ ((uh K0).trans (uh HB))).lies (by omega)
   have k1:wr.cell? ⟨b,o + n,none⟩ = some (strV (ins.getD n default)):=hc n hlt
   have hmem:=getD_mem7 (z:=default) hlt
   have CD:=hide (fun v p c hv hb => cdata_any g (fs0 ++ (ins.take n).map (blkF 1)) 1 p c (ins.getD n default) v hv (Ls.ints hb (isB_wf ((uh S1 _ hmem).1))) (by decide) (by decide) (by have:=(uh S1 _ hmem).2; omega))
   have hBb:=hide (fun v => below_bytes v 5 (strOfNums (ins.getD n default)))
   have HL:=hide (fun v => ls_bytes (w:=v) (e:=5) ((uh S1 _ hmem).1) (by have:=(uh S1 _ hmem).2; omega))
   have hlen:=str_len (ins.getD n default)
   have HT:=hide (map_take7 (blkF 1) default ins n hlt)
   generalize ins.getD n default = s at k1 CD hBb HL hlen HT
   unfold strV at k1
   clear hc hmem
   have V2:=hide ((uh HN).below (uh hBb wr))
   have X2:=hide ((uh HB).trans (KeptW.below (uh hBb wr) (Nat.le_of_lt (uh HN).lt)))
   go_wp2_with fail
   refine (uh CD _ _ _ (uh V2) (uh HL wr)).mono ?_
   rintro e w3 ⟨rfl,hv1,hv2⟩
   rw [List.append_assoc,← uh HT] at hv1
   have H1:=hide hv1
   have H2:=hide ((uh X2).trans hv2)
   clear hv1 hv2 CD
   go_wp2_with fail
   go_roundw
   case rel => exact ⟨n + 1,by go_num,by omega,H1,H2⟩
   case measure => simp [intOf]; omega
  ·have hi:¬ (n:Int) < (ins.length:Int):=by omega
   rw [List.take_of_length_le (by omega)] at HN
   have xr:=((uh HB).box (by decide) (by decide) (uh BX)).cell
   have V1:=HN
   have X1:=HB
   clear HN HB
   go_wp2_with fail
   go_loopw [23] (fun iv wr => ∃ n:Nat,iv = .int .i64 n ∧ n ≤ outs.length ∧ Hid (WrIn g wr (fs0 ++ ins.map (blkF 1) ++ (outs.take n).map (blkF 2))) ∧ Hid (KeptW g W wr)) (fun iv _ => outs.length - (intOf iv).toNat)
   case atStart => exact ⟨0,rfl,by omega,hide (by rw [List.take_zero,List.map_nil,List.append_nil]; exact uh V1),X1⟩
   case round =>
    obtain ⟨n,rfl,hn,HN,HB⟩:=hrel
    by_cases hlt:n < outs.length
    ·have hi:(n:Int) < (outs.length:Int):=by omega
     have xr:=((uh HB).box (by decide) (by decide) (uh BX)).cell
     obtain ⟨b,o,rfl,hb,hc⟩:=(uh A2 _ ((uh K0).trans (uh HB))).lies (by omega)
     have k1:wr.cell? ⟨b,o + n,none⟩ = some (strV (outs.getD n default)):=hc n hlt
     have hmem:=getD_mem7 (z:=default) hlt
     have CD:=hide (fun v p c hv hb => cdata_any g (fs0 ++ ins.map (blkF 1) ++ (outs.take n).map (blkF 2)) 2 p c (outs.getD n default) v hv (Ls.ints hb (isB_wf ((uh S2 _ hmem).1))) (by decide) (by decide) (by have:=(uh S2 _ hmem).2; omega))
     have hBb:=hide (fun v => below_bytes v 5 (strOfNums (outs.getD n default)))
     have HL:=hide (fun v => ls_bytes (w:=v) (e:=5) ((uh S2 _ hmem).1) (by have:=(uh S2 _ hmem).2; omega))
     have hlen:=str_len (outs.getD n default)
     have HT:=hide (map_take7 (blkF 2) default outs n hlt)
     generalize outs.getD n default = s at k1 CD hBb HL hlen HT
     unfold strV at k1
     clear hc hmem
     have V2:=hide ((uh HN).below (uh hBb wr))
     have X2:=hide ((uh HB).trans (KeptW.below (uh hBb wr) (Nat.le_of_lt (uh HN).lt)))
     go_wp2_with fail
     refine (uh CD _ _ _ (uh V2) (uh HL wr)).mono ?_
     rintro e w3 ⟨rfl,hv1,hv2⟩
     rw [List.append_assoc,← uh HT] at hv1
     have H1:=hide hv1
     have H2:=hide ((uh X2).trans hv2)
     clear hv1 hv2 CD
     go_wp2_with fail
     go_roundw
     case rel => exact ⟨n + 1,by go_num,by omega,H1,H2⟩
     case measure => simp [intOf]; omega
    ·have hi:¬ (n:Int) < (outs.length:Int):=by omega
     rw [List.take_of_length_le (by omega)] at HN
     have xr:=((uh HB).box (by decide) (by decide) (uh BX)).cell
     have V2:=HN
     have X2:=HB
     have K2:=hide ((uh K0).trans (uh X2))
     clear HN HB
     go_wp2_with fail
     refine (uh C3 _ _ (uh V2)).mono ?_
     rintro e w3 ⟨rfl,hv1,hv2⟩
     have V3:=hide hv1
     have X3:=hide ((uh X2).trans hv2)
     have K3:=hide ((uh K0).trans (uh X3))
     have x3:=((uh X3).box (by decide) (by decide) (uh BX)).cell
     clear hv1 hv2
     go_wp2_with fail
     refine (uh C4 _ _ (uh V3)).mono ?_
     rintro e w4 ⟨rfl,hv1,hv2⟩
     have V4:=hide hv1
     have X4:=hide ((uh X3).trans hv2)
     have K4:=hide ((uh K0).trans (uh X4))
     have x4:=((uh X4).box (by decide) (by decide) (uh BX)).cell
     clear hv1 hv2
     go_wp2_with fail
     refine (uh C5 _ _ (uh K4) (uh V4)).mono ?_
     rintro e w5 ⟨rfl,hv1,hv2⟩
     have V5:=hide hv1
     have X5:=hide ((uh X4).trans hv2)
     have K5:=hide ((uh K0).trans (uh X5))
     have x5:=((uh X5).box (by decide) (by decide) (uh BX)).cell
     clear hv1 hv2
     go_wp2_with fail
     go_end0
     exact ⟨rfl,uh V5,uh K5⟩
def MoSm (a:MoA):Prop:=a.nm.length ≤ 100000 ∧ (∀ x ∈ a.nodes,NoSm x) ∧ (∀ x ∈ a.inits,x.nm.length ≤ 100000 ∧ TenWr x.T) ∧ (∀ x ∈ a.inp,x.nm.length ≤ 100000) ∧ ∀ x ∈ a.out,x.nm.length ≤ 100000
theorem cgraph_any (g:Nat) (fs0:List Fld) (a:MoA) {B:Nat} (w:World) (hW:WrIn g w fs0) (h:MoIn B w a) (hB:B ≤ g) (hm:MoSm a) :
  Calls Tryz.prog 20 #[.pointer (some ⟨g,0,none⟩),moV a] w fun e w' => WEnd g w (fs0 ++ graphF a.d) e w':=by
 have HI:=hide (fun v (hv:KeptW g w v) => h.kept (hv.model hB))
 have HW:=hide hW
 have gl:=hW.lt
 have C1:=hide (fun v fs (hk:KeptW g w v) (hv:WrIn g v fs) => ceachNode_any g B fs 1 37 (ent_of Tryz.func37 (by kernel_rfl) rfl) (fun x => nodeF x.d) a.qn a.cn a.nodes v hv (uh HI v hk).2.2.1.2.1 (uh HI v hk).2.2.1.2.2 hB (by decide) (by decide) (fun u gi hu hgg hwi x hx => by
  have hx2:=cnode_any gi [] x u hwi ((((uh HI v hk).2.2.1.1 x hx).kept nodeTS_in (hu.model hB))) (B:=B) (Nat.le_trans hB hgg) (hm.2.1 x hx)
  rw [List.nil_append] at hx2
  exact hx2))
 have C2:=hide (fun v fs (hv:WrIn g v fs) => cname_any g fs 2 a.nm v hv h.2.1 (by decide) (by decide) (by have:=hm.1; omega))
 have C3:=hide (fun v fs (hk:KeptW g w v) (hv:WrIn g v fs) => ceachInit_any g B fs 5 40 (ent_of Tryz.func40 (by kernel_rfl) rfl) (fun x => tensF x.nm x.T) a.qi a.ci a.inits v hv (uh HI v hk).2.2.2.1.2.1 (uh HI v hk).2.2.2.1.2.2 hB (by decide) (by decide) (fun u gi hu hgg hwi x hx => by
  have hx2:=cinit_any gi [] x u hwi ((((uh HI v hk).2.2.2.1.1 x hx).kept tenTS_in (hu.model hB))) (B:=B) (Nat.le_trans hB hgg) (hm.2.2.1 x hx).1 (hm.2.2.1 x hx).2
  rw [List.nil_append] at hx2
  exact hx2))
 have C4:=hide (fun v fs (hk:KeptW g w v) (hv:WrIn g v fs) => ceachValue_any g B fs 11 42 (ent_of Tryz.func42 (by kernel_rfl) rfl) (fun x => valF x.d) a.qp a.cp a.inp v hv (uh HI v hk).2.2.2.2.1.2.1 (uh HI v hk).2.2.2.2.1.2.2 hB (by decide) (by decide) (fun u gi hu hgg hwi x hx => by
  have hx2:=cvalue_any gi [] x u hwi ((((uh HI v hk).2.2.2.2.1.1 x hx).kept (by decide) (hu.model hB))) (B:=B) (Nat.le_trans hB hgg) (hm.2.2.2.1 x hx)
  rw [List.nil_append] at hx2
  exact hx2))
 have C5:=hide (fun v fs (hk:KeptW g w v) (hv:WrIn g v fs) => ceachValue_any g B fs 12 42 (ent_of Tryz.func42 (by kernel_rfl) rfl) (fun x => valF x.d) a.qo a.co a.out v hv (uh HI v hk).2.2.2.2.2.2.1 (uh HI v hk).2.2.2.2.2.2.2 hB (by decide) (by decide) (fun u gi hu hgg hwi x hx => by
  have hx2:=cvalue_any gi [] x u hwi ((((uh HI v hk).2.2.2.2.2.1 x hx).kept (by decide) (hu.model hB))) (B:=B) (Nat.le_trans hB hgg) (hm.2.2.2.2 x hx)
  rw [List.nil_append] at hx2
  exact hx2))
 have HV:Hid (fs0 ++ graphF a.d = fs0 ++ (a.nodes.map fun x => blkF 1 (msgB (nodeF x.d))) ++ wordF 2 a.nm ++ (a.inits.map fun x => blkF 5 (msgB (tensF x.nm x.T))) ++ (a.inp.map fun x => blkF 11 (msgB (valF x.d))) ++ a.out.map fun x => blkF 12 (msgB (valF x.d))):=hide (by unfold graphF MoA.d; simp only [List.append_assoc,List.map_map]; rfl)
 rw [uh HV]
 clear HV hW h hm HI
 obtain ⟨ops,nm,nodes,qn,cn,inits,qi,ci,inp,qp,cp,out,qo,co⟩:=a
 simp only at C1 C2 C3 C4 C5 ⊢
 obtain ⟨F1,hF1⟩:∃ F,(nodes.map fun x => blkF 1 (msgB (nodeF x.d))) = F:=⟨_,rfl⟩
 rw [hF1] at C1 ⊢
 obtain ⟨F3',hF3⟩:∃ F,(inits.map fun x => blkF 5 (msgB (tensF x.nm x.T))) = F:=⟨_,rfl⟩
 rw [hF3] at C3 ⊢
 obtain ⟨F4,hF4⟩:∃ F,(inp.map fun x => blkF 11 (msgB (valF x.d))) = F:=⟨_,rfl⟩
 rw [hF4] at C4 ⊢
 obtain ⟨F5,hF5⟩:∃ F,(out.map fun x => blkF 12 (msgB (valF x.d))) = F:=⟨_,rfl⟩
 rw [hF5] at C5 ⊢
 generalize wordF 2 nm = F2 at C2 ⊢
 clear hF1 hF3 hF4 hF5
 unfold strV at C2
 unfold moV moCells strV
 simp only
 go_enter Tryz.func20,Tryz.ntmps20
 go_wp2_with fail
 obtain ⟨W,hWe⟩:∃ W,(w.alloc (Obj.cells #[.int .i64 ops,.string (strOfNums nm),.slice qn nodes.length cn,.slice qi inits.length ci,.slice qp inp.length cp,.slice qo out.length co] 26)) = W:=⟨_,rfl⟩
 have BX:Hid (Box W w.heap.size #[.int .i64 ops,.string (strOfNums nm),.slice qn nodes.length cn,.slice qi inits.length ci,.slice qp inp.length cp,.slice qo out.length co] 26):=hide (by rw [← hWe]; exact Box.new w _ _)
 have K0:Hid (KeptW g w W):=hide (by rw [← hWe]; exact KeptW.below (al1p _ _) (by omega))
 have V0:Hid (WrIn g W fs0):=hide (by rw [← hWe]; exact (uh HW).below (al1p _ _))
 have X0:Hid (KeptW g W W):=hide (KeptW.refl _ _)
 rw [hWe]
 clear hWe HW
 refine (uh C1 _ _ (uh K0) (uh V0)).mono ?_
 rintro e w1 ⟨rfl,hv1,hv2⟩
 have V1:=hide hv1
 have X1:=hide ((uh X0).trans hv2)
 have K1:=hide ((uh K0).trans (uh X1))
 have x1:=((uh X1).box (by decide) (by decide) (uh BX)).cell
 clear hv1 hv2
 go_wp2_with fail
 refine (uh C2 _ _ (uh V1)).mono ?_
 rintro e w2 ⟨rfl,hv1,hv2⟩
 have V2:=hide hv1
 have X2:=hide ((uh X1).trans hv2)
 have K2:=hide ((uh K0).trans (uh X2))
 have x2:=((uh X2).box (by decide) (by decide) (uh BX)).cell
 clear hv1 hv2
 go_wp2_with fail
 refine (uh C3 _ _ (uh K2) (uh V2)).mono ?_
 rintro e w3 ⟨rfl,hv1,hv2⟩
 have V3:=hide hv1
 have X3:=hide ((uh X2).trans hv2)
 have K3:=hide ((uh K0).trans (uh X3))
 have x3:=((uh X3).box (by decide) (by decide) (uh BX)).cell
 clear hv1 hv2
 go_wp2_with fail
 refine (uh C4 _ _ (uh K3) (uh V3)).mono ?_
 rintro e w4 ⟨rfl,hv1,hv2⟩
 have V4:=hide hv1
 have X4:=hide ((uh X3).trans hv2)
 have K4:=hide ((uh K0).trans (uh X4))
 have x4:=((uh X4).box (by decide) (by decide) (uh BX)).cell
 clear hv1 hv2
 go_wp2_with fail
 refine (uh C5 _ _ (uh K4) (uh V4)).mono ?_
 rintro e w5 ⟨rfl,hv1,hv2⟩
 have V5:=hide hv1
 have X5:=hide ((uh X4).trans hv2)
 have K5:=hide ((uh K0).trans (uh X5))
 have x5:=((uh X5).box (by decide) (by decide) (uh BX)).cell
 clear hv1 hv2
 go_wp2_with fail
 go_end0
 exact ⟨rfl,uh V5,uh K5⟩
theorem cenc1_any (gin gm:Nat) (a:MoA) {B:Nat} (w:World) (hW:WrIn gin w []) (hb:Box w gm (moCells a) 26) (h:MoIn B w a) (hB:B ≤ gin) (hm:MoSm a) :
  Calls Tryz.prog 19 #[.pointer (some ⟨gin,0,none⟩),.pointer (some ⟨gm,0,none⟩)] w fun e w' => WEnd gin w (graphF a.d) e w':=by
 have C1:=hide (cgraph_any gin [] a w hW h hB hm)
 rw [List.nil_append] at C1
 generalize graphF a.d = F at C1 ⊢
 have x0:=hb.cell
 clear hW hb h hm
 unfold moV moCells strV at C1
 unfold moCells strV at x0
 go_enter Tryz.func19,Tryz.ntmps19
 go_wp2_with fail
 refine (uh C1).mono ?_
 rintro e v ⟨rfl,hv1,hv2⟩
 have H1:=hide hv1
 have H2:=hide hv2
 clear hv1 hv2
 go_wp2_with fail
 go_end0
 exact ⟨rfl,uh H1,uh H2⟩
theorem cenc2_any (gin:Nat) (w:World) (hW:WrIn gin w []) :
  Calls Tryz.prog 21 #[.pointer (some ⟨gin,0,none⟩)] w fun e w' => WEnd gin w [numF 2 17] e w':=by
 have C1:=hide (cnumber_any gin [] 2 17 w hW (by decide) (by decide))
 rw [List.nil_append,show u64w 17 = 17 from rfl] at C1
 generalize numF 2 17 = F at C1 ⊢
 clear hW
 go_enter Tryz.func21,Tryz.ntmps21
 go_wp2_with fail
 refine (uh C1).mono ?_
 rintro e v ⟨rfl,hv1,hv2⟩
 have H1:=hide hv1
 have H2:=hide hv2
 clear hv1 hv2
 go_wp2_with fail
 go_end0
 exact ⟨rfl,uh H1,uh H2⟩
theorem ownsRow_base {b c k n:Nat} {e:TypeId} {w:World} {v:Value} {xs:List Value} (h:w.ownsRow b e k v n xs) (hc:c ≤ b):w.ownsRow c e k v n xs:=by
 obtain ⟨l1,h1⟩:=h
 refine ⟨l1,?_⟩
 rcases h1 with g | ⟨g,cap,cur,hv,hg,rest⟩
 ·exact .inl g
 ·exact .inr ⟨g,cap,cur,hv,Nat.le_trans hc hg,rest⟩
theorem countF_le:∀ (l:List Int) (n:Int),0 ≤ n → n ≤ 4096 → (∀ x ∈ l,0 ≤ x) → 0 ≤ (countF n l).1 ∧ (countF n l).1 ≤ 4096
 | [],n,h0,h1,_ => ⟨h0,h1⟩
 | x :: r,n,h0,h1,hp => by
   rw [countF]
   split
   ·exact ⟨by decide,by decide⟩
   ·split
    ·exact ⟨by decide,by decide⟩
    ·exact countF_le r _ (Int.mul_nonneg h0 (hp x (by simp))) (by omega) (fun y hy => hp y (by simp [hy]))
theorem count_le (d:List Int):0 ≤ (countV d).1 ∧ (countV d).1 ≤ 4096:=by
 unfold countV
 split
 ·exact ⟨by decide,by decide⟩
 ·rename_i h
  split
  ·exact ⟨by decide,by decide⟩
  ·split
   ·exact ⟨by decide,by decide⟩
   ·exact countF_le d 1 (by decide) (by decide) (fun x hx => by
     have h1:(d.any fun x => decide (x < 0)) = false:=by simpa using h
     rw [List.any_eq_false] at h1
     have:=h1 x hx
     simp at this
     exact this)
theorem count_dims {d:List Int} (h:(countV d).2 = 0):d.length ≤ 8:=by
 unfold countV at h
 split at h
 ·cases h
 ·split at h
  ·cases h
  ·omega
theorem mayT_small {t:TenD} (h:mayT t = true) (hd:muchD t.2.1 = false):TenWr t:=by
 unfold mayT at h
 unfold muchD at hd
 simp only [Bool.and_eq_true,Bool.or_eq_true,bne_iff_ne,beq_iff_eq] at h
 have hd2:(countV t.2.1).2 ≠ 8:=by simpa using hd
 obtain ⟨_,h1,h2⟩:=h
 have h0:(countV t.2.1).2 = 0:=by
  rcases count_cases t.2.1 with g | g | g
  ·exact g
  ·exact absurd g h1
  ·exact absurd g hd2
 have hl:=count_dims h0
 obtain ⟨c0,c1⟩:=count_le t.2.1
 rcases h2 with g | ⟨_,g⟩
 ·exact absurd h0 g
 ·unfold elemsN at g
  exact ⟨by omega,by omega,by omega,by omega⟩
theorem muchN_le {s:Str} (h:muchN s = false):s.length ≤ 256:=by
 unfold muchN at h
 have:=of_decide_eq_false h
 omega
theorem mayA_small {a:AtA} (h:mayA a.d = true) (hm:muchA a.d = false):AtSm a ∧ kindB a.kd = true:=by
 obtain ⟨nm,kd,f,i,s,T,A,fl,qf,cf,is,qi,ci⟩:=a
 unfold muchA AtA.d at hm
 unfold mayA zeroR AtA.d at h
 simp only [Bool.or_eq_false_iff] at hm
 obtain ⟨m1,m2,m3,m4,m5⟩:=hm
 have l1:=muchN_le m1
 have l2:=of_decide_eq_false m2
 have l4:=of_decide_eq_false m4
 have l5:=of_decide_eq_false m5
 simp only [Bool.and_eq_true] at h
 obtain ⟨h1,_,_,_,h5,_,_⟩:=h
 have ht:TenWr T:=by
  by_cases h4:kd = 4
  ·rw [if_pos h4] at h1
   exact mayT_small h1 m3
  ·have:emptyT T = true:=by simpa [h4] using h5
   unfold emptyT at this
   simp only [Bool.and_eq_true,beq_iff_eq] at this
   exact ⟨by omega,by omega,by omega,by omega⟩
 refine ⟨⟨by simp only; omega,by simp only; omega,by simp only; omega,by simp only; omega,ht.1,ht.2.1,ht.2.2.1,ht.2.2.2⟩,?_⟩
 simp only
 by_cases h4:kd = 4
 ·subst h4; rfl
 ·rw [if_neg h4] at h1; exact h1
theorem any_no {α:Type} {P:α → Bool} {l:List α} (h:l.any P = false):∀ x ∈ l,P x = false:=fun x hx => by
 rw [List.any_eq_false] at h
 simpa using h x hx
theorem mayNo_small {a:NoA} (h:mayNo a.d = true) (hm:muchNo a.d = false):NoSm a:=by
 unfold mayNo NoA.d at h
 unfold muchNo NoA.d at hm
 simp only [Bool.and_eq_true,List.all_eq_true,List.mem_map,forall_exists_index,and_imp,forall_apply_eq_imp_iff₂,Bool.not_eq_true',decide_eq_false_iff_not] at h
 simp only [Bool.or_eq_false_iff] at hm
 obtain ⟨m1,m2,_,m4,_,m6,_,m8⟩:=hm
 refine ⟨h.1,by have:=muchN_le m1; omega,by have:=muchN_le m2; omega,fun s hs => by have:=muchN_le (any_no m4 s hs); omega,fun s hs => by have:=muchN_le (any_no m6 s hs); omega,fun x hx => mayA_small (h.2 x hx) (any_no m8 _ (List.mem_map.2 ⟨x,hx,rfl⟩))⟩
theorem check_small {a:MoA} (h:checkM a.d = 0):MoSm a:=by
 rw [← check_code] at h
 have h1:mayM a.d = true:=by
  cases hm:mayM a.d
  ·rw [hm] at h; cases h
  ·rfl
 rw [h1] at h
 have h2:muchM a.d = false:=by
  cases hm:muchM a.d
  ·rfl
  ·rw [hm] at h; cases h
 unfold mayM MoA.d at h1
 unfold muchM MoA.d at h2
 simp only [Bool.and_eq_true,List.all_eq_true,List.mem_map,forall_exists_index,and_imp,forall_apply_eq_imp_iff₂] at h1
 simp only [Bool.or_eq_false_iff] at h2
 obtain ⟨_,a1,a2,a3,a4⟩:=h1
 obtain ⟨b0,_,b1,_,b2,_,b3,_,b4⟩:=h2
 have key:∀ (x:VaA),muchV x.d = false → x.nm.length ≤ 100000:=fun x hx => by
  unfold muchV VaA.d at hx
  simp only [Bool.or_eq_false_iff] at hx
  have:=muchN_le hx.1; omega
 refine ⟨by have:=muchN_le b0; omega,fun x hx => mayNo_small (a1 x hx) (any_no b1 _ (List.mem_map.2 ⟨x,hx,rfl⟩)),fun x hx => ?_,fun x hx => key x (any_no b3 _ (List.mem_map.2 ⟨x,hx,rfl⟩)),fun x hx => key x (any_no b4 _ (List.mem_map.2 ⟨x,hx,rfl⟩))⟩
 have hm:=any_no b2 _ (List.mem_map.2 ⟨x,hx,rfl⟩)
 unfold muchI InA.d at hm
 simp only [Bool.or_eq_false_iff] at hm
 exact ⟨by have:=muchN_le hm.1; omega,mayT_small (a2 x hx) hm.2⟩
theorem cencode_any (a:MoA) {B:Nat} (w:World) (h:MoIn B w a) (hs:MoLt a) (hB:B ≤ w.heap.size) :
  Calls Tryz.prog 6 #[moV a] w fun e w' => ∃ v,e = .returned (.tuple #[v,.int .i64 (encodeV a.d).2]) ∧ OwnG 5 (Value.int .u8) w w' v (encodeV a.d).1:=by
 have C1:=hide (fun v (hv:Below w.heap.size w v) => ccheck_any a v (h.below hv) hs)
 have HR:Hid (encodeV a.d = if checkM a.d = 0 then (if 4194304 < (msgB (modelF a.d)).length then ([],8) else (msgB (modelF a.d),0)) else ([],checkM a.d)):=hide rfl
 have HSm:=hide (check_small (a:=a))
 have C2:=hide (fun g v (hv:WrIn g v []) => cnumber_any g [] 1 8 v hv (by decide) (by decide))
 have C3:=hide (fun g v fs gm (hw:WrIn g v fs) (hb:Box v gm (moCells a) 26) (hi:MoIn B v a) (hg:B ≤ g) (hm:MoSm a) => cinner_any g fs (graphF a.d) 7 19 (ent_of Tryz.func19 (by kernel_rfl) rfl) #[.pointer (some ⟨gm,0,none⟩)] v hw (fun u gi hu hgi hwi => cenc1_any gi gm a u hwi (hb.below hu) (hi.below hu) (by have:=hw.lt; omega) hm) (by decide) (by decide))
 have C4:=hide (fun g v fs (hw:WrIn g v fs) => cinner_any g fs [numF 2 17] 8 21 (ent_of Tryz.func21 (by kernel_rfl) rfl) #[] v hw (fun u gi hu hgi hwi => cenc2_any gi u hwi) (by decide) (by decide))
 have HI:=hide (fun v (hv:Below w.heap.size w v) => h.below hv)
 have HV:Hid (modelF a.d = [numF 1 8] ++ [blkF 7 (msgB (graphF a.d))] ++ [blkF 8 (msgB [numF 2 17])]):=hide rfl
 obtain ⟨E,hE⟩:∃ E,encodeV a.d = E:=⟨_,rfl⟩
 rw [hE] at HR ⊢
 clear h hs hE
 generalize modelF a.d = MF at HR HV
 generalize graphF a.d = GF at C3 HV
 generalize checkM a.d = CK at C1 HR HSm
 obtain ⟨E1,E2⟩:=E
 obtain ⟨ops,nm,nodes,qn,cn,inits,qi,ci,inp,qp,cp,out,qo,co⟩:=a
 unfold moV moCells strV at C1 ⊢
 unfold moCells strV at C3
 simp only at C1 C3 ⊢
 rw [show u64w 8 = 8 from rfl,List.nil_append] at C2
 go_enter Tryz.func6,Tryz.ntmps6
 go_wp2_with fail
 obtain ⟨W,hWe⟩:∃ W,(w.alloc (Obj.cells #[.int .i64 ops,.string (strOfNums nm),.slice qn nodes.length cn,.slice qi inits.length ci,.slice qp inp.length cp,.slice qo out.length co] 26)) = W:=⟨_,rfl⟩
 have BX:Hid (Box W w.heap.size #[.int .i64 ops,.string (strOfNums nm),.slice qn nodes.length cn,.slice qi inits.length ci,.slice qp inp.length cp,.slice qo out.length co] 26):=hide (by rw [← hWe]; exact Box.new w _ _)
 have BW:Hid (Below w.heap.size w W):=hide (by rw [← hWe]; exact al1p _ _)
 rw [hWe]
 clear hWe
 refine (uh C1 _ (uh BW)).mono ?_
 rintro e w1 ⟨rfl,hv⟩
 have B1:=hide (bl_tr (uh BW) hv)
 have BX1:=hide ((uh BX).below hv)
 clear hv C1
 by_cases hck:CK = 0
 rotate_left
 ·have tck:(CK != 0) = true:=by simp [hck]
  have HE:(E1,E2) = ([],CK):=by have:=uh HR; rw [if_neg hck] at this; exact this
  simp only [Prod.mk.injEq] at HE
  obtain ⟨rfl,rfl⟩:=HE
  clear HR
  go_wp2_with fail
  go_ret2
  exact ⟨_,rfl,OwnG.nil _ _ _ (uh B1)⟩
 ·subst hck
  have HM:=hide (uh HSm rfl)
  have HR2:Hid ((E1,E2) = if 4194304 < (msgB MF).length then ([],8) else (msgB MF,0)):=hide (by have:=uh HR; rw [if_pos rfl] at this; exact this)
  clear HR HSm
  go_wp2_with fail
  refine (uh C2 w1.heap.size _ (WrIn.new w1)).mono ?_
  rintro e w2 ⟨rfl,hv1,hv2⟩
  have s1:=(uh B1).size
  have V2:=hide hv1
  have B2:Hid (Below w1.heap.size w1 w2):=hide (bl_tr7 (al1p w1 _) hv2.1)
  clear hv1 hv2 C2
  go_wp2_with fail
  refine (uh C3 w1.heap.size w2 _ w.heap.size (uh V2) ((uh BX1).below (uh B2)) (uh HI _ (bl_tr (uh B1) (uh B2))) (by omega) (uh HM)).mono ?_
  rintro e w3 ⟨rfl,hv1,hv2⟩
  have V3:=hide hv1
  have B3:Hid (Below w1.heap.size w1 w3):=hide (bl_tr7 (uh B2) hv2.1)
  clear hv1 hv2 C3
  go_wp2_with fail
  refine (uh C4 w1.heap.size w3 _ (uh V3)).mono ?_
  rintro e w4 ⟨rfl,hv1,hv2⟩
  rw [← uh HV] at hv1
  have B4:Hid (Below w1.heap.size w1 w4):=hide (bl_tr7 (uh B3) hv2.1)
  obtain ⟨vw,bs,full,x1,x2,x3,x4,x5⟩:=hv1
  obtain ⟨pv,cv,rfl⟩:=own_slice x2
  have y1:=x1.cell
  have HO:Hid (OwnG 5 (Value.int .u8) w w4 (.slice pv bs.length cv) bs):=hide ⟨ownsRow_base x2 (by omega),bl_tr (uh B1) (uh B4)⟩
  clear hv2 C4 x1 x2 x5
  cases full
  ·obtain ⟨g1,g2⟩:=x3.has
   have HE:(E1,E2) = (msgB MF,0):=by have:=uh HR2; rw [if_neg (by omega)] at this; exact this
   simp only [Prod.mk.injEq] at HE
   obtain ⟨rfl,rfl⟩:=HE
   have G1:=hide g1
   clear HR2 x3 g1 g2
   go_wp2_with fail
   go_ret2
   exact ⟨_,rfl,by rw [← uh G1]; exact uh HO⟩
  ·have g1:=x3.isFull
   have HE:(E1,E2) = ([],8):=by have:=uh HR2; rw [if_pos g1] at this; exact this
   simp only [Prod.mk.injEq] at HE
   obtain ⟨rfl,rfl⟩:=HE
   have BB:=hide (uh HO).2
   clear HR2 x3 g1
   go_wp2_with fail
   go_ret2
   exact ⟨_,rfl,OwnG.nil _ _ _ (uh BB)⟩
def OwnS {α:Type} (t:TypeId) (f:α → Value) (w w':World) (v:Value) (l:List α):Prop:=w'.ownsRow w.heap.size t 1 v l.length (l.map f)
theorem ownsRow_stay {base k n g:Nat} {e:TypeId} {w w':World} {v:Value} {xs:List Value} (h:w.ownsRow base e k v n xs) (hg:g < base) (s:Stay g w w'):w'.ownsRow base e k v n xs:=by
 obtain ⟨l1,h1⟩:=h
 refine ⟨l1,?_⟩
 rcases h1 with ⟨rfl,h0⟩ | ⟨b,cap,cur,rfl,hb1,hh,hc,hm,hs2,ht⟩
 ·exact .inl ⟨rfl,h0⟩
 ·exact .inr ⟨b,cap,cur,rfl,hb1,(s.block (by omega) (lt_of_block hh)).trans hh,hc,hm,hs2,ht⟩
theorem int1_len:∀ f l,int1 f = some l → l.length ≤ f.2.2.2.length + 1:=fun f l h => by
 unfold int1 at h
 split at h
 ·simp at h; subst h; simp
 ·split at h
  ·have:=varsL_len h; omega
  ·cases h
theorem allOr_len7 {g1:Fld → Option (List Int)} (hg:∀ f l,g1 f = some l → l.length ≤ f.2.2.2.length + 1) (num:Int):∀ (L:List FA) (xs:List Int),allOr g1 (allV (L.map FA.f) num) = some xs → xs.length ≤ sumD L + L.length
 | [],xs,h => by simp [allV,allOr] at h; subst h; simp
 | a :: r,xs,h => by
   have e:sumD (a :: r) = a.d.length + sumD r:=by simp [sumD]
   rw [e,List.length_cons]
   unfold allV at h
   rw [List.map_cons,List.filter_cons] at h
   split at h
   ·rw [allOr] at h
    cases hx:g1 a.f with
    | none => rw [hx] at h; cases h
    | some x =>
      rw [hx] at h
      simp only [Option.map_eq_some_iff] at h
      obtain ⟨y,hy,rfl⟩:=h
      have h1:=hg _ _ hx
      have h2:=allOr_len7 hg num r y hy
      have:a.f.2.2.2 = a.d:=rfl
      rw [this] at h1
      rw [List.length_append]
      omega
   ·have:=allOr_len7 hg num r xs h
    omega
theorem list_len7 {g1:Fld → Option (List Int)} (hg:∀ f l,g1 f = some l → l.length ≤ f.2.2.2.length + 1) {L:List FA} {num:Int}:(listV g1 (L.map FA.f) num).1.length ≤ sumD L + L.length:=by
 unfold listV
 cases h:allOr g1 (allV (L.map FA.f) num) with
 | none => simp
 | some x => exact allOr_len7 hg num L x h
theorem cnamed_any (g:Nat) (q:Option Addr) (n d:Nat) (p:Option Addr) (c:Nat) (b:List Int) (w:World) (hw:WstE g w) (hb:Ls (Value.int .u8) w p c b) (ho:Off g p b.length) :
  Calls Tryz.prog 136 #[msV q n d g,.slice p b.length c] w fun e w' => e = .returned (strV b) ∧ RE g (big3 (decide (256 < b.length))) w w':=by
 have C1:=hide (fun v (hv:WstE g v) => climit_any g q n d b.length 256 v hv)
 rw [show decide ((256:Int) < (b.length:Int)) = decide (256 < b.length) from by rw [decide_eq_decide]; omega] at C1
 generalize decide (256 < b.length) = D at C1 ⊢
 have nl:=hb.len
 have HB:=hide hb
 have HO:=hide ho
 have HW:=hide hw
 clear hb ho hw
 unfold msV at C1 ⊢
 unfold strV
 go_enter Tryz.func136,Tryz.ntmps136
 go_wp2_with fail
 refine (uh C1 _ ((uh HW).below (al1p _ _))).mono ?_
 rintro e v ⟨rfl,hv⟩
 have H1:=hide ((RE.below (al1p _ _) (uh HW)).trans hv)
 rw [no_f3] at H1
 have kc:=conv_str (dst:=9) Tryz.underlying28 Tryz.underlying5 Tryz.underlying9 (((uh HB).below (al1p _ _)).stay7 (uh HO) hv.1)
 clear hv
 go_wp2_with fail
 go_ret
 exact ⟨rfl,uh H1⟩
theorem cnam_any (g:Nat) (q:Option Addr) (d:Nat) (L:List FA) (num:Int) (w:World) (hw:WstE g w) (h:MsIn g w q d L) :
  Calls Tryz.prog 91 #[msV q L.length d g,.int .i64 num] w fun e w' => e = .returned (strV (nameP (L.map FA.f) num).1) ∧ RE g (nameP (L.map FA.f) num).2 w w':=by
 have C1:=hide (fun v (hv:Below w.heap.size w v) => clastm_any g q d L num 2 v (hw.below hv) (h.stay (Stay.below hv (Nat.le_of_lt hw.lt))))
 have C2:=hide (fun p c b v (hv:WstE g v) (hb:Ls (Value.int .u8) v p c b) ho => cnamed_any g q L.length d p c b v hv hb ho)
 have HV:Hid (nameP (L.map FA.f) num = ((lastV (L.map FA.f) num 2).1.2.2.2,f3 (bad3 ((lastV (L.map FA.f) num 2).2.2 != 0)) (big3 (decide (256 < (lastV (L.map FA.f) num 2).1.2.2.2.length))))):=hide rfl
 rw [uh HV]
 clear HV
 generalize lastV (L.map FA.f) num 2 = R at C1 ⊢
 obtain ⟨R1,R2,R3⟩:=R
 simp only at C1 ⊢
 generalize (R3 != 0) = D at C1 ⊢
 have HW:=hide hw
 have gl:=hw.lt
 clear hw h
 unfold msV at C1 C2 ⊢
 go_enter Tryz.func91,Tryz.ntmps91
 go_wp2_with fail
 refine (uh C1 _ (al1p _ _)).mono ?_
 rintro e w1 ⟨a,rfl,hq⟩
 obtain ⟨h1,h2,h3,h4⟩:=uh hq
 have r1:=(RE.below (al1p w _) (uh HW)).trans h4
 rw [no_f3] at r1
 have X1:=hide (h4.1.box (Box.new w #[.slice q L.length d,.pointer (some ⟨g,0,none⟩)] 74) (by omega))
 have x1:=fun o => ((uh X1).alloc o).cell
 have R1':=hide r1
 subst h1
 have H2:=hide h2
 have H3:=hide (h3 g (by simp; omega))
 clear hq h4 C1 r1 h2 h3
 obtain ⟨an,awr,ax,ad,aq,ac⟩:=a
 unfold faV
 simp only
 go_wp2_with fail
 refine (uh C2 _ _ ad _ (((uh R1').wst (uh HW)).below (al1p w1 _)) (((uh H2).below (al1p w1 _)).2.2.2.ls) (uh H3)).mono ?_
 rintro e w2 ⟨rfl,hv⟩
 have H5:=hide (((uh R1').trans (RE.below (al1p w1 _) ((uh R1').wst (uh HW)))).trans hv)
 rw [f3_no] at H5
 clear hv
 go_wp2_with fail
 go_ret
 exact ⟨rfl,uh H5⟩
theorem join_flat (num:Int):∀ (L:List FA),((allV (L.map FA.f) num).flatMap fun f => f.2.2.2).length ≤ sumD L
 | [] => by simp [allV,sumD]
 | a :: r => by
   have ih:=join_flat num r
   have e:sumD (a :: r) = a.d.length + sumD r:=by simp [sumD]
   rw [e]
   unfold allV at ih ⊢
   rw [List.map_cons,List.filter_cons]
   split
   ·rw [List.flatMap_cons,List.length_append]
    have:a.f.2.2.2 = a.d:=rfl
    rw [this]; omega
   ·omega
theorem joinV_len {L:List FA} {num:Int}:((joinV (L.map FA.f) num).1).length ≤ sumD L:=by
 unfold joinV
 split
 ·simp
 ·exact join_flat num L
theorem joinV_isB {L:List FA} {num:Int} (h:∀ a ∈ L,isB a.d):isB (joinV (L.map FA.f) num).1:=by
 unfold joinV
 split
 ·exact fun c hc => by cases hc
 ·intro c hc
  obtain ⟨f,hf,hc⟩:=List.mem_flatMap.1 hc
  obtain ⟨a,ha,rfl⟩:=List.mem_map.1 (List.mem_filter.1 hf).1
  exact h a ha c hc
theorem cinnerm_any (g:Nat) (q:Option Addr) (d:Nat) (L:List FA) (num:Int) (w:World) (hw:WstE g w) (h:MsIn g w q d L) :
  Calls Tryz.prog 50 #[msV q L.length d g,.int .i64 num] w fun e w' => ∃ q' d' L',e = .returned (.tuple #[msV q' L'.length d' g,.bool (messageP (L.map FA.f) num).1.2]) ∧ Hid (L'.map FA.f = (fieldsP (messageP (L.map FA.f) num).1.1).1 ∧ MsIn g w' q' d' L' ∧ RE g (f3 (messageP (L.map FA.f) num).2 (fieldsP (messageP (L.map FA.f) num).1.1).2) w w'):=by
 obtain ⟨s1,s2,s3⟩:=h.small
 have C1:=hide (fun v (hv:Below w.heap.size w v) => cjoined_any q d L num v (h.1.below hv) (by omega) (by omega))
 have C3:=hide (fun p c b v (hv:WstE g v) (hb:Ints .u8 v p c b) hl => copened_any g q L.length d p c b v hv hb hl)
 have hjl:=joinV_len (L:=L) (num:=num)
 have HJB:Hid (isB (joinV (L.map FA.f) num).1):=hide (joinV_isB (fun a ha => wf_isB (h.1.2 a ha).2.2.2.2.2.1))
 have HV:Hid (messageP (L.map FA.f) num = (((joinV (L.map FA.f) num).1,(joinV (L.map FA.f) num).2.1),bad3 ((joinV (L.map FA.f) num).2.2 != 0))):=hide rfl
 rw [uh HV]
 clear HV
 generalize joinV (L.map FA.f) num = R at C1 hjl HJB ⊢
 obtain ⟨R1,R2,R3⟩:=R
 simp only at C1 hjl HJB ⊢
 have C2:=hide (fun v (hv:WstE g v) => cnote_bad g q L.length d (R3 != 0) v hv)
 obtain ⟨D,hD⟩:∃ D,(R3 != 0) = D:=⟨_,rfl⟩
 rw [hD] at C2 ⊢
 have HW:=hide hw
 have gl:=hw.lt
 clear hw h s3
 obtain ⟨FF,hFF⟩:∃ F,fieldsP R1 = F:=⟨_,rfl⟩
 have HFF:=hide hFF
 rw [hFF]
 clear hFF
 unfold msV at C2 C3 ⊢
 go_enter Tryz.func50,Tryz.ntmps50
 go_wp2_with fail
 refine (uh C1 _ (al2p _ _ _)).mono ?_
 rintro e w1 ⟨v1,rfl,hO⟩
 obtain ⟨q1,d1,rfl,hl1,hf1⟩:=hO.form
 have L1:=hide (hl1.ints (isB_wf (uh HJB)))
 have O1:Hid (Off g q1 R1.length):=hide (fun b o e hp => by have:=(hf1 b o e hp).1; simp only [alloc_size6] at this; omega)
 have B1:=hide (bl_tr (al2p w _ _) hO.2)
 have X1:=hide (Box.below (Box.alloc (Box.new w #[.slice q L.length d,.pointer (some ⟨g,0,none⟩)] 74) _) hO.2)
 have Y1:=hide (Box.below (Box.new (w.alloc (Obj.cells #[.slice q L.length d,.pointer (some ⟨g,0,none⟩)] 74)) #[.slice none 0 0,.pointer none] 74) hO.2)
 simp only [alloc_size6] at Y1
 have l1:=(uh Y1).lt
 have x1:=(uh X1).cell
 clear hO hl1 hf1 C1
 go_wp2_with fail
 try rw [hD]
 refine (uh C2 _ ((uh HW).below (uh B1))).mono ?_
 rintro e w2 ⟨rfl,hr⟩
 have r2:=(RE.below (uh B1) (uh HW)).trans hr
 rw [no_f3] at r2
 have R2':=hide r2
 have X2:=hide (hr.1.box (uh X1) (by omega))
 have Y2:=hide (hr.1.box (uh Y1) (by omega))
 have L2:=hide ((uh L1).stay7 (uh O1) hr.1)
 have x2:=(uh X2).cell
 clear hr r2
 go_wp2_with fail
 refine (uh C3 _ _ R1 _ ((uh R2').wst (uh HW)) (uh L2) (by omega)).mono ?_
 rintro e w3 ⟨q3,d3,L3,rfl,hq⟩
 obtain ⟨h1,h2,h3,h4⟩:=uh hq
 rw [uh HFF] at h1 h3
 have H1:=hide h1
 have H2:=hide h2
 have R3':=hide ((uh R2').trans h3)
 have Y3:=hide (h3.1.box (uh Y2) (by omega))
 have y3:=(uh Y3).cell
 have z3:=(uh Y3).frozen
 have HMr:Hid (Off (w.heap.size + 1) q3 L3.length ∧ ∀ a ∈ L3,Off (w.heap.size + 1) a.q a.d.length):=hide (h4 _ (uh Y2).lt)
 clear hq h1 h2 h3 h4 C3
 go_wp2_with fail
 have Y4:=hide ((uh Y3).set2 (.slice q3 L3.length d3) (.pointer (some ⟨g,0,none⟩)))
 refine bodyPost_ret ?_ rfl ⟨q3,d3,L3,rfl,hide ⟨uh H1,((MsIn.stay (g:=w.heap.size + 1) ⟨(uh H2).1,(uh HMr).1,(uh HMr).2,(uh H2).2.2.2⟩ ((Stay.set _ _ _ _).trans (Stay.set _ _ _ _))).sw (uh H2)),((uh R3').setNew (by omega) (by omega) _ _).setNew (by omega) (by omega) _ _⟩⟩
 simp [results,Tryz.results50,go_sem,(uh Y4).cell]
theorem cflts_any (g:Nat) (q:Option Addr) (d:Nat) (L:List FA) (num:Int) (w:World) (hw:WstE g w) (h:MsIn g w q d L) :
  Calls Tryz.prog 175 #[msV q L.length d g,.int .i64 num] w fun e w' => ∃ v,e = .returned v ∧ Hid (OwnS 118 (Value.int .u32) w w' v (floatsP (L.map FA.f) num).1 ∧ RE g (floatsP (L.map FA.f) num).2 w w'):=by
 obtain ⟨s1,s2,s3⟩:=h.small
 have C1:=hide (fun v (hv:Below w.heap.size w v) => cfixed6_any q d L num v (h.1.below hv) (by omega) (by omega))
 have HV:Hid (floatsP (L.map FA.f) num = ((listV fix1 (L.map FA.f) num).1,bad3 ((listV fix1 (L.map FA.f) num).2 != 0))):=hide rfl
 rw [uh HV]
 clear HV
 generalize listV fix1 (L.map FA.f) num = R at C1 ⊢
 obtain ⟨R1,R2⟩:=R
 simp only at C1 ⊢
 have C2:=hide (fun v (hv:WstE g v) => cnote_bad g q L.length d (R2 != 0) v hv)
 obtain ⟨D,hD⟩:∃ D,(R2 != 0) = D:=⟨_,rfl⟩
 rw [hD] at C2 ⊢
 have HW:=hide hw
 have gl:=hw.lt
 clear hw h s3
 unfold msV at C2 ⊢
 go_enter Tryz.func175,Tryz.ntmps175
 go_wp2_with fail
 refine (uh C1 _ (al1p _ _)).mono ?_
 rintro e w1 ⟨v1,rfl,hO⟩
 have B1:=hide (bl_tr (al1p w _) hO.2)
 have X1:=hide (Box.below (Box.new w #[.slice q L.length d,.pointer (some ⟨g,0,none⟩)] 74) hO.2)
 have x1:=(uh X1).cell
 have O1:=hide (ownsRow_base hO.1 (show w.heap.size ≤ _ by simp))
 clear hO C1
 go_wp2_with fail
 try rw [hD]
 refine (uh C2 _ ((uh HW).below (uh B1))).mono ?_
 rintro e w2 ⟨rfl,hr⟩
 have r2:=(RE.below (uh B1) (uh HW)).trans hr
 rw [no_f3] at r2
 have R2':=hide r2
 have O2:=hide (ownsRow_stay (uh O1) gl hr.1)
 clear hr r2
 go_wp2_with fail
 go_ret
 exact ⟨_,rfl,hide ⟨uh O2,uh R2'⟩⟩
theorem cint64_any (x:Int) (w:World):Calls Tryz.prog 180 #[.int .u64 x] w fun e w' => e = .returned (.int .i64 (i64w x)) ∧ w' = w:=by
 unfold i64w
 go_enter Tryz.func180,Tryz.ntmps180
 go_wp2_with fail
 go_ret
 exact ⟨by first | rfl | (rw [IntKind.wrap_i64]; rfl) | simp [wrap64,IntKind.wrap_i64],rfl⟩
def i64c (x:Int):List Value:=[.int .i64 x]
theorem i64Wd:Wd 1 i64c:=⟨by decide,fun _ => rfl,fun a u hu => by simp [i64c] at hu; subst hu; rfl⟩
theorem own_i64 {t:TypeId} {w w':World} {v:Value} {l:List Int} (h:OwnR t 1 i64c w w' v l):OwnG t (Value.int .i64) w w' v l:=by
 obtain ⟨h1,h2⟩:=h
 rw [show l.flatMap i64c = l.map (Value.int .i64) from flat_one _ l] at h1
 exact ⟨h1,h2⟩
theorem Tryz.infoI64d:(Tryz.prog.info? 2).map (fun i => (i.zero,i.size,i.bytes)) = some (some (.int .i64 0),1,8):=by kernel_rfl
theorem Tryz.infoIntd:(Tryz.prog.info? 3).map (fun i => (i.zero,i.size,i.bytes)) = some (some (.int .i64 0),1,8):=by kernel_rfl
theorem cchint64_any (p:Option Addr) (c:Nat) (l:List Int) (w:World) (h:Ls (Value.int .u64) w p c l) (hs:l.length ≤ 100000000) :
  Calls Tryz.prog 179 #[.slice p l.length c,.func (.func 180) #[] #[]] w fun e w' => ∃ v,e = .returned v ∧ OwnG 2 (Value.int .i64) w w' v (l.map i64w):=by
 obtain ⟨i1,hi1,y1,z1,b1⟩:=info_parts Tryz.infoI64d
 have A1:=hide h
 have HC:=hide (fun x v => cint64_any x v)
 clear h
 go_enter Tryz.func179,Tryz.ntmps179
 go_wp2_with (at_make; (refine wpList_make_full _ rfl _ _ 83 rfl w.heap.size 2 i1 (.int .i64 0) 1 Tryz.underlying83 hi1 y1 z1 _ _ _ _ l.length rfl rfl (by omega) (by omega) (by rw [b1]; omega) (by unfold maxLen; omega) (Nat.le_refl _) ?_; intro w1 hown hgrow; have HM:=hide (Mrow.made i64Wd (0:Int) rfl hown); have HB:=hide ((Below.refl w.heap.size w).grown hgrow (Nat.le_refl _) (fun k hk => by cases hk)); clear hown hgrow))
 go_loopw [13] (fun iv wr => ∃ n:Nat,iv = .int .i64 n ∧ n ≤ l.length ∧ Hid (Mrow 2 i64c wr w.heap.size ((l.take n).map i64w ++ List.replicate (l.length - n) 0)) ∧ Hid (Below w.heap.size w wr)) (fun iv _ => l.length - (intOf iv).toNat)
 case atStart => exact ⟨0,rfl,by omega,hide (by rw [List.take_zero,List.map_nil,List.nil_append]; exact uh HM),HB⟩
 case round =>
  obtain ⟨n,rfl,hn,M,B⟩:=hrel
  by_cases hlt:n < l.length
  ·have hi:(n:Int) < (l.length:Int):=by omega
   obtain ⟨b,o,rfl,hb,hc⟩:=((uh A1).below (uh B)).lies (by omega)
   have k1:wr.cell? ⟨b,o + n,none⟩ = some (.int .u64 (l.getD n 0)):=hc n hlt
   obtain ⟨m,hm⟩:∃ m,l.length - n = m + 1:=⟨l.length - n - 1,by omega⟩
   rw [hm] at M
   have tl:((l.take n).map i64w).length = n:=by rw [List.length_map,List.length_take]; omega
   have hl:((l.take n).map i64w ++ List.replicate (m + 1) (0:Int)).length = l.length:=by rw [List.length_append,tl,List.length_replicate]; omega
   have M2:=hide (Mrow.set i64Wd (uh M) (i64w (l.getD n 0)) (i:=n) (by omega))
   have e1:((l.take n).map i64w ++ List.replicate (m + 1) (0:Int)).set n (i64w (l.getD n 0)) = (l.take (n + 1)).map i64w ++ List.replicate m 0:=by
    have:=set_mid ((l.take n).map i64w) m (0:Int) (i64w (l.getD n 0))
    rw [tl] at this
    rw [this,map_take7 i64w 0 l n hlt]
   rw [e1,Nat.mul_one] at M2
   have c1:wr.cell? ⟨w.heap.size,n,none⟩ = some (.int .i64 (((l.take n).map i64w ++ List.replicate (m + 1) (0:Int)).getD n 0)):=by
    have:=Mrow.at i64Wd (z:=(0:Int)) (uh M) (i:=n) (j:=0) (by omega) rfl
    simpa using this
   have f1:=(uh M).frozen n
   have hs1:w.heap.size < wr.heap.size:=lt_of_block (uh M)
   generalize ((l.take n).map i64w ++ List.replicate (m + 1) (0:Int)).getD n 0 = c0 at c1
   have B2:=hide (setMany_below (i64c (i64w (l.getD n 0))) wr w.heap.size n (uh B) (Nat.le_refl _))
   generalize l.getD n 0 = x at k1 M2 B2
   have HX:=hide (uh HC x wr)
   generalize i64w x = X at HX M2 B2
   clear e1 hl M hc tl
   go_wp2_with fail
   refine (uh HX).mono ?_
   rintro e v ⟨rfl,hv⟩
   replace hv:=hv.symm
   subst hv
   go_wp2_with fail
   go_roundw
   case rel => exact ⟨n + 1,by go_num,by omega,by rw [show l.length - (n + 1) = m by omega]; exact M2,B2⟩
   case measure => simp [intOf]; omega
  ·have hi:¬ (n:Int) < (l.length:Int):=by omega
   rw [List.take_of_length_le (by omega),show l.length - n = 0 by omega,List.replicate_zero,List.append_nil] at M
   have HO:=hide (own_i64 (Mrow.own i64Wd (uh M) (Nat.le_refl _) (by rw [List.length_map]; unfold maxLen; omega) (uh B)))
   rw [List.length_map] at HO
   clear M
   go_wp2_with fail
   go_ret
   exact ⟨_,rfl,by first | exact uh HO | (have h:=uh HO; rw [List.map_id] at h; exact h)⟩
theorem cint_any (x:Int) (w:World):Calls Tryz.prog 146 #[.int .i64 x] w fun e w' => e = .returned (.int .i64 (id x)) ∧ w' = w:=by
 go_enter Tryz.func146,Tryz.ntmps146
 go_wp2_with fail
 go_ret
 exact ⟨rfl,rfl⟩
theorem cchint_any (p:Option Addr) (c:Nat) (l:List Int) (w:World) (h:Ls (Value.int .i64) w p c l) (hs:l.length ≤ 100000000) :
  Calls Tryz.prog 144 #[.slice p l.length c,.func (.func 146) #[] #[]] w fun e w' => ∃ v,e = .returned v ∧ OwnG 3 (Value.int .i64) w w' v (l.map id):=by
 obtain ⟨i1,hi1,y1,z1,b1⟩:=info_parts Tryz.infoIntd
 have A1:=hide h
 have HC:=hide (fun x v => cint_any x v)
 clear h
 go_enter Tryz.func144,Tryz.ntmps144
 go_wp2_with (at_make; (refine wpList_make_full _ rfl _ _ 43 rfl w.heap.size 3 i1 (.int .i64 0) 1 Tryz.underlying43 hi1 y1 z1 _ _ _ _ l.length rfl rfl (by omega) (by omega) (by rw [b1]; omega) (by unfold maxLen; omega) (Nat.le_refl _) ?_; intro w1 hown hgrow; have HM:=hide (Mrow.made i64Wd (0:Int) rfl hown); have HB:=hide ((Below.refl w.heap.size w).grown hgrow (Nat.le_refl _) (fun k hk => by cases hk)); clear hown hgrow))
 go_loopw [13] (fun iv wr => ∃ n:Nat,iv = .int .i64 n ∧ n ≤ l.length ∧ Hid (Mrow 3 i64c wr w.heap.size ((l.take n).map id ++ List.replicate (l.length - n) 0)) ∧ Hid (Below w.heap.size w wr)) (fun iv _ => l.length - (intOf iv).toNat)
 case atStart => exact ⟨0,rfl,by omega,hide (by rw [List.take_zero,List.map_nil,List.nil_append]; exact uh HM),HB⟩
 case round =>
  obtain ⟨n,rfl,hn,M,B⟩:=hrel
  by_cases hlt:n < l.length
  ·have hi:(n:Int) < (l.length:Int):=by omega
   obtain ⟨b,o,rfl,hb,hc⟩:=((uh A1).below (uh B)).lies (by omega)
   have k1:wr.cell? ⟨b,o + n,none⟩ = some (.int .i64 (l.getD n 0)):=hc n hlt
   obtain ⟨m,hm⟩:∃ m,l.length - n = m + 1:=⟨l.length - n - 1,by omega⟩
   rw [hm] at M
   have tl:((l.take n).map id).length = n:=by rw [List.length_map,List.length_take]; omega
   have hl:((l.take n).map id ++ List.replicate (m + 1) (0:Int)).length = l.length:=by rw [List.length_append,tl,List.length_replicate]; omega
   have M2:=hide (Mrow.set i64Wd (uh M) (id (l.getD n 0)) (i:=n) (by omega))
   have e1:((l.take n).map id ++ List.replicate (m + 1) (0:Int)).set n (id (l.getD n 0)) = (l.take (n + 1)).map id ++ List.replicate m 0:=by
    have:=set_mid ((l.take n).map id) m (0:Int) (id (l.getD n 0))
    rw [tl] at this
    rw [this,map_take7 id 0 l n hlt]
   rw [e1,Nat.mul_one] at M2
   have c1:wr.cell? ⟨w.heap.size,n,none⟩ = some (.int .i64 (((l.take n).map id ++ List.replicate (m + 1) (0:Int)).getD n 0)):=by
    have:=Mrow.at i64Wd (z:=(0:Int)) (uh M) (i:=n) (j:=0) (by omega) rfl
    simpa using this
   have f1:=(uh M).frozen n
   have hs1:w.heap.size < wr.heap.size:=lt_of_block (uh M)
   generalize ((l.take n).map id ++ List.replicate (m + 1) (0:Int)).getD n 0 = c0 at c1
   have B2:=hide (setMany_below (i64c (id (l.getD n 0))) wr w.heap.size n (uh B) (Nat.le_refl _))
   generalize l.getD n 0 = x at k1 M2 B2
   have HX:=hide (uh HC x wr)
   generalize id x = X at HX M2 B2
   clear e1 hl M hc tl
   go_wp2_with fail
   refine (uh HX).mono ?_
   rintro e v ⟨rfl,hv⟩
   replace hv:=hv.symm
   subst hv
   go_wp2_with fail
   go_roundw
   case rel => exact ⟨n + 1,by go_num,by omega,by rw [show l.length - (n + 1) = m by omega]; exact M2,B2⟩
   case measure => simp [intOf]; omega
  ·have hi:¬ (n:Int) < (l.length:Int):=by omega
   rw [List.take_of_length_le (by omega),show l.length - n = 0 by omega,List.replicate_zero,List.append_nil] at M
   have HO:=hide (own_i64 (Mrow.own i64Wd (uh M) (Nat.le_refl _) (by rw [List.length_map]; unfold maxLen; omega) (uh B)))
   rw [List.length_map] at HO
   clear M
   go_wp2_with fail
   go_ret
   exact ⟨_,rfl,by first | exact uh HO | (have h:=uh HO; rw [List.map_id] at h; exact h)⟩
theorem cnums_any (g:Nat) (q:Option Addr) (d:Nat) (L:List FA) (num:Int) (w:World) (hw:WstE g w) (h:MsIn g w q d L) :
  Calls Tryz.prog 145 #[msV q L.length d g,.int .i64 num] w fun e w' => ∃ v,e = .returned v ∧ Hid (OwnS 2 (Value.int .i64) w w' v (intsP (L.map FA.f) num).1 ∧ RE g (intsP (L.map FA.f) num).2 w w'):=by
 obtain ⟨s1,s2,s3⟩:=h.small
 have C1:=hide (fun v (hv:Below w.heap.size w v) => cints6_any q d L num v (h.1.below hv) (by omega) (by omega))
 have hll:=list_len7 int1_len (L:=L) (num:=num)
 have HV:Hid (intsP (L.map FA.f) num = ((listV int1 (L.map FA.f) num).1.map i64w,bad3 ((listV int1 (L.map FA.f) num).2 != 0))):=hide rfl
 rw [uh HV]
 clear HV
 generalize listV int1 (L.map FA.f) num = R at C1 hll ⊢
 obtain ⟨R1,R2⟩:=R
 simp only at C1 hll ⊢
 have C2:=hide (fun v (hv:WstE g v) => cnote_bad g q L.length d (R2 != 0) v hv)
 have C3:=hide (fun p c v hv => cchint64_any p c R1 v hv (by have:=h.2.2.2; omega))
 obtain ⟨D,hD⟩:∃ D,(R2 != 0) = D:=⟨_,rfl⟩
 rw [hD] at C2 ⊢
 have HW:=hide hw
 have gl:=hw.lt
 clear hw h s3
 unfold msV at C2 ⊢
 go_enter Tryz.func145,Tryz.ntmps145
 go_wp2_with fail
 refine (uh C1 _ (al1p _ _)).mono ?_
 rintro e w1 ⟨v1,rfl,hO⟩
 obtain ⟨q1,d1,rfl,hl1,hf1⟩:=hO.form
 have L1:=hide hl1
 have O1:Hid (Off g q1 R1.length):=hide (fun b o e hp => by have:=(hf1 b o e hp).1; simp only [alloc_size6] at this; omega)
 have B1:=hide (bl_tr (al1p w _) hO.2)
 have X1:=hide (Box.below (Box.new w #[.slice q L.length d,.pointer (some ⟨g,0,none⟩)] 74) hO.2)
 have x1:=(uh X1).cell
 clear hO hl1 hf1 C1
 go_wp2_with fail
 try rw [hD]
 refine (uh C2 _ ((uh HW).below (uh B1))).mono ?_
 rintro e w2 ⟨rfl,hr⟩
 have r2:=(RE.below (uh B1) (uh HW)).trans hr
 rw [no_f3] at r2
 have R2':=hide r2
 have L2:=hide ((uh L1).stay7 (uh O1) hr.1)
 have s2':=r2.1.1.size
 clear hr r2
 go_wp2_with fail
 refine (uh C3 _ _ _ (uh L2)).mono ?_
 rintro e w3 ⟨v3,rfl,hO⟩
 have R3':=hide ((uh R2').trans (RE.below hO.2 ((uh R2').wst (uh HW))))
 rw [f3_no] at R3'
 have O3:=hide (ownsRow_base hO.1 s2')
 clear hO
 go_wp2_with fail
 go_ret
 exact ⟨_,rfl,hide ⟨uh O3,uh R3'⟩⟩
theorem ccountm_any (g:Nat) (q:Option Addr) (n d:Nat) (p:Option Addr) (c:Nat) (ds:List Int) (w:World) (hw:WstE g w) (h:Ints .i64 w p c ds) :
  Calls Tryz.prog 147 #[msV q n d g,.slice p ds.length c] w fun e w' => e = .returned (.tuple #[.int .i64 (countV ds).1,.bool ((countV ds).2 == 0)]) ∧ RE g (dimsP ds).2 w w':=by
 have C1:=hide (fun v (hv:Below w.heap.size w v) => ccount_any p c ds v (h.below hv))
 have HV:Hid ((dimsP ds).2 = f3 (bad3 ((countV ds).2 == 1)) (big3 ((countV ds).2 == 8))):=hide rfl
 rw [uh HV]
 clear HV
 generalize countV ds = R at C1 ⊢
 obtain ⟨R1,R2⟩:=R
 simp only at C1 ⊢
 have C2:=hide (fun v (hv:WstE g v) => cnote_bad g q n d (R2 == 1) v hv)
 have C3:=hide (fun v (hv:WstE g v) => cnote_big g q n d (R2 == 8) v hv)
 obtain ⟨D1,hD1⟩:∃ D,(R2 == 1) = D:=⟨_,rfl⟩
 rw [hD1] at C2 ⊢
 obtain ⟨D2,hD2⟩:∃ D,(R2 == 8) = D:=⟨_,rfl⟩
 rw [hD2] at C3 ⊢
 have HW:=hide hw
 have gl:=hw.lt
 clear hw h
 unfold msV at C2 C3 ⊢
 go_enter Tryz.func147,Tryz.ntmps147
 go_wp2_with fail
 refine (uh C1 _ (al1p _ _)).mono ?_
 rintro e v ⟨rfl,hv⟩
 replace hv:=hv.symm
 subst hv
 go_wp2_with fail
 try rw [hD1]
 refine (uh C2 _ ((uh HW).below (al1p _ _))).mono ?_
 rintro e w2 ⟨rfl,hr⟩
 have r2:=(RE.below (al1p w _) (uh HW)).trans hr
 rw [no_f3] at r2
 have R2':=hide r2
 have x2:=(hr.1.box (Box.new w #[.slice q n d,.pointer (some ⟨g,0,none⟩)] 74) (by omega)).cell
 clear hr r2
 go_wp2_with fail
 try rw [hD2]
 refine (uh C3 _ ((uh R2').wst (uh HW))).mono ?_
 rintro e w3 ⟨rfl,hr⟩
 have R3':=hide ((uh R2').trans hr)
 clear hr
 go_wp2_with fail
 go_ret2
 exact ⟨rfl,uh R3'⟩
end Go.Proofs.YtaikppgoahdjbabGreat
