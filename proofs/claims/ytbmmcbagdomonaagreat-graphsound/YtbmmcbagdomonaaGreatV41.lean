import Derived.Test.YtbmmcbagdomonaaGreatV40
set_option maxRecDepth 100000
set_option maxHeartbeats 40000000
namespace Go.Proofs.YtbmmcbagdomonaaGreat
open Go.RowKit
set_option linter.unusedVariables false
set_option linter.unusedSimpArgs false
theorem cvalues9_any (x:MoA) (B:Nat) (w w0:World) (h:MoIn B w0 x) (hs:Sm9 x) (hsv:Sm9v x) (hb0:Below w0.heap.size w0 w) (L:List Str) (v:Value) (LG:List GnA) (hO:OwnE 51 40 gnCells GnIn w0 w v LG) (hmix:mixG L x.nodes.length x.nodes LG)
  (hc1:∀ n ∈ x.nodes,0 < n.outs.length ∧ ((resV n.d).1 = 61 → n.outs.length = 1)) :
  Calls Tryz.prog 24 #[moV x,v] w fun e w' => ∃ vv LV,e = .returned vv ∧ OwnE 59 8 vgCells VgIn w w' vv LV ∧ LV.map VgA.d = valsG x.d:=by
 obtain ⟨i1,hi1,y1,z1,b1⟩:=info_parts Tryz.info9Val
 have hn9:valsG x.d = (x.inits.map fun c => constG c.T) ++ (x.inp.map fun v => (v.ty,v.ds,false,noTen)) ++ x.nodes.flatMap fun n => putG n.d:=by
  unfold valsG MoA.d
  simp only [List.map_map,List.flatMap_map]
  rfl
 have HI:=hide h.2.2.2.1
 have HP:=hide h.2.2.2.2.1
 obtain ⟨pg,cg,rfl,hrg⟩:=hO.rg (z:=noGnA) gnWd gnP
 have HRG:=hide hrg
 have HLG:=hide hmix.1
 have HMX:=hide hmix
 have HB0:=hide hb0
 have HSV:=hide hsv
 unfold Sm9v at HSV
 have HC1:=hide hc1
 have hs1:=h.2.2.2.1.2.1.len
 have hs2:=h.2.2.2.2.1.2.1.len
 obtain ⟨s0,s1,s2,s3,s4,s5⟩:=hs
 have HS0:=hide s0
 have HS5:=hide s5
 have HL1:=hide s1
 have HL2:=hide s2
 have HL3:=hide s3
 obtain ⟨VG,hVG⟩:∃ VG,valsG x.d = VG:=⟨_,rfl⟩
 have HVG:=hide (hn9.symm.trans hVG)
 rw [hVG]
 clear hVG hn9 h hO hmix hb0 hc1 s0 s5 s4 hsv hrg
 obtain ⟨ops,nm,nodes,qn,cn,inits,qi,ci,inp,qp,cp,out,qo,co⟩:=x
 unfold moV moCells strV
 simp only at HSV HI HP hs1 hs2 s1 s2 s3 HVG HMX HS5 HS0 HL1 HL2 HL3 HC1 HLG ⊢
 rw [uh HLG]
 go_enter Tryz.func24,Tryz.ntmps24
 obtain ⟨W,hW⟩:∃ W,w.alloc (.cells #[.int .i64 ops,.string (strOfNums nm),.slice qn nodes.length cn,.slice qi inits.length ci,.slice qp inp.length cp,.slice qo out.length co] 26) = W:=⟨_,rfl⟩
 have X:Hid (Box W w.heap.size #[.int .i64 ops,.string (strOfNums nm),.slice qn nodes.length cn,.slice qi inits.length ci,.slice qp inp.length cp,.slice qo out.length co] 26):=hide (by rw [← hW]; exact Box.new _ _ _)
 have BW:Hid (Below w.heap.size w W):=hide (by rw [← hW]; exact al1p _ _)
 have XW:Hid (w.heap.size < W.heap.size):=hide (uh X).lt
 have x1:=(uh X).cell
 have xl:=(uh X).lt
 go_wp2_with (first | (rw [hW]; clear hW) | fail)
 clear x1 xl
 go_loopw [5,15] (fun vv iv wr => ∃ (n:Nat) (LV:List VgA),iv = .int .i64 n ∧ n ≤ inits.length ∧ Hid (OwnE 59 8 vgCells VgIn w wr vv LV) ∧ Hid (LV.map VgA.d = (inits.take n).map fun c => constG c.T) ∧ Hid (LV.length = n) ∧ Hid (wr.heap[w.heap.size]? = W.heap[w.heap.size]?) ∧ Hid (w.heap.size < wr.heap.size ∧ vv.ownBlock ≠ some w.heap.size)) (fun _ iv _ => inits.length - (intOf iv).toNat)
 case atStart => exact ⟨0,[],rfl,by omega,hide (OwnE.nil (uh BW)),hide rfl,hide rfl,hide rfl,hide ⟨uh XW,by simp [Value.ownBlock]⟩⟩
 case round =>
  obtain ⟨n,LV,rfl,hn,HOV,HDV,HLL,HXB,HXS⟩:=hrel
  have B0R:Hid (Below w0.heap.size w0 wr):=hide (bl_tr7 (uh HB0) (bl_mono7 (uh HOV).1.2 (uh HB0).size))
  have BWR:Hid (Below w.heap.size w wr):=hide (uh HOV).1.2
  by_cases hlt:n < inits.length
  ·have hi:(n:Int) < (inits.length:Int):=by omega
   obtain ⟨bq,oq,hq,hbq,_⟩:=(uh HI).2.1.lies (show 0 < inits.length by omega)
   subst hq
   have A1:Hid (At8 wr bq (oq + n * 6) (inCells (inits.getD n noInA))):=hide (Rc.at9 ((uh HI).2.1.below (uh B0R)) hlt)
   have HF2:=hide (map_take9 (fun c:InA => constG c.T) inits noInA n hlt)
   have HTI:Hid (TenIn w0 (inits.getD n noInA).T (inits.getD n noInA).A):=hide ((uh HI).1 _ (getD_mem9 (z:=noInA) hlt)).2.1
   have HTO:=hide (tenWr_ok ((uh HS0).2.2.1 _ (getD_mem9 (z:=noInA) hlt)).2)
   generalize (inits.getD n noInA) = y at A1 HF2 HTI HTO
   have HCC:=hide (fun v (hv:Below w0.heap.size w0 v) => cconst9_any y.T y.A v ((uh HTI).below hv) (uh HTO))
   unfold tenV tenCells at HCC
   go_wp2_with (first
    | (refine wpList_isLoad 61 rfl ?_; refine wpList_loadG aggInit rfl _ rfl rfl (inWd.2.1 y) (uh A1) ?_)
    | (refine wpList_isLoad 47 rfl ?_; (refine wpList_loadG aggTen9 rfl _ rfl rfl (tenL_len y.T y.A) (uh A5) ?_))
    | (refine wpList_isStore 61 rfl ?_; (refine wpList_storeG aggInit rfl _ _ rfl rfl rfl (Box.new wr initZ 61) (inSize y) rfl (inWd.ones y) ?_; intro w5 b5 s5 z5; have G5:=hide b5; have B5:Hid (Below wr.heap.size wr w5):=hide (bl_tr7 (al1p _ _) s5.1); have A5:Hid (At8 w5 wr.heap.size 1 (tenL9 y.T y.A)):=hide (at8_in _ _ _ (by simpa using At8.box b5)); clear b5 s5 z5)))
   unfold tenL9
   refine (uh HCC w5 (bl_tr7 (uh B0R) (bl_mono7 (uh B5) (uh B0R).size))).mono ?_
   rintro e w6 ⟨⟨a,rfl,ha,had⟩,hb6⟩
   have B6:Hid (Below wr.heap.size wr w6):=hide (bl_tr (uh B5) hb6)
   have hw56:=hb6.size
   have hw5:=(uh B5).size
   have HD9:Hid ((LV ++ [a]).map VgA.d = (inits.take (n + 1)).map fun c => constG c.T):=hide (by rw [List.map_append,uh HDV,uh HF2]; simp [had])
   have O6:=hide ((uh HOV).below vgP (uh B6))
   have hoff:=own_off (uh HOV).1
   have HIN9:=hide (fun v (hv:Below w6.heap.size w6 v) => vg_new (B:=w.heap.size) (own:=u5.ownBlock) ha hv (by have:=(uh BWR).size; omega) (fun b hb => hoff b (by omega)))
   have HX6:Hid (w6.heap[w.heap.size]? = W.heap[w.heap.size]?):=hide (((uh B6).block _ (uh HXS).1).trans (uh HXB))
   have HXL6:Hid (w.heap.size < w6.heap.size):=hide (by have:=(uh HXS).1; omega)
   clear ha hb6 had hoff
   go_wp2_with (first
    | ((refine wpList_slice1 rfl 28 59 _ rfl (vgCells a).toArray rfl i1 (.agg valZ) 8 Tryz.underlying28 hi1 y1 z1 (vgSize a) (by omega) (by omega) ?_))
    | (at_builtin; (refine wpList_append_el vgWd vgP rfl _ _ 28 rfl w 59 i1 (.agg valZ) 144 Tryz.underlying28 hi1 y1 z1 b1 rfl _ LV rfl ((uh O6).below vgP (al1p _ _)) ⟨w6.heap.size,0,none⟩ 1 a rfl (fun j u hj => by rw [Go.WideShapes.add_plain,Nat.zero_add,Box.cell (Box.new _ _ _)]; simpa using hj) (uh HIN9 _ (al1p _ _)) (by rw [uh HLL]; unfold maxLen; omega) (by rw [uh HLL]; omega) ?_; intro v8 w8 o8 g8 l8; have O8:=hide o8; have K8:=hide (keepX (b:=w.heap.size) (((al1p w6 _).block _ (uh HXL6)).trans (uh HX6)) (Nat.lt_of_lt_of_le (uh HXL6) (al1p w6 _).size) (uh HXS).2 g8 l8); clear o8 g8 l8)))
   go_roundw
   case rel => exact ⟨n + 1,_,by go_num,by omega,O8,HD9,hide (by rw [List.length_append,uh HLL]; simp; try omega),hide (uh K8).1,hide (uh K8).2⟩
   case measure => simp [intOf]; omega
  ·have hi:¬ (n:Int) < (inits.length:Int):=by omega
   have e0:n = inits.length:=by omega
   subst e0
   rw [List.take_length] at HDV
   obtain ⟨v1,hv1⟩:∃ v,v = wr:=⟨_,rfl⟩
   subst hv1
   have X1:Hid (Box v1 w.heap.size _ _):=hide ((uh HXB).trans (uh X))
   have x2:=(uh X1).cell
   have xl2:=(uh X1).lt
   have HX1:=hide (uh HXS)
   have HO1:=hide (uh HOV)
   have HD1:=hide (uh HDV)
   have HLL1:=hide (uh HLL)
   clear HOV HDV HLL HXB HXS B0R BWR hn hi hlt
   go_wp2_with fail
   go_loopw [5,29] (fun vv iv wr => ∃ (n:Nat) (LV:List VgA),iv = .int .i64 n ∧ n ≤ inp.length ∧ Hid (OwnE 59 8 vgCells VgIn w wr vv LV) ∧ Hid (LV.map VgA.d = (inits.map fun c => constG c.T) ++ (inp.take n).map fun v => (v.ty,v.ds,false,noTen)) ∧ Hid (LV.length = inits.length + n) ∧ Hid (wr.heap[w.heap.size]? = v1.heap[w.heap.size]?) ∧ Hid (w.heap.size < wr.heap.size ∧ vv.ownBlock ≠ some w.heap.size)) (fun _ iv _ => inp.length - (intOf iv).toNat)
   case atStart => exact ⟨0,LV,rfl,by omega,HO1,hide (by rw [uh HD1]; simp),hide (by rw [uh HLL1]; rfl),hide rfl,hide ⟨(uh HX1).1,(uh HX1).2⟩⟩
   case round =>
    obtain ⟨n,LV,rfl,hn,HOV,HDV,HLL,HXB,HXS⟩:=hrel
    have B0R:Hid (Below w0.heap.size w0 wr):=hide (bl_tr7 (uh HB0) (bl_mono7 (uh HOV).1.2 (uh HB0).size))
    have s1:=uh HL1
    have s2:=uh HL2
    have s3:=uh HL3
    by_cases hlt:n < inp.length
    ·have hi:(n:Int) < (inp.length:Int):=by omega
     obtain ⟨bq,oq,hq,hbq,_⟩:=(uh HP).2.1.lies (show 0 < inp.length by omega)
     subst hq
     have A1:Hid (At8 wr bq (oq + n * 3) (vaCells (inp.getD n noVaA))):=hide (Rc.at9 ((uh HP).2.1.below (uh B0R)) hlt)
     have HF2:=hide (map_take9 (fun v:VaA => ((v.ty,v.ds,false,noTen):ValG)) inp noVaA n hlt)
     have HTI:Hid (VaIn B w0 (inp.getD n noVaA)):=hide ((uh HP).1 _ (getD_mem9 (z:=noVaA) hlt))
     have HDL:Hid ((inp.getD n noVaA).ds.length * 8 ≤ 140737488355328):=hide (by have:=uh HSV _ (getD_mem9 (z:=noVaA) hlt); omega)
     generalize (inp.getD n noVaA) = y at A1 HF2 HTI HDL
     have HCC:=hide (fun v (hv:Below w0.heap.size w0 v) => ccopi9_any y.q y.c y.ds v ((uh HTI).2.2.1.ls.below hv |>.ints (uh HTI).2.2.1.2.2.1) (uh HDL))
     go_wp2_with (first
      | (refine wpList_isLoad 63 rfl ?_; refine wpList_loadG aggValue rfl _ rfl rfl (vaWd.2.1 y) (uh A1) ?_)
      | (refine wpList_isStore 63 rfl ?_; (refine wpList_storeG aggValue rfl _ _ rfl rfl rfl (Box.new wr valueZ 63) (vaSize y) rfl (vaWd.ones y) ?_; intro w5 b5 s5 z5; have G5:Hid (Box w5 wr.heap.size #[.string (strOfNums y.nm),.int .i64 y.ty,.slice y.q y.ds.length y.c] 63):=hide b5; have B5:Hid (Below wr.heap.size wr w5):=hide (bl_tr7 (al1p _ _) s5.1); clear b5 s5 z5)))
     have G5d:=((uh G5).below (bdrew8 _)).cell
     have g5:=(uh G5).cell
     have hw5:=(uh B5).size
     have O5:=hide ((uh HOV).below vgP (uh B5))
     have hoff:=own_off (uh HOV).1
     have HOFF:=hide hoff
     clear hoff
     have BR5:Hid (w.heap.size ≤ wr.heap.size):=hide (uh HOV).1.2.size
     go_region_held3 (fun v => (∀ j,v.cell? ⟨wr.heap.size,j,none⟩ = (#[.string (strOfNums y.nm),.int .i64 y.ty,.slice y.q y.ds.length y.c]:Array Value)[j]?)) (with_reducible assumption)
      (first
       | ((refine step_append_el vgWd vgP rfl (.tmp 33) (.tmp 40) 28 rfl w 59 i1 (.agg valZ) 144 Tryz.underlying28 hi1 y1 z1 b1 rfl _ LV (by simp [Act.eval]) ((uh O6).below vgP (al1p _ _)) ⟨w6.heap.size,0,none⟩ 1 ⟨y.ty,y.ds,p,d,false,noTen,noTA⟩ (by simp [Act.eval]) (fun j u hj => by rw [Go.WideShapes.add_plain,Nat.zero_add,Box.cell (Box.new _ _ _)]; simpa [vgCells,noTen,noTA] using hj) (uh HIN9 _ (al1p _ _)) (by rw [uh HLL]; unfold maxLen; omega) (by rw [uh HLL]; omega) ?_; intro v8 w8 o8 g8 l8; have O8:=hide o8; have K8:=hide (keepX (b:=w.heap.size) (((al1p w6 _).block _ (uh HXL6)).trans (uh HX6)) (Nat.lt_of_lt_of_le (uh HXL6) (al1p w6 _).size) (uh HXS).2 g8 l8); have G8:=hide (keepX (W:=w6.alloc _) (b:=wr.heap.size) rfl (Nat.lt_of_lt_of_le (uh HGL6) (al1p w6 _).size) (uh HOFF _ (Nat.le_refl _)) g8 l8).1; have g8c:=(show Box w8 wr.heap.size #[.string (strOfNums y.nm),.int .i64 y.ty,.slice y.q y.ds.length y.c] 63 from (uh G8).trans ((uh G6).below (al1p _ _))).cell; clear o8 g8 l8))
       | (go_at_call 44; (refine (uh HCC _ (bl_tr7 (uh B0R) (bl_mono7 (bl_tr (uh B5) (bdrew8 _)) (uh B0R).size))).mono ?_; rintro e w6 ⟨⟨p,d,rfl,hL,hF⟩,hb6⟩; have B6:Hid (Below wr.heap.size wr w6):=hide (bl_tr (bl_tr (uh B5) (bdrew8 _)) hb6); have O6:=hide ((uh O5).below vgP (bl_tr (bdrew8 _) hb6)); have G6:=hide (((uh G5).below (bdrew8 _)).below hb6); have g6:=(uh G6).cell; have g6a:=((uh G6).below (al1p w6 (.cells #[.int .i64 y.ty,.slice p y.ds.length d,.bool false,.int .i64 0,.slice none 0 0,.slice none 0 0,.slice none 0 0,.slice none 0 0] 59))).cell; have HGL6:=hide (uh G6).lt; have HX6:Hid (w6.heap[w.heap.size]? = v1.heap[w.heap.size]?):=hide (((uh B6).block _ (uh HXS).1).trans (uh HXB)); have HXL6:Hid (w.heap.size < w6.heap.size):=hide (Nat.lt_of_lt_of_le (uh HXS).1 (uh B6).size); have HIN9:=hide (fun v (hv:Below w6.heap.size w6 v) => vg_new (B:=w.heap.size) (w5:=w5) (own:=u5.ownBlock) (a:=⟨y.ty,y.ds,p,d,false,noTen,noTA⟩) ⟨(uh HTI).2.1,⟨hL,fun b o e hp => (hF b o e hp).1⟩,TenL.no _ _⟩ hv (Nat.le_trans (uh BR5) (uh B5).size) (fun b hb => uh HOFF b (Nat.le_trans (uh B5).size hb))); have HD9:Hid ((LV ++ ([⟨y.ty,y.ds,p,d,false,noTen,noTA⟩]:List VgA)).map VgA.d = (inits.map fun c => constG c.T) ++ (inp.take (n + 1)).map fun v => (v.ty,v.ds,false,noTen)):=hide (by rw [List.map_append,uh HDV,uh HF2,List.append_assoc]; rfl); clear hL hF hb6)))
     go_wp2_with fail
     go_roundw
     case rel => exact ⟨n + 1,_,by go_num,by omega,O8,HD9,hide (by rw [List.length_append,uh HLL]; simp; try omega),hide (uh K8).1,hide (uh K8).2⟩
     case measure => simp [intOf]; omega
    ·have hi:¬ (n:Int) < (inp.length:Int):=by omega
     have e0:n = inp.length:=by omega
     subst e0
     rw [List.take_length] at HDV
     obtain ⟨v2,hv2⟩:∃ v,v = wr:=⟨_,rfl⟩
     subst hv2
     have HO2:=hide (uh HOV)
     have HD2:=hide (uh HDV)
     have HLL2:=hide (uh HLL)
     have HVH:Hid (VG = ((inits.map fun c => constG c.T) ++ (inp.map fun v => (v.ty,v.ds,false,noTen))) ++ nodes.flatMap fun n => putG n.d):=hide (uh HVG).symm
     obtain ⟨HD,hHD⟩:∃ HD,(inits.map fun c => constG c.T) ++ (inp.map fun v => ((v.ty,v.ds,false,noTen):ValG)) = HD:=⟨_,rfl⟩
     rw [hHD] at HD2 HVH
     clear HOV HDV HLL HXB HXS B0R hn hi hlt hHD HVG
     go_wp2_with fail
     go_loopw [5,45] (fun vv iv wr => ∃ (n:Nat) (LV:List VgA),iv = .int .i64 n ∧ n ≤ nodes.length ∧ Hid (OwnE 59 8 vgCells VgIn w wr vv LV) ∧ Hid (LV.map VgA.d = HD ++ (nodes.take n).flatMap fun n => putG n.d) ∧ Hid (LV.length ≤ 1088 + 64 * n)) (fun _ iv _ => nodes.length - (intOf iv).toNat)
     case atStart => exact ⟨0,LV,rfl,by omega,HO2,hide (by rw [uh HD2]; simp),hide (by rw [uh HLL2]; omega)⟩
     case round =>
      obtain ⟨n,LV,rfl,hn,HOV,HDV,HLL⟩:=hrel
      have BWR:Hid (Below w.heap.size w wr):=hide (uh HOV).1.2
      have s3:=uh HL3
      by_cases hlt:n < nodes.length
      ·have hi:(n:Int) < (nodes.length:Int):=by omega
       have hlg:n < LG.length:=by rw [uh HLG]; exact hlt
       obtain ⟨bg,og,hq,hbg,_⟩:=(uh HRG).1.lies (show 0 < LG.length by omega)
       subst hq
       have A1:Hid (At8 wr bg (og + n * 40) (gnCells (LG.getD n noGnA))):=hide (Rc.at9 ((uh HRG).1.below (uh BWR)) hlg)
       have HXI:Hid (GnIn (fun b => w0.heap.size ≤ b) w (LG.getD n noGnA)):=hide ((uh HRG).2.2 _ (getD_mem9 hlg))
       have HXD:Hid ((LG.getD n noGnA).d = linkG L n (nodes.getD n noNoA).d):=hide (by rw [(uh HMX).2 n hlt,if_pos hlt])
       have HF2:Hid ((nodes.take (n + 1)).flatMap (fun n => putG n.d) = (nodes.take n).flatMap (fun n => putG n.d) ++ putG (nodes.getD n noNoA).d):=hide (by
        rw [List.take_add_one,List.flatMap_append,List.getD_eq_getElem?_getD,List.getElem?_eq_getElem hlt]; simp)
       have HCN:=hide (uh HC1 _ (getD_mem9 (z:=noNoA) hlt))
       have HO64:=hide (uh HS5 _ (getD_mem9 (z:=noNoA) hlt)).2
       have HOKT:Hid (okD9 (resV (nodes.getD n noNoA).d).2.1):=hide (res_ok9 (fun a ha => by
        obtain ⟨a',ha',rfl⟩:=List.mem_map.1 (show a ∈ ((nodes.getD n noNoA).at').map AtA.d from ha)
        exact atSm_ok9 (((uh HS0).2.1 _ (getD_mem9 (z:=noNoA) hlt)).2.2.2.2.2 a' ha').1))
       generalize (LG.getD n noGnA) = x9 at A1 HXI HXD
       generalize (nodes.getD n noNoA) = y at HXD HF2 HCN HO64 HOKT
       have hxo:x9.op = (resV y.d).1:=congrArg GnD.op (uh HXD)
       have hxD:x9.D = (resV y.d).2.1:=congrArg GnD.s (uh HXD)
       have hxl:x9.outs.length = y.outs.length:=by
        have:=congrArg (fun d:GnD => d.outs.length) (uh HXD)
        simpa [GnA.d,linkG,NoA.d] using this
       have HXL:Hid (x9.outs.length ≤ 64 ∧ 0 < x9.outs.length):=hide (by rw [hxl]; exact ⟨uh HO64,(uh HCN).1⟩)
       have HPC:Hid (x9.op = 61 → putG y.d = [constG (x9.D 31).T]):=hide (fun e => by
        have h1:=(uh HCN).2 (by rw [← hxo]; exact e)
        unfold putG
        rw [← hxo,if_pos e,← hxD]
        show y.outs.map _ = _
        match hy:y.outs,h1 with
        | [s],_ => rfl)
       have HPN:Hid (x9.op ≠ 61 → putG y.d = List.replicate x9.outs.length emptyG):=hide (fun e => by
        unfold putG
        rw [← hxo,if_neg e,hxl]
        show y.outs.map _ = _
        rw [List.map_const'])
       have HOK9:Hid (okLen (x9.D 31).T):=hide (by rw [hxD]; exact uh HOKT)
       clear hxo hxD hxl hlg HXD HOKT HCN HO64
       by_cases h61:x9.op = 61
       ·have t61:(x9.op == 61) = true:=by rw [h61]; rfl
        have HPU:=hide (uh HPC h61)
        clear h61
        go_wp2_with (first
         | (refine wpList_isLoad 51 rfl ?_; refine wpList_loadG aggGn rfl _ rfl rfl (gnWd.2.1 x9) (uh A1) ?_)
         | (refine wpList_isLoad 47 rfl ?_; (refine wpList_loadG aggTen9 rfl _ rfl rfl (tenL_len _ _) (uh A5) ?_))
         | (refine wpList_isStore 51 rfl ?_; (refine wpList_storeG aggGn rfl _ _ rfl rfl rfl (Box.new wr gnZc 51) (gnSize x9) rfl (gnWd.ones x9) ?_; intro w5 b5 s5 z5; have G5:=hide b5; have B5:Hid (Below wr.heap.size wr w5):=hide (bl_tr7 (al1p _ _) s5.1); have v0:w5.cell? ⟨wr.heap.size,0,none⟩ = some (.int .i64 x9.op):=((uh G5).cell 0).trans rfl; obtain ⟨A9,hA9,hT9⟩:=at8_gn (x:=x9) (w:=w5) (b:=wr.heap.size) (by simpa using At8.box b5) ((uh HXI).2.1.hold (Hold.below (bl_tr (uh BWR) (uh B5)))); have A5:=hide hA9; have HT9:=hide hT9; clear b5 s5 z5 hA9 hT9)))
        unfold tenL9
        refine (cconst9_any (x9.D 31).T A9 w5 (uh HT9).inn (uh HOK9)).mono ?_
        rintro e w6 ⟨⟨a,rfl,ha,had⟩,hb6⟩
        have B6:Hid (Below wr.heap.size wr w6):=hide (bl_tr (uh B5) hb6)
        have hw56:=hb6.size
        have hw5:=(uh B5).size
        have HD9:Hid ((LV ++ [a]).map VgA.d = HD ++ (nodes.take (n + 1)).flatMap fun n => putG n.d):=hide (by rw [List.map_append,uh HDV,uh HF2,uh HPU,List.append_assoc]; simp [had])
        have O6:=hide ((uh HOV).below vgP (uh B6))
        have hoff:=own_off (uh HOV).1
        have HIN9:=hide (fun v (hv:Below w6.heap.size w6 v) => vg_new (B:=w.heap.size) (own:=u5.ownBlock) ha hv (by have:=(uh BWR).size; omega) (fun b hb => hoff b (by omega)))
        have hll:=uh HLL
        clear ha hb6 had hoff
        go_wp2_with (first
         | ((refine wpList_slice1 rfl 28 59 _ rfl (vgCells a).toArray rfl i1 (.agg valZ) 8 Tryz.underlying28 hi1 y1 z1 (vgSize a) (by omega) (by omega) ?_))
         | (at_builtin; (refine wpList_append_el vgWd vgP rfl _ _ 28 rfl w 59 i1 (.agg valZ) 144 Tryz.underlying28 hi1 y1 z1 b1 rfl _ LV rfl ((uh O6).below vgP (al1p _ _)) ⟨w6.heap.size,0,none⟩ 1 a rfl (fun j u hj => by rw [Go.WideShapes.add_plain,Nat.zero_add,Box.cell (Box.new _ _ _)]; simpa using hj) (uh HIN9 _ (al1p _ _)) (by unfold maxLen; omega) (by omega) ?_; intro v8 w8 o8 g8 l8; have O8:=hide o8; clear o8 g8 l8)))
        go_roundw
        case rel => exact ⟨n + 1,_,by go_num,by omega,O8,HD9,hide (by have:=uh HLL; rw [List.length_append,List.length_singleton]; omega)⟩
        case measure => simp [intOf]; omega
       ·have t61:(x9.op == 61) = false:=by simp [h61]
        have HPU:=hide (uh HPN h61)
        clear h61
        have hxl:=uh HXL
        have hll:=uh HLL
        go_wp2_with (first
         | (refine wpList_isLoad 51 rfl ?_; refine wpList_loadG aggGn rfl _ rfl rfl (gnWd.2.1 x9) (uh A1) ?_)
         | (refine wpList_isStore 51 rfl ?_; (refine wpList_storeG aggGn rfl _ _ rfl rfl rfl (Box.new wr gnZc 51) (gnSize x9) rfl (gnWd.ones x9) ?_; intro w5 b5 s5 z5; have G5:=hide b5; have B5:Hid (Below wr.heap.size wr w5):=hide (bl_tr7 (al1p _ _) s5.1); have v0:w5.cell? ⟨wr.heap.size,0,none⟩ = some (.int .i64 x9.op):=((uh G5).cell 0).trans rfl; have v38:w5.cell? ⟨wr.heap.size,38,none⟩ = some (.slice x9.qo x9.outs.length x9.co):=((uh G5).cell 38).trans (by simpa using gn_38 x9); have O5:=hide ((uh HOV).below vgP (uh B5)); clear b5 s5 z5))
         | (at_builtin; (refine wpList_append_zeros vgWd vgP rfl _ _ 28 3 rfl w 59 i1 noVgA (.agg valZ) 144 Tryz.underlying28 Tryz.underlying3 hi1 y1 z1 b1 rfl _ LV rfl (uh O5) x9.outs.length rfl hxl.2 (fun OK w' => ⟨rfl,Li.nil _ _ _,TenL.no _ _⟩) (by unfold maxLen; omega) (by omega) ?_; intro v8 w8 o8 g8 l8; have O8:=hide o8; clear o8 g8 l8)))
        go_roundw
        case rel => exact ⟨n + 1,_,by go_num,by omega,O8,hide (by rw [List.map_append,uh HDV,uh HF2,uh HPU,List.append_assoc,List.map_replicate]; rfl),hide (by rw [List.length_append,List.length_replicate]; omega)⟩
        case measure => simp [intOf]; omega
      ·have hi:¬ (n:Int) < (nodes.length:Int):=by omega
       have e0:n = nodes.length:=by omega
       subst e0
       rw [List.take_length] at HDV
       go_wp2_with fail
       exact bodyPost_ret (results_tmp rfl _ _ _) rfl ⟨u5,rfl,LV,uh HOV,(uh HDV).trans (uh HVH).symm⟩
end Go.Proofs.YtbmmcbagdomonaaGreat
