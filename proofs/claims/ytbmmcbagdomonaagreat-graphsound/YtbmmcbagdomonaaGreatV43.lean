import Derived.Test.YtbmmcbagdomonaaGreatV39
set_option maxRecDepth 100000
set_option maxHeartbeats 40000000
namespace Go.Proofs.YtbmmcbagdomonaaGreat
open Go.RowKit
open Go.Maps
set_option linter.unusedVariables false
set_option linter.unusedSimpArgs false
theorem clinked9_any (x:MoA) (B:Nat) (w w0:World) (h:MoIn B w0 x) (hs:Sm9 x) (mb:Nat) (L:List Str) (hM:NM w mb L) (hLl:L.length ≤ 1099511627776) (hL0:¬ [] ∈ L) (hout:∀ n ∈ x.nodes,∀ s ∈ n.outs,0 ≤ findG L s)
  (hb0:Below w0.heap.size w0 w) (v:Value) (LG:List GnA) (hO:OwnE 51 40 gnCells GnIn w0 w v LG) (hmix:mixG L 0 x.nodes LG) (hbare:∀ y ∈ LG,Bare y) :
  Calls Tryz.prog 23 #[moV x,.map (some mb),v] w fun e w' => ∃ mv,e = .returned (.tuple #[mv,.int .i64 (linkV L x.d.2.2.1 x.d.2.2.2.2.2).1,.int .i64 (linkV L x.d.2.2.1 x.d.2.2.2.2.2).2]) ∧
   ((linkV L x.d.2.2.1 x.d.2.2.2.2.2).1 = 0 → ∃ LG',OwnE 51 40 gnCells GnIn w0 w' v LG' ∧ mixG L x.nodes.length x.nodes LG' ∧ RowI w' w.heap.size mv (x.out.map fun o => findG L o.nm)) ∧ w.grownBy w' v.ownBlock:=by
 obtain ⟨R,hR⟩:∃ R,linkV L x.d.2.2.1 x.d.2.2.2.2.2 = R:=⟨_,rfl⟩
 have HR:=hide hR
 rw [hR]
 clear hR
 have HRA:=hide (link_at L x.d.2.2.1 x.d.2.2.2.2.2)
 have HRO:=hide (link_out L x.d.2.2.1 x.d.2.2.2.2.2)
 have hn9:x.d.2.2.1 = x.nodes.map NoA.d:=rfl
 have ho9:x.d.2.2.2.2.2 = x.out.map VaA.d:=rfl
 rw [hn9,ho9] at HRA HRO HR
 clear hn9 ho9
 obtain ⟨i1,hi1,y1,z1,b1⟩:=info_parts Tryz.info8int
 have HM:=hide hM
 have HL0:=hide hL0
 have HOU:=hide hout
 have HN:=hide h.2.2.1
 have HQ:=hide h.2.2.2.2.2
 have HO:=hide hO
 have HMX:=hide hmix
 have HBA:=hide hbare
 have HSM:=hide hs
 have HB0:=hide hb0
 have hs3:=h.2.2.1.2.1.len
 have hs4:=h.2.2.2.2.2.2.1.len
 have hov:∀ g,v.ownBlock = some g → g < w.heap.size:=fun g hg => (hO.1.lt9 g hg).1
 have HOV:=hide hov
 obtain ⟨s0,s1,s2,s3,s4,s5⟩:=hs
 have HS0:=hide s0
 have HS5:=hide s5
 clear h hM hL0 hout hO hmix hbare hb0 s0 s5 hov HSM
 obtain ⟨ops,nm,nodes,qn,cn,inits,qi,ci,inp,qp,cp,out,qo,co⟩:=x
 unfold moV moCells strV
 simp only at HN HQ hs3 hs4 s1 s2 s3 s4 HRA HRO HR HOU HMX HS5 HS0 ⊢
 go_enter Tryz.func23,Tryz.ntmps23
 obtain ⟨W,hW⟩:∃ W,w.alloc (.cells #[.int .i64 ops,.string (strOfNums nm),.slice qn nodes.length cn,.slice qi inits.length ci,.slice qp inp.length cp,.slice qo out.length co] 26) = W:=⟨_,rfl⟩
 have X:Hid (Box W w.heap.size #[.int .i64 ops,.string (strOfNums nm),.slice qn nodes.length cn,.slice qi inits.length ci,.slice qp inp.length cp,.slice qo out.length co] 26):=hide (by rw [← hW]; exact Box.new _ _ _)
 have BW:Hid (Below w.heap.size w W):=hide (by rw [← hW]; exact al1p _ _)
 have x1:=(uh X).cell
 have xl:=(uh X).lt
 go_wp2_with (first | (rw [hW]; clear hW) | fail)
 have OW:=hide ((uh HO).below gnP (uh BW))
 have MW:=hide ((uh HM).below (uh BW))
 have XL:=hide xl
 clear x1 xl
 go_loopw [25] (fun iv wr => ∃ (n:Nat) (LN:List GnA),iv = .int .i64 n ∧ n ≤ nodes.length ∧ Hid (OwnE 51 40 gnCells GnIn w0 wr v LN) ∧ Hid (mixG L n nodes LN) ∧ Hid (∀ i,n ≤ i → i < nodes.length → Bare (LN.getD i noGnA)) ∧ Hid (W.grownBy wr v.ownBlock) ∧ Hid (∀ i,i < n → insG L ((nodes.map NoA.d).getD i ([],[],[],[],[])).2.2.1 = true)) (fun iv _ => nodes.length - (intOf iv).toNat)
 case atStart => exact ⟨0,LG,rfl,by omega,OW,HMX,hide (fun i _ hi => uh HBA _ (getD_mem9 (by rw [(uh HMX).1]; exact hi))),hide (gr_below (Below.refl _ _) _),hide (fun i hi => absurd hi (by omega))⟩
 case round =>
  obtain ⟨n,LN,rfl,hn,HON,HMN,HBN,HGR,HIN⟩:=hrel
  obtain ⟨u,hu⟩:∃ u,u = wr:=⟨_,rfl⟩
  subst hu
  have BU:Hid (Below w0.heap.size w0 u):=hide (uh HON).1.2
  by_cases hlt:n < nodes.length
  ·have hi:(n:Int) < (nodes.length:Int):=by omega
   obtain ⟨g,cap,hv,hg0,hrow⟩:∃ g cap,v = .slice (some ⟨g,0,none⟩) nodes.length cap ∧ w0.heap.size ≤ g ∧ RowN 51 40 gnCells u g cap LN:=by
    rcases (uh HON).1.rowN with ⟨_,e⟩ | ⟨g,cap,e,h1,h2⟩
    ·have:=(uh HMN).1; rw [e] at this; simp at this; omega
    ·exact ⟨g,cap,by rw [← (uh HMN).1]; exact e,h1,h2⟩
   subst hv
   have HG0:=hide hg0
   have HROW:=hide hrow
   have hgb:mb ≠ g:=by
    rcases (uh OW).1.rowN with ⟨e,_⟩ | ⟨g',cap',e,_,cur,hh,_⟩
    ·cases e
    ·injection e with e1 _ _
     injection e1 with e2
     injection e2 with e3
     subst e3
     exact (uh MW).cells hh
   have HGB:=hide hgb
   have HLN:=hide (show n < LN.length by rw [(uh HMN).1]; exact hlt)
   have MU:Hid (NM u mb L):=hide ((uh MW).gr (uh HGR) hgb)
   clear hg0 hrow
   obtain ⟨bq,oq,hq,hbq,_⟩:=(uh HN).2.1.lies (show 0 < nodes.length by omega)
   subst hq
   have A1:Hid (At8 u bq (oq + n * 5) (noCells (nodes.getD n noNoA))):=hide (Rc.at9 ((uh HN).2.1.below (uh BU)) hlt)
   have HNI:Hid (NoIn B w0 (nodes.getD n noNoA)):=hide ((uh HN).1 _ (getD_mem9 (z:=noNoA) hlt))
   have HM9:=hide ((uh HMN).2 n hlt)
   have HNA:Hid ((nodes.map NoA.d).getD n ([],[],[],[],[]) = (nodes.getD n noNoA).d):=hide (getD_map9 NoA.d nodes noNoA _ hlt)
   have HI64:=hide (uh HS5 _ (getD_mem9 (z:=noNoA) hlt))
   have HOT:=hide (uh HOU _ (getD_mem9 (z:=noNoA) hlt))
   have HBX:=hide (uh HBN n (Nat.le_refl _) hlt)
   have HZ:=hide (((uh HS0).2.1 _ (getD_mem9 (z:=noNoA) hlt)).2.2.2)
   have HLT:=hide hlt
   have HNL:Hid (n < (nodes.map NoA.d).length):=hide (by rw [List.length_map]; exact hlt)
   have HERR:Hid (insG L (nodes.getD n noNoA).ins = false → R = (13,(n:Int))):=hide (fun he => by
    rw [← uh HR]; exact uh HRA n (uh HNL) (uh HIN) (by rw [uh HNA]; exact he))
   have HSTEP:Hid (∀ y:GnA,y.d = linkG L n (nodes.getD n noNoA).d → mixG L (n + 1) nodes (LN.set n y)):=hide (fun y hy => mix_step (uh HMN) (uh HLT) hy)
   have HD9:Hid ((LN.getD n noGnA).d = bareG n (nodes.getD n noNoA).d):=hide (by rw [uh HM9,if_neg (by omega)])
   generalize (nodes.getD n noNoA) = y at A1 HNI HM9 HNA HI64 HOT HZ HERR HSTEP HD9
   have kl:=(uh HROW).lt
   have kmb:=(uh MU).lt
   have hi64:=(uh HI64).1
   have ho64:=(uh HI64).2
   go_wp2_with (first
    | (refine wpList_isLoad 55 rfl ?_; refine wpList_loadG aggNode rfl _ rfl rfl (noWd.2.1 y) (uh A1) ?_)
    | (refine wpList_isStore 55 rfl ?_; (refine wpList_storeG aggNode rfl _ _ rfl rfl rfl (Box.new u nodeZ 55) (noSize y) rfl (noWd.ones y) ?_; intro w5 b5 s5 z5; have G5:=hide b5; have S5:Hid (Stay u.heap.size u w5):=hide ((Stay.below (al1p _ _) (Nat.le_refl _)).trans s5); have v2:w5.cell? ⟨u.heap.size,2,none⟩ = some (.slice y.qi y.ins.length y.ci):=((uh G5).cell 2).trans rfl; clear b5 s5 z5)))
   have B5:Hid (Below u.heap.size u w5):=hide (uh S5).1
   have R5:Hid (RowN 51 40 gnCells w5 g cap LN):=hide ((uh HROW).below (uh B5))
   have M5:Hid (NM w5 mb L):=hide ((uh MU).below (uh B5))
   have B05:Hid (Below w0.heap.size w0 w5):=hide (bl_tr7 (uh BU) (bl_mono7 (uh B5) (uh BU).size))
   have HI:Hid (Ls strV w0 y.qi y.ci y.ins):=hide (uh HNI).2.2.1.2.1
   have HIB:Hid (∀ s ∈ y.ins,isB s):=hide (uh HNI).2.2.1.1
   have GR5:Hid (w.grownBy w5 (some g)):=hide (((gr_below (uh BW) _).trans (uh HGR)).trans (gr_below (uh B5) _))
   have HG5:Hid (g < w5.heap.size):=hide (uh R5).lt
   clear v2 kl kmb
   have v2:w5.cell? ⟨u.heap.size,2,none⟩ = some (.slice y.qi y.ins.length y.ci):=((uh G5).cell 2).trans rfl
   go_loopw [33] (fun iv wq => ∃ (k:Nat) (q:Option Addr) (c:Nat),iv = .int .i64 k ∧ k ≤ y.ins.length ∧ Hid (RowN 51 40 gnCells wq g cap (LN.set n ((LN.getD n noGnA).withIn ((y.ins.take k).map (findG L)) q c))) ∧ Hid (RowI wq w5.heap.size (.slice q ((y.ins.take k).map (findG L)).length c) ((y.ins.take k).map (findG L))) ∧ Hid (w5.grownBy wq (some g)) ∧ Hid (insG L (y.ins.take k) = true)) (fun iv _ => y.ins.length - (intOf iv).toNat)
   case atStart => exact ⟨0,none,0,rfl,by omega,hide (by show RowN _ _ _ _ _ _ (LN.set n ((LN.getD n noGnA).withIn [] none 0)); rw [bare_in (uh HBX),set_self9 _ _ _ (uh HLN)]; exact uh R5),hide (RowI.nil _ _),hide (gr_below (Below.refl _ _) _),hide rfl⟩
   case round =>
    obtain ⟨k,q,c,rfl,hk,HRN,HRI,HGQ,HIK⟩:=hrel
    have MQ:Hid (NM wr mb L):=hide ((uh M5).gr (uh HGQ) (uh HGB))
    have BQ:Hid (Below w0.heap.size w0 wr):=hide (gr_bel (uh B05) (uh HGQ) (fun b hb => by simp only [Option.some.injEq] at hb; subst hb; exact uh HG0))
    have GQ:Hid (w.grownBy wr (some g)):=hide ((uh GR5).trans (uh HGQ))
    have hi64:=(uh HI64).1
    by_cases hlt2:k < y.ins.length
    ·have hi2:(k:Int) < (y.ins.length:Int):=by omega
     obtain ⟨bo,oo,hq2,hbo,hco⟩:=((uh HI).below (uh BQ)).lies (show 0 < y.ins.length by omega)
     have k1:wr.cell? ⟨bo,oo + k,none⟩ = some (.string (strOfNums (y.ins.getD k []))):=hco k hlt2
     have HT2:=hide (ins_take L y.ins k hlt2)
     have HC2:=hide (ins_cut L y.ins k hlt2)
     have HF2:=hide (map_take9 (findG L) y.ins [] k hlt2)
     have HFL:Hid (((y.ins.take k).map (findG L)).length = k):=hide (by rw [List.length_map,List.length_take]; omega)
     have HB:=hide (uh HIB _ (getD_mem9 (z:=[]) hlt2))
     have HZ2:=hide ((uh HZ).1 _ (getD_mem9 (z:=[]) hlt2))
     clear hco
     generalize y.ins.getD k [] = s at k1 HT2 HC2 HB HZ2 HF2
     obtain ⟨D,hO,hD⟩:=(uh MQ).look
     have hh:=hD.has s (uh HB)
     have hat':=hide (hD.at' s (uh HB))
     have hkey:=keyN_of (s:=s) (by have:=uh HZ2; unfold maxLen; omega)
     unfold strV at hkey
     obtain ⟨F1,hF1⟩:∃ F1,(y.ins.take (k + 1)).map (findG L) = F1:=⟨_,rfl⟩
     have HF1:=hide hF1
     rw [hF1] at HF2
     clear hF1 hD
     generalize (y.ins.take k).map (findG L) = Fk at HRN HRI HF2 HFL
     have ki:=(uh HRN).inAt (uh HLN)
     have kf:=(uh HRN).frozen (n * 40 + 37)
     have klt:=(uh HRN).lt
     have hw5:=(uh HGQ).size
     have hoff:=hide ((uh HRI).off (uh HG5))
     rw [hq2] at v2 ⊢
     by_cases h0:s = []
     ·have hm:findG L s = -1:=by have h1:=findG_ge L s; have h2:=findG_no.2 (uh HL0); rw [h0] at h1 ⊢; omega
      have HFA:Hid (F1 = Fk ++ [-1]):=hide (by rw [uh HF2,hm])
      have hh9:Maps.has D (keyN s) = false:=by rw [hh,hm]; rfl
      have t0:(strOfNums s).toList.isEmpty = true:=by rw [str_isE]; exact decide_eq_true h0
      have HTB:=hide h0
      clear h0 hh hm
      go_wp2_with (first
       | (at_lookup; (refine wpList_lookup_own_ok_int _ rfl _ _ 68 rfl 9 3 .i64 law9 Tryz.underlying68 Tryz.underlying3 (zeroE9 _) mb _ D rfl hO _ _ rfl hkey ?_; intro c9 hat hwc; rw [hh9]))
       | (at_builtin; (refine wpList_append_num rfl _ _ 30 rfl w5.heap.size i1 Tryz.underlying30 hi1 y1 z1 b1 _ Fk rfl ((uh HRI).below (al1p _ _)) ⟨wr.heap.size,0,none⟩ 1 (-1) rfl (cell_new9 _ _ _) (by rw [uh HFL]; omega) (by simp; omega) ?_; intro v7 w7 r7 g7 l7; rw [← uh HFA] at r7; obtain ⟨p7,c7,hv7,_,_⟩:=r7.form; subst hv7; have RI7:=hide r7; have GR7:=hide (((uh HGQ).trans (gr_below (al1p _ _) _)).andThen g7 (fun j hj => .inl ((uh HRI).lt9 j hj).1)); have RN7:=hide (((uh HRN).below (al1p _ _)).gr g7 (uh hoff)); have k7:=(uh RN7).inAt (uh HLN); have f7:=(uh RN7).frozen (n * 40 + 37); have lt7:=(uh RN7).lt; clear r7 g7 l7)))
      go_roundw
      case rel => exact ⟨k + 1,p7,c7,by go_num,by omega,hide (by rw [uh HF1]; exact (uh RN7).inPut (uh HLN)),hide (by rw [uh HF1]; exact (uh RI7).set9 (uh HG5)),hide ((uh GR7).trans gr_set),hide (by rw [uh HT2,uh HIK]; exact (by rw [decide_eq_true (uh HTB)]; rfl))⟩
      case measure => simp [intOf]; omega
     ·have t0:(strOfNums s).toList.isEmpty = false:=by rw [str_isE]; exact decide_eq_false h0
      by_cases hf:0 ≤ findG L s
      ·have hat9:=hide (uh hat' hf)
       have hh9:Maps.has D (keyN s) = true:=by rw [hh]; exact decide_eq_true hf
       have HFA:=hide (uh HF2)
       have HTB:Hid ((decide (s = []) || decide (0 ≤ findG L s)) = true):=hide (by rw [decide_eq_false h0,decide_eq_true hf]; rfl)
       clear h0 hh hat' HF2 HC2
       generalize findG L s = m at hf hat9 HFA HTB HT2
       have HFM:=hide hf
       clear hf
       go_wp2_with (first
        | (at_lookup; (refine wpList_lookup_own_ok_int _ rfl _ _ 68 rfl 9 3 .i64 law9 Tryz.underlying68 Tryz.underlying3 (zeroE9 _) mb _ D rfl hO _ _ rfl hkey ?_; intro c9 hat hwc; rw [hh9]; obtain rfl:m = c9:=(lit_i64 (hat.symm.trans (uh hat9))).symm))
        | (at_builtin; (refine wpList_append_num rfl _ _ 30 rfl w5.heap.size i1 Tryz.underlying30 hi1 y1 z1 b1 _ Fk rfl ((uh HRI).below (al1p _ _)) ⟨wr.heap.size,0,none⟩ 1 m rfl (cell_new9 _ _ _) (by rw [uh HFL]; omega) (by simp; omega) ?_; intro v7 w7 r7 g7 l7; rw [← uh HFA] at r7; obtain ⟨p7,c7,hv7,_,_⟩:=r7.form; subst hv7; have RI7:=hide r7; have GR7:=hide (((uh HGQ).trans (gr_below (al1p _ _) _)).andThen g7 (fun j hj => .inl ((uh HRI).lt9 j hj).1)); have RN7:=hide (((uh HRN).below (al1p _ _)).gr g7 (uh hoff)); have k7:=(uh RN7).inAt (uh HLN); have f7:=(uh RN7).frozen (n * 40 + 37); have lt7:=(uh RN7).lt; clear r7 g7 l7)))
       go_roundw
       case rel => exact ⟨k + 1,p7,c7,by go_num,by omega,hide (by rw [uh HF1]; exact (uh RN7).inPut (uh HLN)),hide (by rw [uh HF1]; exact (uh RI7).set9 (uh HG5)),hide ((uh GR7).trans gr_set),hide (by rw [uh HT2,uh HIK]; exact uh HTB)⟩
       case measure => simp [intOf]; omega
      ·have e0:R = (13,(n:Int)):=uh HERR (uh HC2 h0 (by omega))
       subst e0
       have hh9:Maps.has D (keyN s) = false:=by rw [hh]; exact decide_eq_false hf
       clear h0 hf hh
       go_wp2_with (at_lookup; (refine wpList_lookup_own_ok_int _ rfl _ _ 68 rfl 9 3 .i64 law9 Tryz.underlying68 Tryz.underlying3 (zeroE9 _) mb _ D rfl hO _ _ rfl hkey ?_; intro c9 hat hwc; rw [hh9]))
       refine bodyPost_ret (results_tmp3 rfl _ _ _) rfl ⟨⟨_,rfl⟩,uh GQ⟩
    ·have i64:=(uh HI64).1
     have hi2:¬ (k:Int) < (y.ins.length:Int):=by omega
     have e0:k = y.ins.length:=by omega
     subst e0
     rw [List.take_length] at HRN HRI HIK
     obtain ⟨u2,hu2⟩:∃ u2,u2 = wr:=⟨_,rfl⟩
     subst hu2
     obtain ⟨FI,hFI⟩:∃ FI,y.ins.map (findG L) = FI:=⟨_,rfl⟩
     have HFI:=hide hFI
     rw [hFI] at HRN HRI
     obtain ⟨x10,hx10⟩:∃ x10,(LN.getD n noGnA).withIn FI q c = x10:=⟨_,rfl⟩
     have HX10:=hide hx10
     have HXO:Hid (x10.withOut [] none 0 = x10):=hide (by rw [← hx10]; exact bare_out (uh HBX) _ _ _)
     rw [hx10] at HRN
     clear hFI hx10
     have RI1:=hide (uh HRI)
     have RN1:=hide (uh HRN)
     have hgne:u.heap.size ≠ g:=by have:=(uh HROW).lt; omega
     have hul:u.heap.size < w5.heap.size:=(uh G5).lt
     have v3:u2.cell? ⟨u.heap.size,3,none⟩ = some (.slice y.qo y.outs.length y.co):=(World.cell?_of_block (w:=w5) (a:=⟨u.heap.size,3,none⟩) ((uh HGQ).block _ hul (fun e => hgne (by simpa using e)))).trans (((uh G5).cell 3).trans rfl)
     have HO9:Hid (Ls strV w0 y.qo y.co y.outs):=hide (uh HNI).2.2.2.1.2.1
     have HOB:Hid (∀ s ∈ y.outs,isB s):=hide (uh HNI).2.2.2.1.1
     have BU2:=hide (uh BQ)
     have MU2:=hide (uh MQ)
     have GU2:=hide (uh GQ)
     have HG2:Hid (g < u2.heap.size):=hide (uh HRN).lt
     have GRX:=hide (uh HGQ)
     have HYL:=hide (uh HI64).2
     clear HRI HRN BQ MQ GQ HGQ hgne hul hi2 hk hlt2 v2
     go_wp2_with fail
     go_loopw [66] (fun iv wq => ∃ (k:Nat) (q:Option Addr) (c:Nat),iv = .int .i64 k ∧ k ≤ y.outs.length ∧ Hid (RowN 51 40 gnCells wq g cap (LN.set n (x10.withOut ((y.outs.take k).map (findG L)) q c))) ∧ Hid (RowI wq u2.heap.size (.slice q ((y.outs.take k).map (findG L)).length c) ((y.outs.take k).map (findG L))) ∧ Hid (u2.grownBy wq (some g))) (fun iv _ => y.outs.length - (intOf iv).toNat)
     case atStart => exact ⟨0,none,0,rfl,by omega,hide (by show RowN _ _ _ _ _ _ (LN.set n (x10.withOut [] none 0)); rw [uh HXO]; exact uh RN1),hide (RowI.nil _ _),hide (gr_below (Below.refl _ _) _)⟩
     case round =>
      obtain ⟨k,q',c',rfl,hk,HRN,HRI,HGQ⟩:=hrel
      have MQ:Hid (NM wr mb L):=hide ((uh MU2).gr (uh HGQ) (uh HGB))
      have BQ:Hid (Below w0.heap.size w0 wr):=hide (gr_bel (uh BU2) (uh HGQ) (fun b hb => by simp only [Option.some.injEq] at hb; subst hb; exact uh HG0))
      have ho64:=uh HYL
      by_cases hlt2:k < y.outs.length
      ·have hi2:(k:Int) < (y.outs.length:Int):=by omega
       obtain ⟨bo,oo,hq2,hbo,hco⟩:=((uh HO9).below (uh BQ)).lies (show 0 < y.outs.length by omega)
       have k1:wr.cell? ⟨bo,oo + k,none⟩ = some (.string (strOfNums (y.outs.getD k []))):=hco k hlt2
       have HF2:=hide (map_take9 (findG L) y.outs [] k hlt2)
       have HFL:Hid (((y.outs.take k).map (findG L)).length = k):=hide (by rw [List.length_map,List.length_take]; omega)
       have HB:=hide (uh HOB _ (getD_mem9 (z:=[]) hlt2))
       have HZ2:=hide ((uh HZ).2.1 _ (getD_mem9 (z:=[]) hlt2))
       have HF0:=hide (uh HOT _ (getD_mem9 (z:=[]) hlt2))
       clear hco
       generalize y.outs.getD k [] = s at k1 HB HZ2 HF2 HF0
       obtain ⟨m,hm⟩:∃ m,findG L s = m:=⟨_,rfl⟩
       have KA:Hid (∀ v,NM v mb L → (Instr.lookup 68 (.map (some mb)) (.string (strOfNums s)) false).run Tryz.prog v = .ok (.int .i64 m) v):=hide (fun v hv => by
        have:=hv.run (s:=s) (uh HB) (by have:=uh HZ2; unfold maxLen; omega) (uh HF0)
        rw [hm] at this; exact this)
       have MQd:Hid (NM wr.drew mb L):=hide ((uh MQ).below (bdrew8 _))
       have MQa:Hid (NM (wr.drew.alloc (.cells #[.int .i64 m] 3)) mb L):=hide ((uh MQd).below (al1p _ _))
       have M2:=hide (uh MU2)
       obtain ⟨F1,hF1⟩:∃ F1,(y.outs.take (k + 1)).map (findG L) = F1:=⟨_,rfl⟩
       have HF1:=hide hF1
       have HFA:Hid (F1 = (y.outs.take k).map (findG L) ++ [m]):=hide (by rw [← hF1,uh HF2,hm])
       clear hF1 hm
       generalize (y.outs.take k).map (findG L) = Gk at HRN HRI HFA HFL
       have ki:=(uh HRN).outAt (uh HLN)
       have kd:=((uh HRN).below (bdrew8 _)).outAt (uh HLN)
       have ka:=(((uh HRN).below (bdrew8 _)).below (al1p _ (.cells #[.int .i64 m] 3))).outAt (uh HLN)
       have kf:=(uh HRN).frozen (n * 40 + 38)
       have klt:=(uh HRN).lt
       have hw5:=(uh HGQ).size
       have hoff:=hide ((uh HRI).off (uh HG2))
       have szd:wr.drew.heap.size = wr.heap.size:=rfl
       rw [hq2] at v3 ⊢
       go_wp2_with fail
       refine wp_region_held_drew (S:=fun v => (Instr.lookup 68 (.map (some mb)) (.string (strOfNums s)) false).run Tryz.prog v = .ok (.int .i64 m) v) (by kernel_rfl) (uh KA _ (uh MQd)) (fun hHeld => ?_)
       refine wpAnyH_take (i:=0) (oi:={ dst:=some 70,op:=_,type:=_,pos:=_,after:=_,guard:=_ }) (v:=?vv1) rfl (by kernel_rfl) (by kernel_rfl) (by kernel_rfl) (fun _ _ _ h => h) (Or.inl ⟨by rfl,?hy1⟩) (by assumption) ?rest1
       case hy1 => (intro w hSw; (try dsimp only at hSw); go_simp; (first | done | with_reducible rfl))
       (try simp only [Act.put,List.setIfInBounds_toArray,List.set_cons_zero,List.set_cons_succ])
       refine wpAnyH_take (i:=1) (oi:={ dst:=some 71,op:=_,type:=_,pos:=_,after:=_,guard:=_ }) (v:=?vv2) rfl (by kernel_rfl) (by kernel_rfl) (by kernel_rfl) (fun _ _ _ h => h) (Or.inl ⟨by rfl,?hy2⟩) (by assumption) ?rest2
       case hy2 => (intro w hSw; (try dsimp only at hSw); go_simp; (first | done | with_reducible rfl))
       (try simp only [Act.put,List.setIfInBounds_toArray,List.set_cons_zero,List.set_cons_succ])
       refine wpAnyH_take (i:=2) (oi:={ dst:=some 72,op:=_,type:=_,pos:=_,after:=_,guard:=_ }) (v:=?vv3) rfl (by kernel_rfl) (by kernel_rfl) (by kernel_rfl) (fun _ _ _ h => h) (Or.inl ⟨by rfl,?hy3⟩) (by assumption) ?rest3
       case hy3 => (intro w hSw; (try dsimp only at hSw); go_simp; (first | done | with_reducible rfl))
       (try simp only [Act.put,List.setIfInBounds_toArray,List.set_cons_zero,List.set_cons_succ])
       refine wpAnyH_take (i:=3) (oi:={ dst:=some 73,op:=_,type:=_,pos:=_,after:=_,guard:=_ }) (v:=?vv4) rfl (by kernel_rfl) (by kernel_rfl) (by kernel_rfl) (fun _ _ _ h => h) (Or.inl ⟨by rfl,?hy4⟩) (by assumption) ?rest4
       case hy4 => (intro w hSw; (try dsimp only at hSw); go_simp; (first | done | with_reducible rfl))
       (try simp only [Act.put,List.setIfInBounds_toArray,List.set_cons_zero,List.set_cons_succ])
       refine wpAnyH_take (i:=4) (oi:={ dst:=some 74,op:=_,type:=_,pos:=_,after:=_,guard:=_ }) (v:=?vv5) rfl (by kernel_rfl) (by kernel_rfl) (by kernel_rfl) (fun _ _ _ h => h) (Or.inl ⟨by rfl,?hy5⟩) (by assumption) ?rest5
       case hy5 => (intro w hSw; (try dsimp only at hSw); go_simp; (first | done | with_reducible rfl))
       (try simp only [Act.put,List.setIfInBounds_toArray,List.set_cons_zero,List.set_cons_succ])
       refine wpAnyH_take (i:=5) (oi:={ dst:=some 75,op:=_,type:=_,pos:=_,after:=_,guard:=_ }) (v:=?vv6) rfl (by kernel_rfl) (by kernel_rfl) (by kernel_rfl) (fun _ _ _ h => h) (Or.inl ⟨by rfl,?hy6⟩) (by assumption) ?rest6
       case hy6 => (intro w hSw; (try dsimp only at hSw); go_simp; (first | done | with_reducible rfl))
       (try simp only [Act.put,List.setIfInBounds_toArray,List.set_cons_zero,List.set_cons_succ])
       refine wpAnyH_take (i:=7) (oi:={ dst:=some 77,op:=_,type:=_,pos:=_,after:=_,guard:=_ }) (v:=?vv7) rfl (by kernel_rfl) (by kernel_rfl) (by kernel_rfl) (fun _ _ _ h => h) (Or.inl ⟨by rfl,?hy7⟩) (by assumption) ?rest7
       case hy7 => (intro w hSw; (try dsimp only at hSw); go_simp; (first | done | with_reducible rfl))
       (try simp only [Act.put,List.setIfInBounds_toArray,List.set_cons_zero,List.set_cons_succ])
       refine wpAnyH_take (i:=8) (oi:={ dst:=some 78,op:=_,type:=_,pos:=_,after:=_,guard:=_ }) (v:=?vv8) rfl (by kernel_rfl) (by kernel_rfl) (by kernel_rfl) (fun _ _ _ h => h) (Or.inl ⟨by rfl,?hy8⟩) (by assumption) ?rest8
       case hy8 => (intro w hSw; (try dsimp only at hSw); go_simp; (first | done | with_reducible rfl))
       (try simp only [Act.put,List.setIfInBounds_toArray,List.set_cons_zero,List.set_cons_succ])
       refine wpAnyH_take (i:=9) (oi:={ dst:=some 79,op:=_,type:=_,pos:=_,after:=_,guard:=_ }) (v:=.int .i64 m) rfl (by kernel_rfl) (by kernel_rfl) (by kernel_rfl) (fun _ _ _ h => h) (yields_lookup9 (by rfl) (.tmp 77) (.tmp 78) rfl (by simp [Act.eval]) (by simp [Act.eval]) (fun v hv => hv)) (by assumption) ?_
       (try simp only [Act.put,List.setIfInBounds_toArray,List.set_cons_zero,List.set_cons_succ])
       refine wpAnyH_ready (rs:=[6,10]) (by kernel_rfl) (by simp) ?_
       refine AllReadyH.cons (o:={ dst:=some 76,op:=_,type:=_,pos:=_,after:=_,guard:=_ }) rfl (fun KC hK => ?_) (AllReadyH.cons (o:={ dst:=some 80,op:=_,type:=_,pos:=_,after:=_,guard:=_ }) rfl (fun KC hK => ?_) AllReadyH.nil)
       ·
        go_simp
        refine hK.out _ _ (uh KA _ (uh MQd)) (fun hHeld2 => ?_)
        clear hK KC hHeld
        (try simp only [Act.put,List.setIfInBounds_toArray,List.set_cons_zero,List.set_cons_succ])
        refine wpAnyH_ready (rs:=[10]) (by kernel_rfl) (by simp) ?_
        refine AllReadyH.cons (o:={ dst:=some 80,op:=_,type:=_,pos:=_,after:=_,guard:=_ }) rfl (fun KC hK => ?_) AllReadyH.nil
        go_simp
        refine hK.out _ _ (uh KA _ (uh MQa)) (fun hHeld3 => ?_)
        clear hK KC hHeld2
        (try simp only [Act.put,List.setIfInBounds_toArray,List.set_cons_zero,List.set_cons_succ])
        refine wpAnyH_ready (rs:=[11]) (by kernel_rfl) (by simp) ?_
        refine AllReadyH.cons (o:={ dst:=some 81,op:=_,type:=_,pos:=_,after:=_,guard:=_ }) rfl (fun KC hK => ?_) AllReadyH.nil
        refine step_append_num rfl (.tmp 76) (.tmp 80) 30 rfl u2.heap.size i1 Tryz.underlying30 hi1 y1 z1 b1 _ Gk (by simp [Act.eval]) (((uh HRI).below (bdrew8 _)).below (al1p _ _)) ⟨wr.heap.size,0,none⟩ 1 m (by simp [Act.eval]) (cell_new9 _ _ _) (by rw [uh HFL]; omega) (by simp; omega) ?_
        intro v7 w7 r7 g7
        rw [← uh HFA] at r7
        obtain ⟨p7,c7,hv7,_,_⟩:=r7.form
        subst hv7
        have RI7:=hide r7
        have GR7:=hide ((((uh HGQ).trans (gr_below (bdrew8 _) _)).trans (gr_below (al1p _ _) _)).andThen g7 (fun j hj => .inl ((uh HRI).lt9 j hj).1))
        have RN7:=hide ((((uh HRN).below (bdrew8 _)).below (al1p _ _)).gr g7 (uh hoff))
        have M7:Hid (NM w7 mb L):=hide ((uh M2).gr (uh GR7) (uh HGB))
        have k7:=(uh RN7).outAt (uh HLN)
        have f7:=(uh RN7).frozen (n * 40 + 38)
        have lt7:=(uh RN7).lt
        clear r7 g7
        refine hK.out _ _ (uh KA _ (uh M7)) (fun hHeld4 => ?_)
        clear hK KC hHeld3
        (try simp only [Act.put,List.setIfInBounds_toArray,List.set_cons_zero,List.set_cons_succ])
        refine wpAnyH_take (i:=12) (oi:={ dst:=some 82,op:=_,type:=_,pos:=_,after:=_,guard:=_ }) (v:=?vv9) rfl (by kernel_rfl) (by kernel_rfl) (by kernel_rfl) (fun _ _ _ h => h) (Or.inl ⟨by rfl,?hy9⟩) (by assumption) ?rest9
        case hy9 => (intro w hSw; (try dsimp only at hSw); go_simp; (first | done | with_reducible rfl))
        (try simp only [Act.put,List.setIfInBounds_toArray,List.set_cons_zero,List.set_cons_succ])
        refine wpAnyH_take (i:=13) (oi:={ dst:=some 83,op:=_,type:=_,pos:=_,after:=_,guard:=_ }) (v:=?vv10) rfl (by kernel_rfl) (by kernel_rfl) (by kernel_rfl) (fun _ _ _ h => h) (Or.inl ⟨by rfl,?hy10⟩) (by assumption) ?rest10
        case hy10 => (intro w hSw; (try dsimp only at hSw); go_simp; (first | done | with_reducible rfl))
        (try simp only [Act.put,List.setIfInBounds_toArray,List.set_cons_zero,List.set_cons_succ])
        refine wpAnyH_ready (rs:=[14]) (by kernel_rfl) (by simp) ?_
        refine AllReadyH.cons (o:={ dst:=none,op:=_,type:=_,pos:=_,after:=_,guard:=_ }) rfl (fun KC hK => ?_) AllReadyH.nil
        go_simp
        refine hK.out _ _ (uh KA _ ((uh M7).gr gr_set (uh HGB))) (fun hHeld5 => ?_)
        clear hK KC hHeld4
        (try simp only [Act.put,List.setIfInBounds_toArray,List.set_cons_zero,List.set_cons_succ])
        refine wpAnyH_done (by kernel_rfl) ?_ _
        go_wp2_with fail
        go_roundw
        case rel => exact ⟨k + 1,p7,c7,by go_num,by omega,hide (by rw [uh HF1]; exact (uh RN7).outPut (uh HLN)),hide (by rw [uh HF1]; exact (uh RI7).set9 (uh HG2)),hide ((uh GR7).trans gr_set)⟩
        case measure => simp [intOf]; omega
       ·
        go_simp
        refine hK.out _ _ (uh KA _ (uh MQa)) (fun hHeld2 => ?_)
        clear hK KC hHeld
        (try simp only [Act.put,List.setIfInBounds_toArray,List.set_cons_zero,List.set_cons_succ])
        refine wpAnyH_ready (rs:=[6]) (by kernel_rfl) (by simp) ?_
        refine AllReadyH.cons (o:={ dst:=some 76,op:=_,type:=_,pos:=_,after:=_,guard:=_ }) rfl (fun KC hK => ?_) AllReadyH.nil
        go_simp
        refine hK.out _ _ (uh KA _ (uh MQa)) (fun hHeld3 => ?_)
        clear hK KC hHeld2
        (try simp only [Act.put,List.setIfInBounds_toArray,List.set_cons_zero,List.set_cons_succ])
        refine wpAnyH_ready (rs:=[11]) (by kernel_rfl) (by simp) ?_
        refine AllReadyH.cons (o:={ dst:=some 81,op:=_,type:=_,pos:=_,after:=_,guard:=_ }) rfl (fun KC hK => ?_) AllReadyH.nil
        refine step_append_num rfl (.tmp 76) (.tmp 80) 30 rfl u2.heap.size i1 Tryz.underlying30 hi1 y1 z1 b1 _ Gk (by simp [Act.eval]) (((uh HRI).below (bdrew8 _)).below (al1p _ _)) ⟨wr.heap.size,0,none⟩ 1 m (by simp [Act.eval]) (cell_new9 _ _ _) (by rw [uh HFL]; omega) (by simp; omega) ?_
        intro v7 w7 r7 g7
        rw [← uh HFA] at r7
        obtain ⟨p7,c7,hv7,_,_⟩:=r7.form
        subst hv7
        have RI7:=hide r7
        have GR7:=hide ((((uh HGQ).trans (gr_below (bdrew8 _) _)).trans (gr_below (al1p _ _) _)).andThen g7 (fun j hj => .inl ((uh HRI).lt9 j hj).1))
        have RN7:=hide ((((uh HRN).below (bdrew8 _)).below (al1p _ _)).gr g7 (uh hoff))
        have M7:Hid (NM w7 mb L):=hide ((uh M2).gr (uh GR7) (uh HGB))
        have k7:=(uh RN7).outAt (uh HLN)
        have f7:=(uh RN7).frozen (n * 40 + 38)
        have lt7:=(uh RN7).lt
        clear r7 g7
        refine hK.out _ _ (uh KA _ (uh M7)) (fun hHeld4 => ?_)
        clear hK KC hHeld3
        (try simp only [Act.put,List.setIfInBounds_toArray,List.set_cons_zero,List.set_cons_succ])
        refine wpAnyH_take (i:=12) (oi:={ dst:=some 82,op:=_,type:=_,pos:=_,after:=_,guard:=_ }) (v:=?vv11) rfl (by kernel_rfl) (by kernel_rfl) (by kernel_rfl) (fun _ _ _ h => h) (Or.inl ⟨by rfl,?hy11⟩) (by assumption) ?rest11
        case hy11 => (intro w hSw; (try dsimp only at hSw); go_simp; (first | done | with_reducible rfl))
        (try simp only [Act.put,List.setIfInBounds_toArray,List.set_cons_zero,List.set_cons_succ])
        refine wpAnyH_take (i:=13) (oi:={ dst:=some 83,op:=_,type:=_,pos:=_,after:=_,guard:=_ }) (v:=?vv12) rfl (by kernel_rfl) (by kernel_rfl) (by kernel_rfl) (fun _ _ _ h => h) (Or.inl ⟨by rfl,?hy12⟩) (by assumption) ?rest12
        case hy12 => (intro w hSw; (try dsimp only at hSw); go_simp; (first | done | with_reducible rfl))
        (try simp only [Act.put,List.setIfInBounds_toArray,List.set_cons_zero,List.set_cons_succ])
        refine wpAnyH_ready (rs:=[14]) (by kernel_rfl) (by simp) ?_
        refine AllReadyH.cons (o:={ dst:=none,op:=_,type:=_,pos:=_,after:=_,guard:=_ }) rfl (fun KC hK => ?_) AllReadyH.nil
        go_simp
        refine hK.out _ _ (uh KA _ ((uh M7).gr gr_set (uh HGB))) (fun hHeld5 => ?_)
        clear hK KC hHeld4
        (try simp only [Act.put,List.setIfInBounds_toArray,List.set_cons_zero,List.set_cons_succ])
        refine wpAnyH_done (by kernel_rfl) ?_ _
        go_wp2_with fail
        go_roundw
        case rel => exact ⟨k + 1,p7,c7,by go_num,by omega,hide (by rw [uh HF1]; exact (uh RN7).outPut (uh HLN)),hide (by rw [uh HF1]; exact (uh RI7).set9 (uh HG2)),hide ((uh GR7).trans gr_set)⟩
        case measure => simp [intOf]; omega
      ·have hi2:¬ (k:Int) < (y.outs.length:Int):=by omega
       have e0:k = y.outs.length:=by omega
       subst e0
       rw [List.take_length] at HRN HRI
       obtain ⟨z,hz⟩:∃ z,x10.withOut (y.outs.map (findG L)) q' c' = z:=⟨_,rfl⟩
       have GUW:Hid (u.grownBy wr (some g)):=hide (((gr_below (uh B5) _).trans (uh GRX)).trans (uh HGQ))
       have hgown:(Value.slice (some ⟨g,0,none⟩) nodes.length cap).ownBlock = some g:=rfl
       have ZIN:Hid (GnIn (fun b => w0.heap.size ≤ b ∧ (Value.slice (some ⟨g,0,none⟩) nodes.length cap).ownBlock ≠ some b) wr z):=hide (by
        rw [← hz,← uh HX10]
        have hm9:=(uh HON).2 _ (getD_mem9 (z:=noGnA) (uh HLN))
        have l1:=uh HG5
        have l2:=uh HG2
        have g0:=uh HG0
        refine gn_linked hm9 (gr_hold (uh GUW) (fun b hb => ?_)) (uh RI1) (gr_hold (uh HGQ) (fun b hb => ?_)) (uh HRI) (by rw [← uh HFI]; exact findG_wfs hLl _) (findG_wfs hLl _) (fun k hk => ⟨by omega,?_⟩) (fun k hk => ⟨by omega,?_⟩)
        ·rw [← hgown]; exact hb.2
        ·rw [← hgown]; exact hb.2
        ·rw [hgown]; intro e; simp only [Option.some.injEq] at e; omega
        ·rw [hgown]; intro e; simp only [Option.some.injEq] at e; omega)
       have ZD:Hid (z.d = linkG L n y.d):=hide (by
        have h9:=uh HD9
        rw [← hz,← uh HX10,← uh HFI]
        unfold GnA.d bareG at h9
        unfold GnA.d GnA.withOut GnA.withIn linkG
        injection h9 with a1 a2 a3 a4 a5
        rw [a1,a2,a5]
        rfl)
       have OZ:Hid (OwnE 51 40 gnCells GnIn w0 wr (.slice (some ⟨g,0,none⟩) nodes.length cap) (LN.set n z)):=hide (by
        refine ⟨?_,fun x hx => ?_⟩
        ·rw [hz] at HRN
         have:=(uh HRN).own gnWd (uh HG0) (uh BQ)
         rw [List.length_set,(uh HMN).1] at this
         exact this
        ·rcases List.mem_or_eq_of_mem_set hx with g1 | g1
         ·exact gnP.hold ((uh HON).2 x g1) (gr_hold (uh GUW) (fun b hb => by rw [← hgown]; exact hb.2))
         ·rw [g1]; exact uh ZIN)
       have HMZ:=hide (uh HSTEP z (uh ZD))
       have HBZ:Hid (∀ i,n + 1 ≤ i → i < nodes.length → Bare ((LN.set n z).getD i noGnA)):=hide (fun i h1 h2 => by
        have:=uh HBN i (by omega) h2
        rw [List.getD_eq_getElem?_getD,List.getElem?_set,if_neg (by omega),← List.getD_eq_getElem?_getD]
        exact this)
       have HIZ:Hid (∀ i,i < n + 1 → insG L ((nodes.map NoA.d).getD i ([],[],[],[],[])).2.2.1 = true):=hide (fun i hi => by
        by_cases e:i < n
        ·exact uh HIN i e
        ·have:i = n:=by omega
         subst this
         rw [uh HNA]; exact uh HIK)
       have HGZ:Hid (W.grownBy wr (Value.slice (some ⟨g,0,none⟩) nodes.length cap).ownBlock):=hide ((uh HGR).trans (uh GUW))
       have hln:=uh HLT
       clear hz hgown v3
       go_wp2_with fail
       go_roundw
       case rel => exact ⟨n + 1,LN.set n z,by go_num,by omega,OZ,HMZ,HBZ,HGZ,HIZ⟩
       case measure => simp [intOf]; omega
  ·have hi:¬ (n:Int) < (nodes.length:Int):=by omega
   have e0:n = nodes.length:=by omega
   subst e0
   have X2:Hid (Box u w.heap.size _ _):=hide (((uh HGR).block w.heap.size (uh XL) (fun e => by have:=uh HOV _ e.symm; omega)).trans (uh X))
   have x2:=(uh X2).cell
   have xl2:=(uh X2).lt
   have MU:Hid (NM u mb L):=hide ((uh MW).block ((uh HGR).block mb (uh MW).lt (fun e => by
    rcases (uh OW).1.rowN with ⟨ev,_⟩ | ⟨g',cap',ev,_,cur,hh,_⟩
    ·rw [ev] at e; cases e
    ·rw [ev] at e
     simp only [Value.ownBlock,Option.some.injEq] at e
     exact (uh MW).cells hh e)))
   have HRL:=hide (uh HRO (fun i hi => uh HIN i (by rw [List.length_map] at hi; exact hi)))
   have GU:Hid (w.grownBy u v.ownBlock):=hide ((gr_below (uh BW) _).trans (uh HGR))
   have HWU:=hide (uh GU).size
   have HU0:=hide (uh HON)
   have HMU:=hide (uh HMN)
   have HOUT:=hide (show nodes.length = nodes.length from rfl)
   clear HIN HBN hn hi hlt HGR
   go_wp2_with fail
   go_loopw [17,89] (fun vv iv wr => ∃ k:Nat,iv = .int .i64 k ∧ k ≤ out.length ∧ Hid (RowI wr u.heap.size vv ((out.take k).map fun o => findG L o.nm)) ∧ Hid (Below u.heap.size u wr) ∧ Hid ((out.take k).all (fun o => decide (0 ≤ findG L o.nm)) = true)) (fun _ iv _ => out.length - (intOf iv).toNat)
   case atStart => exact ⟨0,rfl,by omega,hide (RowI.nil _ _),hide (Below.refl _ _),hide rfl⟩
   case round =>
    obtain ⟨k,rfl,hk,HRI,BK,HAL⟩:=hrel
    have B0K:Hid (Below w0.heap.size w0 wr):=hide (bl_tr7 (uh BU) (bl_mono7 (uh BK) (uh BU).size))
    by_cases hlt2:k < out.length
    ·have hi2:(k:Int) < (out.length:Int):=by omega
     obtain ⟨bq,oq,hq,hbq,_⟩:=(uh HQ).2.1.lies (show 0 < out.length by omega)
     subst hq
     have A1:Hid (At8 wr bq (oq + k * 3) (vaCells (out.getD k noVaA))):=hide (Rc.at9 ((uh HQ).2.1.below (uh B0K)) hlt2)
     have HF2:=hide (map_take9 (fun o:VaA => findG L o.nm) out noVaA k hlt2)
     have HA2:Hid ((out.take (k + 1)).all (fun o => decide (0 ≤ findG L o.nm)) = ((out.take k).all (fun o => decide (0 ≤ findG L o.nm)) && decide (0 ≤ findG L (out.getD k noVaA).nm))):=hide (by
      rw [List.take_add_one,List.all_append,List.getD_eq_getElem?_getD,List.getElem?_eq_getElem hlt2]; simp)
     have HE:Hid (findG L (out.getD k noVaA).nm < 0 → R = (13,-1)):=hide (fun he => by
      rw [← uh HR,uh HRL,if_neg]
      intro ha
      rw [List.all_eq_true] at ha
      have:=ha (out.getD k noVaA).d (List.mem_map.2 ⟨_,getD_mem9 hlt2,rfl⟩)
      simp only [decide_eq_true_eq] at this
      have e9:(out.getD k noVaA).d.1 = (out.getD k noVaA).nm:=rfl
      rw [e9] at this; omega)
     have HFL:Hid (((out.take k).map fun o => findG L o.nm).length = k):=hide (by rw [List.length_map,List.length_take]; omega)
     have HB:Hid (isB (out.getD k noVaA).nm):=hide ((uh HQ).1 _ (getD_mem9 (z:=noVaA) hlt2)).1
     have HZ2:=hide ((uh HS0).2.2.2.2 _ (getD_mem9 (z:=noVaA) hlt2))
     have MQ:Hid (NM wr mb L):=hide ((uh MU).below (uh BK))
     generalize (out.getD k noVaA) = y at A1 HF2 HA2 HE HB HZ2
     obtain ⟨F1,hF1⟩:∃ F1,(out.take (k + 1)).map (fun o => findG L o.nm) = F1:=⟨_,rfl⟩
     have HF1:=hide hF1
     rw [hF1] at HF2
     clear hF1
     generalize ((out.take k).map fun o => findG L o.nm) = Fk at HRI HF2 HFL
     have hkey:=keyN_of (s:=y.nm) (by have:=uh HZ2; unfold maxLen; omega)
     unfold strV at hkey
     have kl:=(uh MQ).lt
     have hks:=(uh BK).size
     by_cases hf:0 ≤ findG L y.nm
     ·have HF:=hide hf
      obtain ⟨m,hm⟩:∃ m,findG L y.nm = m:=⟨_,rfl⟩
      have HM9:=hide hm
      have HF9:Hid (0 ≤ m):=hide (by rw [← hm]; exact hf)
      have HFA:Hid (F1 = Fk ++ [m]):=hide (by rw [← hm]; exact uh HF2)
      have HAL2:=hide (show ((out.take (k + 1)).all (fun o => decide (0 ≤ findG L o.nm)) = true) by rw [uh HA2,uh HAL,decide_eq_true hf]; rfl)
      clear hf hm
      go_wp2_with (first
       | (refine wpList_isLoad 63 rfl ?_; refine wpList_loadG aggValue rfl _ rfl rfl (vaWd.2.1 y) (uh A1) ?_)
       | (refine wpList_isStore 63 rfl ?_; (refine wpList_storeG aggValue rfl _ _ rfl rfl rfl (Box.new wr valueZ 63) (vaSize y) rfl (vaWd.ones y) ?_; intro w5 b5 s5 z5; have G5:=hide b5; have B5:Hid (Below wr.heap.size wr w5):=hide (bl_tr7 (al1p _ _) s5.1); have v0:w5.cell? ⟨wr.heap.size,0,none⟩ = some (.string (strOfNums y.nm)):=((uh G5).cell 0).trans rfl; have hb5:=(uh B5).size; obtain ⟨D,hO,hD⟩:=((uh MQ).below (uh B5)).look; have hh9:Maps.has D (keyN y.nm) = true:=(by rw [hD.has _ (uh HB)]; exact decide_eq_true (uh HF)); have hat9:=hide (hD.at' _ (uh HB)); clear hD b5 s5 z5))
       | (at_lookup; (refine wpList_lookup_own_ok_int _ rfl _ _ 68 rfl 9 3 .i64 law9 Tryz.underlying68 Tryz.underlying3 (zeroE9 _) mb _ D rfl hO _ _ rfl hkey ?_; intro c9 hat hwc; rw [hh9]; have e9:c9 = m:=lit_i64 (hat.symm.trans ((uh hat9 (by rw [uh HM9]; exact uh HF9)).trans (by rw [uh HM9]))); subst e9))
       | (at_builtin; (refine wpList_append_num rfl _ _ 30 rfl u.heap.size i1 Tryz.underlying30 hi1 y1 z1 b1 _ Fk rfl (((uh HRI).below (uh B5)).below (al1p _ _)) ⟨w5.heap.size,0,none⟩ 1 _ rfl (cell_new9 _ _ _) (by rw [uh HFL]; omega) (by simp; omega) ?_; intro v7 w7 r7 g7 l7; rw [← uh HFA] at r7; have RI7:=hide r7; have B7:Hid (Below u.heap.size u w7):=hide (gr_bel (bl_tr (bl_tr (uh BK) (uh B5)) (al1p _ _)) g7 (fun j hj => ((uh HRI).lt9 j hj).1)); clear r7 g7 l7)))
      go_roundw
      case rel => exact ⟨k + 1,by go_num,by omega,hide (by rw [uh HF1]; exact uh RI7),B7,HAL2⟩
      case measure => simp [intOf]; omega
     ·have HF:=hide hf
      have e0:R = (13,-1):=uh HE (by omega)
      subst e0
      clear hf
      go_wp2_with (first
       | (refine wpList_isLoad 63 rfl ?_; refine wpList_loadG aggValue rfl _ rfl rfl (vaWd.2.1 y) (uh A1) ?_)
       | (refine wpList_isStore 63 rfl ?_; (refine wpList_storeG aggValue rfl _ _ rfl rfl rfl (Box.new wr valueZ 63) (vaSize y) rfl (vaWd.ones y) ?_; intro w5 b5 s5 z5; have G5:=hide b5; have B5:Hid (Below wr.heap.size wr w5):=hide (bl_tr7 (al1p _ _) s5.1); have v0:w5.cell? ⟨wr.heap.size,0,none⟩ = some (.string (strOfNums y.nm)):=((uh G5).cell 0).trans rfl; have hb5:=(uh B5).size; obtain ⟨D,hO,hD⟩:=((uh MQ).below (uh B5)).look; have hh9:Maps.has D (keyN y.nm) = false:=(by rw [hD.has _ (uh HB)]; exact decide_eq_false (uh HF)); have hat9:=hide (hD.at' _ (uh HB)); clear hD b5 s5 z5))
       | (at_lookup; (refine wpList_lookup_own_ok_int _ rfl _ _ 68 rfl 9 3 .i64 law9 Tryz.underlying68 Tryz.underlying3 (zeroE9 _) mb _ D rfl hO _ _ rfl hkey ?_; intro c9 hat hwc; rw [hh9])))
      refine bodyPost_ret (results_tmp3 rfl _ _ _) rfl ⟨⟨_,rfl⟩,(uh GU).trans (gr_below (bl_tr (uh BK) (uh B5)) _)⟩
    ·have hi2:¬ (k:Int) < (out.length:Int):=by omega
     have e0:k = out.length:=by omega
     subst e0
     rw [List.take_length] at HRI HAL
     have e1:R = (0,0):=by
      rw [← uh HR,uh HRL,if_pos]
      rw [List.all_map]
      exact uh HAL
     subst e1
     go_wp2_with fail
     exact bodyPost_ret (results_tmp3 rfl _ _ _) rfl ⟨_,rfl,⟨LN,(uh HU0).below gnP (uh BK),uh HMU,(uh HRI).mono (uh HWU)⟩,(uh GU).trans (gr_below (uh BK) _)⟩
end Go.Proofs.YtbmmcbagdomonaaGreat
