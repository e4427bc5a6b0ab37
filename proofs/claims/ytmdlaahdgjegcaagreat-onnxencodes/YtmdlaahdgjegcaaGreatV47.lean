import Derived.Test.YtmdlaahdgjegcaaGreatV35
import Derived.Test.YtmdlaahdgjegcaaGreatV46
set_option maxRecDepth 100000
set_option maxHeartbeats 8000000
namespace Go.Proofs.YtmdlaahdgjegcaaGreat
open Go.RowKit
set_option linter.unusedVariables false
theorem sub_node:∀ t ∈ nodeTS,t ∈ modelTS:=fun t ht => by simp only [nodeTS,List.mem_cons,List.not_mem_nil,or_false] at ht; rcases ht with rfl | rfl | rfl | rfl | rfl | rfl <;> simp [modelTS]
theorem sub_ten:∀ t ∈ tenTS,t ∈ modelTS:=fun t ht => by simp only [tenTS,List.mem_cons,List.not_mem_nil,or_false] at ht; rcases ht with rfl | rfl | rfl | rfl <;> simp [modelTS]
theorem rb_dv {ds:List (List Int)} {xs:List VaA} (h:Rb noVaA (fun b x => x.d = valueC (fieldsP b).1) ds xs):xs.map VaA.d = ds.map fun b => valueC (fieldsP b).1:=rb_d (F:=fun _ => no3) (C:=fun b => valueC (fieldsP b).1) ⟨h.1,fun i hi _ => h.2 i hi⟩ (fun _ _ => rfl)
theorem graph_parts {l:List Fld} (h:graphCF l = no3):(∀ b ∈ dsV l 1,nodeCF (fieldsP b).1 = no3) ∧ (∀ b ∈ dsV l 5,tensorCF (fieldsP b).1 = no3):=by
 unfold graphCF at h
 simp only [no_iff] at h
 exact ⟨msf_no h.1.1.1.1.1.1.1.2,msf_no h.1.1.1.1.1.1.2⟩
theorem creadGraph_any (g:Nat) (q:Option Addr) (d:Nat) (L:List FA) (w:World) (hw:WstE g w) (h:MsIn g w q d L) :
  Calls Tryz.prog 63 #[msV q L.length d g] w fun e w' => Made (fun w x => MoIn 0 w x) (fun x => moV x) g (fun x => graphCF (L.map FA.f) = no3 → x.d = graphC (L.map FA.f)) (graphCF (L.map FA.f)) w e w':=by
 have HNB:Hid (isB (nameP (L.map FA.f) 2).1):=hide (text_isB (fun a ha => wf_isB (h.1.2 a ha).2.2.2.2.2.1))
 obtain ⟨l,hl⟩:∃ l,L.map FA.f = l:=⟨_,rfl⟩
 have B0:=hide (al2p w (Obj.cells #[.slice q L.length d,.pointer (some ⟨g,0,none⟩)] 58) (Obj.cells #[.int .i64 0,.string { data:=#[] },.slice none 0 0,.slice none 0 0,.slice none 0 0,.slice none 0 0] 29))
 have X0:=hide (Box.alloc (Box.new w #[.slice q L.length d,.pointer (some ⟨g,0,none⟩)] 58) (Obj.cells #[.int .i64 0,.string { data:=#[] },.slice none 0 0,.slice none 0 0,.slice none 0 0,.slice none 0 0] 29))
 have Y0:Hid (Box ((w.alloc (Obj.cells #[.slice q L.length d,.pointer (some ⟨g,0,none⟩)] 58)).alloc (Obj.cells #[.int .i64 0,.string { data:=#[] },.slice none 0 0,.slice none 0 0,.slice none 0 0,.slice none 0 0] 29)) (w.heap.size + 1) #[.int .i64 0,.string { data:=#[] },.slice none 0 0,.slice none 0 0,.slice none 0 0,.slice none 0 0] 29):=hide (by have h:=Box.new (w.alloc (Obj.cells #[.slice q L.length d,.pointer (some ⟨g,0,none⟩)] 58)) #[.int .i64 0,.string { data:=#[] },.slice none 0 0,.slice none 0 0,.slice none 0 0,.slice none 0 0] 29; rw [alloc_size6] at h; exact h)
 have HW:=hide hw
 have gl:=hw.lt
 have HM:=hide h
 have n1:w.heap.size ≠ g:=by omega
 clear hw h
 rw [hl] at HNB ⊢
 have HL0:=hide hl
 unfold msV
 have R0:=hide (RE.below (uh B0) (uh HW))
 have N0:=hide (Rn.refl ((uh HW).below (uh B0)))
 have HM0:=hide ((uh HM).stay (uh R0).1)
 have x0:=(uh X0).cell
 go_enter Tryz.func63,Tryz.ntmps63
 go_wp2_with fail
 generalize (w.alloc (Obj.cells #[.slice q L.length d,.pointer (some ⟨g,0,none⟩)] 58)).alloc (Obj.cells #[.int .i64 0,.string { data:=#[] },.slice none 0 0,.slice none 0 0,.slice none 0 0,.slice none 0 0] 29) = W0 at B0 X0 Y0 R0 N0 HM0 x0 ⊢
 have l0:=(uh Y0).lt
 have gl0:g < W0.heap.size:=by omega
 have C1:=hide (fun v (hn:Rx g W0 v) => clastm_any g q d L 15 2 v hn.wst (hn.ms (uh HM0)))
 have CO:=hide (fun is v (hn:Rx g W0 v) => cnote_odd g q L.length d is v hn.wst)
 rw [hl] at C1
 obtain ⟨SP,hSP⟩:∃ N,lastV l 15 2 = N:=⟨_,rfl⟩
 have HSP:=hide hSP
 rw [hSP] at C1
 clear hSP
 unfold msV at C1 CO
 refine (uh C1 _ (uh N0).x).mono ?_
 rintro e w1 ⟨fa,rfl,hq⟩
 obtain ⟨_,_,_,hr⟩:=uh hq
 obtain ⟨an,awr,ax,ad,aq,ac⟩:=fa
 have N1:=hide ((uh N0).re hr)
 have xa1:=fun o => ((uh N1).al o).cells1 (uh X0) n1
 clear hq hr
 unfold faV
 simp only
 go_wp2_with fail
 refine (uh CO _ _ ((uh N1).al (Obj.cells #[.int .i64 an,.int .i64 awr,.int .u64 ax,.slice aq ad.length ac] 148)).x).mono ?_
 rintro e w2 ⟨rfl,hr⟩
 have N2':=hide (((uh N1).al (Obj.cells #[.int .i64 an,.int .i64 awr,.int .u64 ax,.slice aq ad.length ac] 148)).re hr)
 have X2:=hide ((uh N2').box (uh X0) n1)
 have Y2:=hide ((uh N2').box (uh Y0) (by omega))
 have R2:=hide ((uh R0).trans (uh N2').1)
 have HM2:=hide ((uh HM0).stay (uh N2').1.1)
 have l2:=(uh N2').size
 have gl6:g < w2.heap.size:=by omega
 have N0':=hide (Rn.refl (uh N2').2).dr
 have N0a:=hide ((Rn.refl (uh N2').2).al (Obj.cells #[.int .i64 0,.string { data:=#[] },.slice none 0 0,.slice none 0 0,.slice none 0 0,.slice none 0 0] 29)).dr
 have C3:=hide (fun v (hn:Rx g w2 v) => cnam_any g q d L 2 v hn.wst (hn.ms (uh HM2)))
 have C4:=hide (fun v (hn:Rx g w2 v) => cmsgsNode_any g q d L 1 (fun b (x:NoA) => nodeCF (fieldsP b).1 = no3 → x.d = nodeC (fieldsP b).1) (fun b => nodeCF (fieldsP b).1) v hn.wst (hn.ms (uh HM2)) (fun u su wu b q' d' L' hm' hl' => (by
  have h1:=creadNode_any g q' d' L' u wu hm'
  rw [hl'] at h1
  exact h1)))
 have C5:=hide (fun v (hn:Rx g w2 v) => cmsgsInit_any g q d L 5 (fun b (x:InA) => tensorCF (fieldsP b).1 = no3 → x.d = tensorC (fieldsP b).1) (fun b => tensorCF (fieldsP b).1) v hn.wst (hn.ms (uh HM2)) (fun u su wu b q' d' L' hm' hl' => (by
  have h1:=creadTensor_any g q' d' L' u wu hm'
  rw [hl'] at h1
  exact h1)))
 have C6:=hide (fun v (hn:Rx g w2 v) => cmsgsValue_any g q d L 11 (fun b (x:VaA) => x.d = valueC (fieldsP b).1) (fun b => valueCF (fieldsP b).1) v hn.wst (hn.ms (uh HM2)) (fun u su wu b q' d' L' hm' hl' => (by
  have h1:=creadValue_any g q' d' L' u wu hm'
  rw [hl'] at h1
  exact h1)))
 have C7:=hide (fun v (hn:Rx g w2 v) => cmsgsValue_any g q d L 12 (fun b (x:VaA) => x.d = valueC (fieldsP b).1) (fun b => valueCF (fieldsP b).1) v hn.wst (hn.ms (uh HM2)) (fun u su wu b q' d' L' hm' hl' => (by
  have h1:=creadValue_any g q' d' L' u wu hm'
  rw [hl'] at h1
  exact h1)))
 have CL:=hide (fun size most v (hn:Rx g w2 v) => climit_any g q L.length d size most v hn.wst)
 rw [hl] at C3
 clear hl hr xa1 N0 N1
 have N0:=N0'
 obtain ⟨NM,hNM⟩:∃ N,nameP l 2 = N:=⟨_,rfl⟩
 have HNM:=hide hNM
 rw [hNM] at C3 HNB
 clear hNM
 unfold msV at C3 C4 C5 C6 C7 CL
 unfold strV at C3
 have x2:=(uh X2).cell
 go_wp2_with fail
 refine' cut7_8 _ (fun β F (b4:Nat) (xn:List NoA) (b5:Nat) (xc:List InA) (b6:Nat) (xp:List VaA) (b7:Nat) (xo:List VaA) => Hid (Rn g (f3 (f3 (f3 (f3 (f3 no3 NM.2) (f3 (bad3 ((allV (L.map FA.f) 1).any fun f => f.2.1 != 2)) (fAll ((dsV (L.map FA.f) 1).map fun b => f3 (fieldsP b).2 (nodeCF (fieldsP b).1))))) (f3 (bad3 ((allV (L.map FA.f) 5).any fun f => f.2.1 != 2)) (fAll ((dsV (L.map FA.f) 5).map fun b => f3 (fieldsP b).2 (tensorCF (fieldsP b).1))))) (f3 (bad3 ((allV (L.map FA.f) 11).any fun f => f.2.1 != 2)) (fAll ((dsV (L.map FA.f) 11).map fun b => f3 (fieldsP b).2 (valueCF (fieldsP b).1))))) (f3 (bad3 ((allV (L.map FA.f) 12).any fun f => f.2.1 != 2)) (fAll ((dsV (L.map FA.f) 12).map fun b => f3 (fieldsP b).2 (valueCF (fieldsP b).1))))) w2 F ∧ MoIn 0 F ⟨17,NM.1,xn,some ⟨b4,0,none⟩,xn.length,xc,some ⟨b5,0,none⟩,xc.length,xp,some ⟨b6,0,none⟩,xp.length,xo,some ⟨b7,0,none⟩,xo.length⟩ ∧ Box F β #[.int .i64 17,.string (strOfNums NM.1),.slice (some ⟨b4,0,none⟩) xn.length xn.length,.slice (some ⟨b5,0,none⟩) xc.length xc.length,.slice (some ⟨b6,0,none⟩) xp.length xp.length,.slice (some ⟨b7,0,none⟩) xo.length xo.length] 29 ∧ w2.heap.size ≤ β ∧ Rb noNoA (fun b (x:NoA) => nodeCF (fieldsP b).1 = no3 → x.d = nodeC (fieldsP b).1) (dsV (L.map FA.f) 1) xn ∧ Rb noInA (fun b (x:InA) => tensorCF (fieldsP b).1 = no3 → x.d = tensorC (fieldsP b).1) (dsV (L.map FA.f) 5) xc ∧ Rb noVaA (fun b (x:VaA) => x.d = valueC (fieldsP b).1) (dsV (L.map FA.f) 11) xp ∧ Rb noVaA (fun b (x:VaA) => x.d = valueC (fieldsP b).1) (dsV (L.map FA.f) 12) xo)) ?main ?kk
 case main =>
  intro key
  go_region_held3 (fun v => (∀ j,v.cell? ⟨w.heap.size,j,none⟩ = (#[.slice q L.length d,.pointer (some ⟨g,0,none⟩)]:Array Value)[j]?)) (first | with_reducible assumption | with_reducible exact Rn.cells1 (uh N5) (uh X2) n1 | with_reducible exact Rn.cells1 ((uh N5).al _) (uh X2) n1 | with_reducible exact Rn.cells1 (uh N4) (uh X2) n1 | with_reducible exact Rn.cells1 ((uh N4).al _) (uh X2) n1 | with_reducible exact Rn.cells1 (uh N3) (uh X2) n1 | with_reducible exact Rn.cells1 ((uh N3).al _) (uh X2) n1 | with_reducible exact Rn.cells1 (uh N2) (uh X2) n1 | with_reducible exact Rn.cells1 ((uh N2).al _) (uh X2) n1 | with_reducible exact Rn.cells1 (uh N1) (uh X2) n1 | with_reducible exact Rn.cells1 ((uh N1).al _) (uh X2) n1 | with_reducible exact Rn.cells1 (uh N0) (uh X2) n1 | with_reducible exact Rn.cells1 (uh N0a) (uh X2) n1)
   (first
    | (go_at_call 122; (have nx:=N4; clear nx; refine (uh C7 _ ?_).mono ?_; (focus (first | with_reducible exact (uh N4).x | with_reducible exact ((uh N4).al (Obj.cells #[.int .i64 0,.string { data:=#[] },.slice none 0 0,.slice none 0 0,.slice none 0 0,.slice none 0 0] 29)).x)); rintro e w7 ⟨b7,xo,rfl,hq⟩; obtain ⟨g1,g2,g3,g4,hr⟩:=uh hq; (first | (have N5:=hide ((uh N4).re hr); have T5:Hid (Stay g w6 w7):=hide hr.1) | (have N5:=hide (((uh N4).al (Obj.cells #[.int .i64 0,.string { data:=#[] },.slice none 0 0,.slice none 0 0,.slice none 0 0,.slice none 0 0] 29)).re hr); have T5:Hid (Stay g w6 w7):=hide ((Stay.below (al1p w6 _) (by have:=(uh N4).2.lt; omega)).trans hr.1))); (first | have V5:=hide (And.intro (hr.1.box (uh V4).1 (by have:=(uh V4).2; omega)) (uh V4).2) | have V5:=hide (And.intro (hr.1.box (Box.new w6 #[.int .i64 0,.string { data:=#[] },.slice none 0 0,.slice none 0 0,.slice none 0 0,.slice none 0 0] 29) (by have:=(uh N4).size; omega)) (uh N4).size) | skip); (first | (have vn:=(uh V5).1.cell; have vf:=(uh V5).1.frozen; have vz:=Rn.cells1 (Rn.store6 (uh N5) (Below.refl _ _) (uh V5).1 (uh V5).2 gl6 (.int .i64 17) (.string (strOfNums NM.1)) (.slice (some ⟨b4,0,none⟩) xn.length xn.length) (.slice (some ⟨b5,0,none⟩) xc.length xc.length) (.slice (some ⟨b6,0,none⟩) xp.length xp.length) (.slice (some ⟨b7,0,none⟩) xo.length xo.length)).1 (uh X2) n1) | skip); have l5:=(uh N5).size; have I7:=hide (And.intro (g1.small (uh HM2)) (And.intro g1 (And.intro g2 g3))); clear hq g1 g2 g3 g4; clear hr))
    | (go_at_call 122; (have nx:=N3; clear nx; refine (uh C6 _ ?_).mono ?_; (focus (first | with_reducible exact (uh N3).x | with_reducible exact ((uh N3).al (Obj.cells #[.int .i64 0,.string { data:=#[] },.slice none 0 0,.slice none 0 0,.slice none 0 0,.slice none 0 0] 29)).x)); rintro e w6 ⟨b6,xp,rfl,hq⟩; obtain ⟨g1,g2,g3,g4,hr⟩:=uh hq; (first | (have N4:=hide ((uh N3).re hr); have T4:Hid (Stay g w5 w6):=hide hr.1) | (have N4:=hide (((uh N3).al (Obj.cells #[.int .i64 0,.string { data:=#[] },.slice none 0 0,.slice none 0 0,.slice none 0 0,.slice none 0 0] 29)).re hr); have T4:Hid (Stay g w5 w6):=hide ((Stay.below (al1p w5 _) (by have:=(uh N3).2.lt; omega)).trans hr.1))); (first | have V4:=hide (And.intro (hr.1.box (uh V3).1 (by have:=(uh V3).2; omega)) (uh V3).2) | have V4:=hide (And.intro (hr.1.box (Box.new w5 #[.int .i64 0,.string { data:=#[] },.slice none 0 0,.slice none 0 0,.slice none 0 0,.slice none 0 0] 29) (by have:=(uh N3).size; omega)) (uh N3).size) | skip); have l4:=(uh N4).size; have I6:=hide (And.intro (g1.small (uh HM2)) (And.intro g1 (And.intro g2 g3))); clear hq g1 g2 g3 g4; clear hr))
    | (go_at_call 120; (have nx:=N2; clear nx; refine (uh C5 _ ?_).mono ?_; (focus (first | with_reducible exact (uh N2).x | with_reducible exact ((uh N2).al (Obj.cells #[.int .i64 0,.string { data:=#[] },.slice none 0 0,.slice none 0 0,.slice none 0 0,.slice none 0 0] 29)).x)); rintro e w5 ⟨b5,xc,rfl,hq⟩; obtain ⟨g1,g2,g3,g4,hr⟩:=uh hq; (first | (have N3:=hide ((uh N2).re hr); have T3:Hid (Stay g w4 w5):=hide hr.1) | (have N3:=hide (((uh N2).al (Obj.cells #[.int .i64 0,.string { data:=#[] },.slice none 0 0,.slice none 0 0,.slice none 0 0,.slice none 0 0] 29)).re hr); have T3:Hid (Stay g w4 w5):=hide ((Stay.below (al1p w4 _) (by have:=(uh N2).2.lt; omega)).trans hr.1))); (first | have V3:=hide (And.intro (hr.1.box (uh V2).1 (by have:=(uh V2).2; omega)) (uh V2).2) | have V3:=hide (And.intro (hr.1.box (Box.new w4 #[.int .i64 0,.string { data:=#[] },.slice none 0 0,.slice none 0 0,.slice none 0 0,.slice none 0 0] 29) (by have:=(uh N2).size; omega)) (uh N2).size) | skip); have l3:=(uh N3).size; have I5:=hide (And.intro (g1.small (uh HM2)) (And.intro g1 (And.intro g2 g3))); clear hq g1 g2 g3 g4; clear hr))
    | (go_at_call 118; (have nx:=N1; clear nx; refine (uh C4 _ ?_).mono ?_; (focus (first | with_reducible exact (uh N1).x | with_reducible exact ((uh N1).al (Obj.cells #[.int .i64 0,.string { data:=#[] },.slice none 0 0,.slice none 0 0,.slice none 0 0,.slice none 0 0] 29)).x)); rintro e w4 ⟨b4,xn,rfl,hq⟩; obtain ⟨g1,g2,g3,g4,hr⟩:=uh hq; (first | (have N2:=hide ((uh N1).re hr); have T2:Hid (Stay g w3 w4):=hide hr.1) | (have N2:=hide (((uh N1).al (Obj.cells #[.int .i64 0,.string { data:=#[] },.slice none 0 0,.slice none 0 0,.slice none 0 0,.slice none 0 0] 29)).re hr); have T2:Hid (Stay g w3 w4):=hide ((Stay.below (al1p w3 _) (by have:=(uh N1).2.lt; omega)).trans hr.1))); (first | have V2:=hide (And.intro (hr.1.box (uh V1).1 (by have:=(uh V1).2; omega)) (uh V1).2) | have V2:=hide (And.intro (hr.1.box (Box.new w3 #[.int .i64 0,.string { data:=#[] },.slice none 0 0,.slice none 0 0,.slice none 0 0,.slice none 0 0] 29) (by have:=(uh N1).size; omega)) (uh N1).size) | skip); have l2:=(uh N2).size; have I4:=hide (And.intro (g1.small (uh HM2)) (And.intro g1 (And.intro g2 g3))); clear hq g1 g2 g3 g4; clear hr))
    | (go_at_call 117; (have nx:=N0; clear nx; refine (uh C3 _ ?_).mono ?_; (focus (first | with_reducible exact (uh N0).x | with_reducible exact (uh N0a).x)); rintro e w3 ⟨rfl,hr⟩; (first | have N1:=hide ((uh N0).re hr) | have N1:=hide ((uh N0a).re hr)); (first | have V1:=hide (And.intro (hr.1.box ((Box.new w2 #[.int .i64 0,.string { data:=#[] },.slice none 0 0,.slice none 0 0,.slice none 0 0,.slice none 0 0] 29).below (bdrewp _)) (by omega)) (Nat.le_refl w2.heap.size)) | skip); have l1:=(uh N1).size; skip; clear hr)))
  ·have STO:=hide (And.intro ((uh N5).al (Obj.cells #[.int .i64 17,.string (strOfNums NM.1),.slice (some ⟨b4,0,none⟩) xn.length xn.length,.slice (some ⟨b5,0,none⟩) xc.length xc.length,.slice (some ⟨b6,0,none⟩) xp.length xp.length,.slice (some ⟨b7,0,none⟩) xo.length xo.length] 29)) (And.intro (Box.new w7 #[.int .i64 17,.string (strOfNums NM.1),.slice (some ⟨b4,0,none⟩) xn.length xn.length,.slice (some ⟨b5,0,none⟩) xc.length xc.length,.slice (some ⟨b6,0,none⟩) xp.length xp.length,.slice (some ⟨b7,0,none⟩) xo.length xo.length] 29) (fun (TS:List TypeId) (ht:¬ 29 ∈ TS) => (Kept.below (al1p w7 (Obj.cells #[.int .i64 17,.string (strOfNums NM.1),.slice (some ⟨b4,0,none⟩) xn.length xn.length,.slice (some ⟨b5,0,none⟩) xc.length xc.length,.slice (some ⟨b6,0,none⟩) xp.length xp.length,.slice (some ⟨b7,0,none⟩) xo.length xo.length] 29)):Kept TS 0 w7 _))))
   have k6:Hid (Kept modelTS 0 w6 w7):=hide ((uh T5).keptT (Nat.zero_le g) (uh N4).2 (by decide))
   have k5:Hid (Kept modelTS 0 w5 w7):=hide (((uh T4).keptT (Nat.zero_le g) (uh N3).2 (by decide)).trans (uh k6))
   have k4:Hid (Kept modelTS 0 w4 w7):=hide (((uh T3).keptT (Nat.zero_le g) (uh N2).2 (by decide)).trans (uh k5))
   have KK:=hide ((uh STO).2.2 modelTS (by decide))
   have hn0:MoIn 0 w7 ⟨17,NM.1,xn,some ⟨b4,0,none⟩,xn.length,xc,some ⟨b5,0,none⟩,xc.length,xp,some ⟨b6,0,none⟩,xp.length,xo,some ⟨b7,0,none⟩,xo.length⟩:=⟨rfl,uh HNB,⟨fun x hx => ((uh I4).2.2.1 x hx).kept sub_node (uh k4),((uh I4).2.2.2.rc noWd (by have:=(uh I4).1; omega)).kept (uh I4).2.2.2.tag (by simp [modelTS]) (uh k4),((uh I4).2.2.2.tag).kept (by simp [modelTS]) (uh k4)⟩,⟨fun x hx => ((uh I5).2.2.1 x hx).kept sub_ten (uh k5),((uh I5).2.2.2.rc inWd (by have:=(uh I5).1; omega)).kept (uh I5).2.2.2.tag (by simp [modelTS]) (uh k5),((uh I5).2.2.2.tag).kept (by simp [modelTS]) (uh k5)⟩,⟨fun x hx => ((uh I6).2.2.1 x hx).kept (by simp [modelTS]) (uh k6),((uh I6).2.2.2.rc vaWd (by have:=(uh I6).1; omega)).kept (uh I6).2.2.2.tag (by simp [modelTS]) (uh k6),((uh I6).2.2.2.tag).kept (by simp [modelTS]) (uh k6)⟩,(uh I7).2.2.1,(uh I7).2.2.2.rc vaWd (by have:=(uh I7).1; omega),(uh I7).2.2.2.tag⟩
   have KF:=hide (And.intro (uh STO).1 (And.intro (hn0.kept (uh KK)) (And.intro (uh STO).2.1 (And.intro (uh N5).size (And.intro (uh I4).2.1 (And.intro (uh I5).2.1 (And.intro (uh I6).2.1 (uh I7).2.1)))))))
   clear STO KK hn0 k4 k5 k6
   generalize (w7.alloc (Obj.cells #[.int .i64 17,.string (strOfNums NM.1),.slice (some ⟨b4,0,none⟩) xn.length xn.length,.slice (some ⟨b5,0,none⟩) xc.length xc.length,.slice (some ⟨b6,0,none⟩) xp.length xp.length,.slice (some ⟨b7,0,none⟩) xo.length xo.length] 29)) = F at KF ⊢; generalize w7.heap.size = β at KF ⊢; exact key β F b4 xn b5 xc b6 xp b7 xo KF
  ·have STO:=hide (Rn.store6 (uh N5) (Below.refl _ _) (uh V5).1 (uh V5).2 gl6 (.int .i64 17) (.string (strOfNums NM.1)) (.slice (some ⟨b4,0,none⟩) xn.length xn.length) (.slice (some ⟨b5,0,none⟩) xc.length xc.length) (.slice (some ⟨b6,0,none⟩) xp.length xp.length) (.slice (some ⟨b7,0,none⟩) xo.length xo.length))
   have k6:Hid (Kept modelTS 0 w6 w7):=hide ((uh T5).keptT (Nat.zero_le g) (uh N4).2 (by decide))
   have k5:Hid (Kept modelTS 0 w5 w7):=hide (((uh T4).keptT (Nat.zero_le g) (uh N3).2 (by decide)).trans (uh k6))
   have k4:Hid (Kept modelTS 0 w4 w7):=hide (((uh T3).keptT (Nat.zero_le g) (uh N2).2 (by decide)).trans (uh k5))
   have KK:=hide ((uh STO).2.2 modelTS (by decide))
   have hn0:MoIn 0 w7 ⟨17,NM.1,xn,some ⟨b4,0,none⟩,xn.length,xc,some ⟨b5,0,none⟩,xc.length,xp,some ⟨b6,0,none⟩,xp.length,xo,some ⟨b7,0,none⟩,xo.length⟩:=⟨rfl,uh HNB,⟨fun x hx => ((uh I4).2.2.1 x hx).kept sub_node (uh k4),((uh I4).2.2.2.rc noWd (by have:=(uh I4).1; omega)).kept (uh I4).2.2.2.tag (by simp [modelTS]) (uh k4),((uh I4).2.2.2.tag).kept (by simp [modelTS]) (uh k4)⟩,⟨fun x hx => ((uh I5).2.2.1 x hx).kept sub_ten (uh k5),((uh I5).2.2.2.rc inWd (by have:=(uh I5).1; omega)).kept (uh I5).2.2.2.tag (by simp [modelTS]) (uh k5),((uh I5).2.2.2.tag).kept (by simp [modelTS]) (uh k5)⟩,⟨fun x hx => ((uh I6).2.2.1 x hx).kept (by simp [modelTS]) (uh k6),((uh I6).2.2.2.rc vaWd (by have:=(uh I6).1; omega)).kept (uh I6).2.2.2.tag (by simp [modelTS]) (uh k6),((uh I6).2.2.2.tag).kept (by simp [modelTS]) (uh k6)⟩,(uh I7).2.2.1,(uh I7).2.2.2.rc vaWd (by have:=(uh I7).1; omega),(uh I7).2.2.2.tag⟩
   have KF:=hide (And.intro (uh STO).1 (And.intro (hn0.kept (uh KK)) (And.intro (uh STO).2.1 (And.intro (uh V5).2 (And.intro (uh I4).2.1 (And.intro (uh I5).2.1 (And.intro (uh I6).2.1 (uh I7).2.1)))))))
   clear STO KK hn0 k4 k5 k6
   exact key _ _ b4 xn b5 xc b6 xp b7 xo KF
  ·have STO:=hide (Rn.store6 (uh N5) (Below.refl _ _) (uh V5).1 (uh V5).2 gl6 (.int .i64 17) (.string (strOfNums NM.1)) (.slice (some ⟨b4,0,none⟩) xn.length xn.length) (.slice (some ⟨b5,0,none⟩) xc.length xc.length) (.slice (some ⟨b6,0,none⟩) xp.length xp.length) (.slice (some ⟨b7,0,none⟩) xo.length xo.length))
   have k6:Hid (Kept modelTS 0 w6 w7):=hide ((uh T5).keptT (Nat.zero_le g) (uh N4).2 (by decide))
   have k5:Hid (Kept modelTS 0 w5 w7):=hide (((uh T4).keptT (Nat.zero_le g) (uh N3).2 (by decide)).trans (uh k6))
   have k4:Hid (Kept modelTS 0 w4 w7):=hide (((uh T3).keptT (Nat.zero_le g) (uh N2).2 (by decide)).trans (uh k5))
   have KK:=hide ((uh STO).2.2 modelTS (by decide))
   have hn0:MoIn 0 w7 ⟨17,NM.1,xn,some ⟨b4,0,none⟩,xn.length,xc,some ⟨b5,0,none⟩,xc.length,xp,some ⟨b6,0,none⟩,xp.length,xo,some ⟨b7,0,none⟩,xo.length⟩:=⟨rfl,uh HNB,⟨fun x hx => ((uh I4).2.2.1 x hx).kept sub_node (uh k4),((uh I4).2.2.2.rc noWd (by have:=(uh I4).1; omega)).kept (uh I4).2.2.2.tag (by simp [modelTS]) (uh k4),((uh I4).2.2.2.tag).kept (by simp [modelTS]) (uh k4)⟩,⟨fun x hx => ((uh I5).2.2.1 x hx).kept sub_ten (uh k5),((uh I5).2.2.2.rc inWd (by have:=(uh I5).1; omega)).kept (uh I5).2.2.2.tag (by simp [modelTS]) (uh k5),((uh I5).2.2.2.tag).kept (by simp [modelTS]) (uh k5)⟩,⟨fun x hx => ((uh I6).2.2.1 x hx).kept (by simp [modelTS]) (uh k6),((uh I6).2.2.2.rc vaWd (by have:=(uh I6).1; omega)).kept (uh I6).2.2.2.tag (by simp [modelTS]) (uh k6),((uh I6).2.2.2.tag).kept (by simp [modelTS]) (uh k6)⟩,(uh I7).2.2.1,(uh I7).2.2.2.rc vaWd (by have:=(uh I7).1; omega),(uh I7).2.2.2.tag⟩
   have KF:=hide (And.intro (uh STO).1 (And.intro (hn0.kept (uh KK)) (And.intro (uh STO).2.1 (And.intro (uh V5).2 (And.intro (uh I4).2.1 (And.intro (uh I5).2.1 (And.intro (uh I6).2.1 (uh I7).2.1)))))))
   clear STO KK hn0 k4 k5 k6
   exact key _ _ b4 xn b5 xc b6 xp b7 xo KF
  ·have STO:=hide (Rn.store6 (uh N5) (Below.refl _ _) (uh V5).1 (uh V5).2 gl6 (.int .i64 17) (.string (strOfNums NM.1)) (.slice (some ⟨b4,0,none⟩) xn.length xn.length) (.slice (some ⟨b5,0,none⟩) xc.length xc.length) (.slice (some ⟨b6,0,none⟩) xp.length xp.length) (.slice (some ⟨b7,0,none⟩) xo.length xo.length))
   have k6:Hid (Kept modelTS 0 w6 w7):=hide ((uh T5).keptT (Nat.zero_le g) (uh N4).2 (by decide))
   have k5:Hid (Kept modelTS 0 w5 w7):=hide (((uh T4).keptT (Nat.zero_le g) (uh N3).2 (by decide)).trans (uh k6))
   have k4:Hid (Kept modelTS 0 w4 w7):=hide (((uh T3).keptT (Nat.zero_le g) (uh N2).2 (by decide)).trans (uh k5))
   have KK:=hide ((uh STO).2.2 modelTS (by decide))
   have hn0:MoIn 0 w7 ⟨17,NM.1,xn,some ⟨b4,0,none⟩,xn.length,xc,some ⟨b5,0,none⟩,xc.length,xp,some ⟨b6,0,none⟩,xp.length,xo,some ⟨b7,0,none⟩,xo.length⟩:=⟨rfl,uh HNB,⟨fun x hx => ((uh I4).2.2.1 x hx).kept sub_node (uh k4),((uh I4).2.2.2.rc noWd (by have:=(uh I4).1; omega)).kept (uh I4).2.2.2.tag (by simp [modelTS]) (uh k4),((uh I4).2.2.2.tag).kept (by simp [modelTS]) (uh k4)⟩,⟨fun x hx => ((uh I5).2.2.1 x hx).kept sub_ten (uh k5),((uh I5).2.2.2.rc inWd (by have:=(uh I5).1; omega)).kept (uh I5).2.2.2.tag (by simp [modelTS]) (uh k5),((uh I5).2.2.2.tag).kept (by simp [modelTS]) (uh k5)⟩,⟨fun x hx => ((uh I6).2.2.1 x hx).kept (by simp [modelTS]) (uh k6),((uh I6).2.2.2.rc vaWd (by have:=(uh I6).1; omega)).kept (uh I6).2.2.2.tag (by simp [modelTS]) (uh k6),((uh I6).2.2.2.tag).kept (by simp [modelTS]) (uh k6)⟩,(uh I7).2.2.1,(uh I7).2.2.2.rc vaWd (by have:=(uh I7).1; omega),(uh I7).2.2.2.tag⟩
   have KF:=hide (And.intro (uh STO).1 (And.intro (hn0.kept (uh KK)) (And.intro (uh STO).2.1 (And.intro (uh V5).2 (And.intro (uh I4).2.1 (And.intro (uh I5).2.1 (And.intro (uh I6).2.1 (uh I7).2.1)))))))
   clear STO KK hn0 k4 k5 k6
   exact key _ _ b4 xn b5 xc b6 xp b7 xo KF
  ·have STO:=hide (Rn.store6 (uh N5) (Below.refl _ _) (uh V5).1 (uh V5).2 gl6 (.int .i64 17) (.string (strOfNums NM.1)) (.slice (some ⟨b4,0,none⟩) xn.length xn.length) (.slice (some ⟨b5,0,none⟩) xc.length xc.length) (.slice (some ⟨b6,0,none⟩) xp.length xp.length) (.slice (some ⟨b7,0,none⟩) xo.length xo.length))
   have k6:Hid (Kept modelTS 0 w6 w7):=hide ((uh T5).keptT (Nat.zero_le g) (uh N4).2 (by decide))
   have k5:Hid (Kept modelTS 0 w5 w7):=hide (((uh T4).keptT (Nat.zero_le g) (uh N3).2 (by decide)).trans (uh k6))
   have k4:Hid (Kept modelTS 0 w4 w7):=hide (((uh T3).keptT (Nat.zero_le g) (uh N2).2 (by decide)).trans (uh k5))
   have KK:=hide ((uh STO).2.2 modelTS (by decide))
   have hn0:MoIn 0 w7 ⟨17,NM.1,xn,some ⟨b4,0,none⟩,xn.length,xc,some ⟨b5,0,none⟩,xc.length,xp,some ⟨b6,0,none⟩,xp.length,xo,some ⟨b7,0,none⟩,xo.length⟩:=⟨rfl,uh HNB,⟨fun x hx => ((uh I4).2.2.1 x hx).kept sub_node (uh k4),((uh I4).2.2.2.rc noWd (by have:=(uh I4).1; omega)).kept (uh I4).2.2.2.tag (by simp [modelTS]) (uh k4),((uh I4).2.2.2.tag).kept (by simp [modelTS]) (uh k4)⟩,⟨fun x hx => ((uh I5).2.2.1 x hx).kept sub_ten (uh k5),((uh I5).2.2.2.rc inWd (by have:=(uh I5).1; omega)).kept (uh I5).2.2.2.tag (by simp [modelTS]) (uh k5),((uh I5).2.2.2.tag).kept (by simp [modelTS]) (uh k5)⟩,⟨fun x hx => ((uh I6).2.2.1 x hx).kept (by simp [modelTS]) (uh k6),((uh I6).2.2.2.rc vaWd (by have:=(uh I6).1; omega)).kept (uh I6).2.2.2.tag (by simp [modelTS]) (uh k6),((uh I6).2.2.2.tag).kept (by simp [modelTS]) (uh k6)⟩,(uh I7).2.2.1,(uh I7).2.2.2.rc vaWd (by have:=(uh I7).1; omega),(uh I7).2.2.2.tag⟩
   have KF:=hide (And.intro (uh STO).1 (And.intro (hn0.kept (uh KK)) (And.intro (uh STO).2.1 (And.intro (uh V5).2 (And.intro (uh I4).2.1 (And.intro (uh I5).2.1 (And.intro (uh I6).2.1 (uh I7).2.1)))))))
   clear STO KK hn0 k4 k5 k6
   exact key _ _ b4 xn b5 xc b6 xp b7 xo KF
  ·have STO:=hide (Rn.store6 (uh N5) (Below.refl _ _) (uh V5).1 (uh V5).2 gl6 (.int .i64 17) (.string (strOfNums NM.1)) (.slice (some ⟨b4,0,none⟩) xn.length xn.length) (.slice (some ⟨b5,0,none⟩) xc.length xc.length) (.slice (some ⟨b6,0,none⟩) xp.length xp.length) (.slice (some ⟨b7,0,none⟩) xo.length xo.length))
   have k6:Hid (Kept modelTS 0 w6 w7):=hide ((uh T5).keptT (Nat.zero_le g) (uh N4).2 (by decide))
   have k5:Hid (Kept modelTS 0 w5 w7):=hide (((uh T4).keptT (Nat.zero_le g) (uh N3).2 (by decide)).trans (uh k6))
   have k4:Hid (Kept modelTS 0 w4 w7):=hide (((uh T3).keptT (Nat.zero_le g) (uh N2).2 (by decide)).trans (uh k5))
   have KK:=hide ((uh STO).2.2 modelTS (by decide))
   have hn0:MoIn 0 w7 ⟨17,NM.1,xn,some ⟨b4,0,none⟩,xn.length,xc,some ⟨b5,0,none⟩,xc.length,xp,some ⟨b6,0,none⟩,xp.length,xo,some ⟨b7,0,none⟩,xo.length⟩:=⟨rfl,uh HNB,⟨fun x hx => ((uh I4).2.2.1 x hx).kept sub_node (uh k4),((uh I4).2.2.2.rc noWd (by have:=(uh I4).1; omega)).kept (uh I4).2.2.2.tag (by simp [modelTS]) (uh k4),((uh I4).2.2.2.tag).kept (by simp [modelTS]) (uh k4)⟩,⟨fun x hx => ((uh I5).2.2.1 x hx).kept sub_ten (uh k5),((uh I5).2.2.2.rc inWd (by have:=(uh I5).1; omega)).kept (uh I5).2.2.2.tag (by simp [modelTS]) (uh k5),((uh I5).2.2.2.tag).kept (by simp [modelTS]) (uh k5)⟩,⟨fun x hx => ((uh I6).2.2.1 x hx).kept (by simp [modelTS]) (uh k6),((uh I6).2.2.2.rc vaWd (by have:=(uh I6).1; omega)).kept (uh I6).2.2.2.tag (by simp [modelTS]) (uh k6),((uh I6).2.2.2.tag).kept (by simp [modelTS]) (uh k6)⟩,(uh I7).2.2.1,(uh I7).2.2.2.rc vaWd (by have:=(uh I7).1; omega),(uh I7).2.2.2.tag⟩
   have KF:=hide (And.intro (uh STO).1 (And.intro (hn0.kept (uh KK)) (And.intro (uh STO).2.1 (And.intro (uh V5).2 (And.intro (uh I4).2.1 (And.intro (uh I5).2.1 (And.intro (uh I6).2.1 (uh I7).2.1)))))))
   clear STO KK hn0 k4 k5 k6
   exact key _ _ b4 xn b5 xc b6 xp b7 xo KF
 case kk =>
  intro β F b4 xn b5 xc b6 xp b7 xo KF
  obtain ⟨hN,hI,hV,lb,e1,e2,e3,e4⟩:=uh KF
  have N7:=hide hN
  have NI7:=hide hI
  have VB7:=hide hV
  have E1:=hide e1
  have E2:=hide e2
  have E3:=hide e3
  have E4:=hide e4
  have nb:β ≠ g:=by omega
  have v7:=(uh VB7).cell
  have x7:=(uh N7).cells1 (uh X2) n1
  clear KF hN hI hV e1 e2 e3 e4
  go_wp2_with fail
  refine (uh CL _ _ _ (uh N7).x).mono ?_
  rintro e w8 ⟨rfl,hr⟩
  have N8:=hide ((uh N7).re hr)
  have VB8:=hide (hr.1.box (uh VB7) nb)
  have NI8:=hide ((uh NI7).kept (hr.1.keptT (Nat.zero_le g) (uh N7).2 (by decide)))
  have v8:=(uh VB8).cell
  have x8:=(uh N8).cells1 (uh X2) n1
  clear hr
  go_wp2_with fail
  refine (uh CL _ _ _ (uh N8).x).mono ?_
  rintro e w9 ⟨rfl,hr⟩
  have N9:=hide ((uh N8).re hr)
  have VB9:=hide (hr.1.box (uh VB8) nb)
  have NI9:=hide ((uh NI8).kept (hr.1.keptT (Nat.zero_le g) (uh N8).2 (by decide)))
  have v9:=(uh VB9).cell
  have x9:=(uh N9).cells1 (uh X2) n1
  clear hr
  go_wp2_with fail
  refine (uh CL _ _ _ (uh N9).x).mono ?_
  rintro e w10 ⟨rfl,hr⟩
  have N10:=hide ((uh N9).re hr)
  have VB10:=hide (hr.1.box (uh VB9) nb)
  have NI10:=hide ((uh NI9).kept (hr.1.keptT (Nat.zero_le g) (uh N9).2 (by decide)))
  have v10:=(uh VB10).cell
  have x10:=(uh N10).cells1 (uh X2) n1
  clear hr
  go_wp2_with fail
  refine (uh CL _ _ _ (uh N10).x).mono ?_
  rintro e w11 ⟨rfl,hr⟩
  have N11:=hide ((uh R2).thenN ((uh N10).re hr))
  have VB11:=hide (hr.1.box (uh VB10) nb)
  have NI11:=hide ((uh NI10).kept (hr.1.keptT (Nat.zero_le g) (uh N10).2 (by decide)))
  have v11:=(uh VB11).cell
  have Y11:=hide (hr.1.box ((uh N10).box (uh Y2) (by omega)) (by omega))
  have y11:=(uh Y11).cell
  have z11:=(uh Y11).frozen
  clear hr v8 v9 v10 x8 x9 x10
  go_wp2_with fail
  have Y12:=hide ((uh Y11).set6 (.int .i64 17) (.string (strOfNums NM.1)) (.slice (some ⟨b4,0,none⟩) xn.length xn.length) (.slice (some ⟨b5,0,none⟩) xc.length xc.length) (.slice (some ⟨b6,0,none⟩) xp.length xp.length) (.slice (some ⟨b7,0,none⟩) xo.length xo.length))
  have NI12:=hide ((uh NI11).kept (Kept.set6 (uh Y11) (by decide) (by omega) (.int .i64 17) (.string (strOfNums NM.1)) (.slice (some ⟨b4,0,none⟩) xn.length xn.length) (.slice (some ⟨b5,0,none⟩) xc.length xc.length) (.slice (some ⟨b6,0,none⟩) xp.length xp.length) (.slice (some ⟨b7,0,none⟩) xo.length xo.length)))
  have R12:=hide ((uh N11).set6 (b:=w.heap.size + 1) (by omega) gl (.int .i64 17) (.string (strOfNums NM.1)) (.slice (some ⟨b4,0,none⟩) xn.length xn.length) (.slice (some ⟨b5,0,none⟩) xc.length xc.length) (.slice (some ⟨b6,0,none⟩) xp.length xp.length) (.slice (some ⟨b7,0,none⟩) xo.length xo.length))
  refine bodyPost_ret ?_ rfl ⟨⟨17,NM.1,xn,some ⟨b4,0,none⟩,xn.length,xc,some ⟨b5,0,none⟩,xc.length,xp,some ⟨b6,0,none⟩,xp.length,xo,some ⟨b7,0,none⟩,xo.length⟩,rfl,hide ⟨fun hc => ?_,uh NI12,(uh R12).1.eq (congrArg lev ?_)⟩⟩
  ·simp [results,Tryz.results63,go_sem,(uh Y12).cell,moV,moCells,strV]
  ·obtain ⟨f1,f2⟩:=graph_parts hc
   unfold graphC MoA.d
   rw [uh HNM]
   simp only
   have d1:xn.map NoA.d = (dsV l 1).map (fun b => nodeC (fieldsP b).1):=rb_d (z:=noNoA) (F:=fun b => nodeCF (fieldsP b).1) (C:=fun b => nodeC (fieldsP b).1) (by rw [← uh HL0]; exact uh E1) f1
   have d2:xc.map InA.d = (dsV l 5).map (fun b => tensorC (fieldsP b).1):=rb_d (z:=noInA) (F:=fun b => tensorCF (fieldsP b).1) (C:=fun b => tensorC (fieldsP b).1) (by rw [← uh HL0]; exact uh E2) f2
   have d3:xp.map VaA.d = (dsV l 11).map (fun b => valueC (fieldsP b).1):=rb_dv (by rw [← uh HL0]; exact uh E3)
   have d4:xo.map VaA.d = (dsV l 12).map (fun b => valueC (fieldsP b).1):=rb_dv (by rw [← uh HL0]; exact uh E4)
   rw [d1,d2,d3,d4]
  ·unfold graphCF msF
   rw [uh HNM,uh HSP,← uh HL0,← (uh E1).1,← (uh E2).1,← (uh E3).1,← (uh E4).1]
   simp only [f3_assoc,no_f3,dec64,dec1024]
end Go.Proofs.YtmdlaahdgjegcaaGreat
