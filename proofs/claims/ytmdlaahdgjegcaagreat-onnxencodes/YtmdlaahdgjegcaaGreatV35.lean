import Derived.Test.YtmdlaahdgjegcaaGreatV27
import Derived.Test.YtmdlaahdgjegcaaGreatV31
set_option maxRecDepth 100000
set_option maxHeartbeats 8000000
namespace Go.Proofs.YtmdlaahdgjegcaaGreat
open Go.RowKit
set_option linter.unusedVariables false
theorem mrow_ints {t:TypeId} {w:World} {b:Nat} {xs:List Int} (h:Mrow t i64c w b xs) (hx:∀ x ∈ xs,(Lit.int .i64 x).wf = true) (hl:xs.length ≤ 9223372036854775807):Ints .i64 w (some ⟨b,0,none⟩) xs.length xs :=
 ⟨Nat.le_refl _,hl,hx,fun _ => ⟨b,0,rfl,lt_of_block h,fun i hi => by
  have:=h.at i64Wd (z:=(0:Int)) (i:=i) (j:=0) hi rfl
  rw [Nat.mul_one] at this
  rw [Nat.zero_add]; exact this⟩,fun h => by cases h⟩
theorem rb_map {f:List Int → Int} {ds:List (List Int)} {xs:List Int} (h:Rb 0 (fun b x => x = f b) ds xs):xs = ds.map f:=by
 apply List.ext_getElem?
 intro i
 by_cases hi:i < ds.length
 ·have h1:=h.2 i hi
  rw [List.getElem?_map,List.getElem?_eq_getElem hi,List.getElem?_eq_getElem (by rw [h.1]; exact hi)]
  rw [List.getD_eq_getElem?_getD,List.getD_eq_getElem?_getD,List.getElem?_eq_getElem hi,List.getElem?_eq_getElem (by rw [h.1]; exact hi)] at h1
  simpa using h1
 ·rw [List.getElem?_eq_none (by rw [h.1]; omega),List.getElem?_eq_none (by rw [List.length_map]; omega)]
theorem creadValue_any (g:Nat) (q:Option Addr) (d:Nat) (L:List FA) (w:World) (hw:WstE g w) (h:MsIn g w q d L) :
  Calls Tryz.prog 123 #[msV q L.length d g] w fun e w' => Made (fun w x => VaIn 0 w x) (fun x => .agg (vaCells x).toArray) g (fun x => x.d = valueC (L.map FA.f)) (valueCF (L.map FA.f)) w e w':=by
 have HNB:Hid (isB (nameP (L.map FA.f) 1).1):=hide (text_isB (fun a ha => wf_isB (h.1.2 a ha).2.2.2.2.2.1))
 have CI:=hide (fun q d L num v (hv:WstE g v) (hm:MsIn g v q d L) => cinnerm_any g q d L num v hv hm)
 have CB:=hide (fun is v (hv:WstE g v) => cnote_bad g q L.length d is v hv)
 have CO:=hide (fun is v (hv:WstE g v) => cnote_odd g q L.length d is v hv)
 have CN:=hide (fun v (hv:WstE g v) (hm:MsIn g v q d L) => cnam_any g q d L 1 v hv hm)
 have CW:=hide (fun q d L v (hv:WstE g v) (hm:MsIn g v q d L) => cnum_any g q d L 1 v hv hm)
 have CM:=hide (fun q d L v (hv:WstE g v) (hm:MsIn g v q d L) => cmsgsInt_any g q d L 1 (fun b x => x = dimC b) dimCF v hv hm (fun u su wu b q' d' L' hm' hl' => by
  have h1:=creadDim_any g q' d' L' u wu hm'
  rw [hl'] at h1
  exact h1))
 have CC:=hide (fun p c ds v (hv:WstE g v) (hi:Ints .i64 v p c ds) => ccountm_any g q L.length d p c ds v hv hi)
 have CK:=hide (fun k v => cwidth_any k v)
 have HM:=hide h
 have HW:=hide hw
 have gl:=hw.lt
 obtain ⟨l0,hl0⟩:∃ l,L.map FA.f = l:=⟨_,rfl⟩
 have HL0:=hide hl0
 rw [hl0] at CN HNB ⊢
 clear hw h hl0
 unfold msV at CI CB CO CN CW CM CC ⊢
 unfold strV at CN
 have A0:=hide (al2p w (Obj.cells #[.slice q L.length d,.pointer (some ⟨g,0,none⟩)] 58) (Obj.cells #[.string { data:=#[] },.int .i64 0,.slice none 0 0] 52))
 have X0:=hide (Box.alloc (Box.new w #[.slice q L.length d,.pointer (some ⟨g,0,none⟩)] 58) (Obj.cells #[.string { data:=#[] },.int .i64 0,.slice none 0 0] 52))
 have Y0:Hid (Box ((w.alloc (Obj.cells #[.slice q L.length d,.pointer (some ⟨g,0,none⟩)] 58)).alloc (Obj.cells #[.string { data:=#[] },.int .i64 0,.slice none 0 0] 52)) (w.heap.size + 1) #[.string { data:=#[] },.int .i64 0,.slice none 0 0] 52):=hide (by have h:=Box.new (w.alloc (Obj.cells #[.slice q L.length d,.pointer (some ⟨g,0,none⟩)] 58)) #[.string { data:=#[] },.int .i64 0,.slice none 0 0] 52; rw [alloc_size6] at h; exact h)
 have R0:=hide (RE.below (uh A0) (uh HW))
 go_enter Tryz.func123,Tryz.ntmps123
 go_wp2_with fail
 refine (uh CI q d L 2 _ ((uh R0).wst (uh HW)) ((uh HM).stay (uh R0).1)).mono ?_
 rintro e w1 ⟨q1,d1,L1,rfl,hq⟩
 obtain ⟨h1,h2,hr⟩:=uh hq
 rw [uh HL0] at h1 hr
 have HL1:Hid (L1.map FA.f = inL l0 2):=hide h1
 have HM1:=hide h2
 have R1:=hide ((uh R0).trans hr)
 rw [no_f3] at R1
 have X1:=hide (hr.1.box (uh X0) (by omega))
 have Y1:=hide (hr.1.box (uh Y0) (by omega))
 have x1:=fun o => ((uh X1).alloc o).cell
 have l1:=(uh Y1).lt
 have W1:=hide (RE.below (al1p w1 (Obj.cells #[.slice q1 L1.length d1,.pointer (some ⟨g,0,none⟩)] 58)) ((uh R1).wst (uh HW)))
 have Z1:=hide (Box.new w1 #[.slice q1 L1.length d1,.pointer (some ⟨g,0,none⟩)] 58)
 clear hq h1 h2 hr
 rw [uh HL0]
 obtain ⟨I1,hI1⟩:∃ I,(messageP l0 2).1.2 = I:=⟨_,rfl⟩
 have HI1:Hid (inIs l0 2 = I1):=hide hI1
 rw [hI1]
 clear hI1
 go_wp2_with fail
 refine (uh CB _ _ ((uh W1).wst ((uh R1).wst (uh HW)))).mono ?_
 rintro e w2 ⟨rfl,hr⟩
 have R2:=hide (((uh R1).trans (uh W1)).trans hr)
 rw [f3_no] at R2
 have X2:=hide (hr.1.box ((uh X1).alloc _) (by omega))
 have Y2:=hide (hr.1.box ((uh Y1).alloc _) (by omega))
 have Z2:=hide (hr.1.box (uh Z1) (by omega))
 have z2:=(uh Z2).cell
 have HM2:=hide (((uh HM1).stay (uh W1).1).stay hr.1)
 have l2:=(uh Z2).lt
 clear hr x1
 go_wp2_with fail
 refine (uh CI q1 d1 L1 1 _ ((uh R2).wst (uh HW)) (uh HM2)).mono ?_
 rintro e w3 ⟨q3,d3,L3,rfl,hq⟩
 obtain ⟨h1,h2,hr⟩:=uh hq
 rw [uh HL1] at h1 hr
 have HL3:Hid (L3.map FA.f = inL (inL l0 2) 1):=hide h1
 have HM3:=hide h2
 have R3:=hide ((uh R2).trans hr)
 have X3:=hide (hr.1.box (uh X2) (by omega))
 have Y3:=hide (hr.1.box (uh Y2) (by omega))
 have x3:=fun o => ((uh X3).alloc o).cell
 have l3:=(uh Y3).lt
 have W3:=hide (RE.below (al1p w3 (Obj.cells #[.slice q3 L3.length d3,.pointer (some ⟨g,0,none⟩)] 58)) ((uh R3).wst (uh HW)))
 have Z3:=hide (Box.new w3 #[.slice q3 L3.length d3,.pointer (some ⟨g,0,none⟩)] 58)
 clear hq h1 h2 hr
 rw [uh HL1]
 obtain ⟨I3,hI3⟩:∃ I,(messageP (inL l0 2) 1).1.2 = I:=⟨_,rfl⟩
 have HI3:Hid (inIs (inL l0 2) 1 = I3):=hide hI3
 rw [hI3]
 clear hI3
 go_wp2_with fail
 refine (uh CO _ _ ((uh W3).wst ((uh R3).wst (uh HW)))).mono ?_
 rintro e w4 ⟨rfl,hr⟩
 have R4:=hide (((uh R3).trans (uh W3)).trans hr)
 rw [f3_no] at R4
 have X4:=hide (hr.1.box ((uh X3).alloc _) (by omega))
 have Y4:=hide (hr.1.box ((uh Y3).alloc _) (by omega))
 have Z4:=hide (hr.1.box (uh Z3) (by omega))
 have z4:=(uh Z4).cell
 have HM4:=hide (((uh HM3).stay (uh W3).1).stay hr.1)
 have l4:=(uh Z4).lt
 clear hr x3
 go_wp2_with fail
 refine (uh CI q3 d3 L3 2 _ ((uh R4).wst (uh HW)) (uh HM4)).mono ?_
 rintro e w5 ⟨q5,d5,L5,rfl,hq⟩
 obtain ⟨h1,h2,hr⟩:=uh hq
 rw [uh HL3] at h1 hr
 have HL5:Hid (L5.map FA.f = inL (inL (inL l0 2) 1) 2):=hide h1
 have HM5:=hide h2
 have R5:=hide ((uh R4).trans hr)
 have X5:=hide (hr.1.box (uh X4) (by omega))
 have Y5:=hide (hr.1.box (uh Y4) (by omega))
 have Z5:=hide (hr.1.box (uh Z4) (by omega))
 have HM5t:=hide ((uh HM4).stay hr.1)
 have x5:=fun o => ((uh X5).alloc o).cell
 have l5:=(uh Y5).lt
 have l5z:=(uh Z5).lt
 have W5:=hide (RE.below (al1p w5 (Obj.cells #[.slice q5 L5.length d5,.pointer (some ⟨g,0,none⟩)] 58)) ((uh R5).wst (uh HW)))
 have U5:=hide (Box.new w5 #[.slice q5 L5.length d5,.pointer (some ⟨g,0,none⟩)] 58)
 clear hq h1 h2 hr
 rw [uh HL3]
 obtain ⟨I5,hI5⟩:∃ I,(messageP (inL (inL l0 2) 1) 2).1.2 = I:=⟨_,rfl⟩
 have HI5:Hid (inIs (inL (inL l0 2) 1) 2 = I5):=hide hI5
 rw [hI5]
 clear hI5
 go_wp2_with fail
 refine (uh CO _ _ ((uh W5).wst ((uh R5).wst (uh HW)))).mono ?_
 rintro e w6 ⟨rfl,hr⟩
 have R6:=hide (((uh R5).trans (uh W5)).trans hr)
 rw [f3_no] at R6
 have X6:=hide (hr.1.box ((uh X5).alloc _) (by omega))
 have Y6:=hide (hr.1.box ((uh Y5).alloc _) (by omega))
 have Z6:=hide (hr.1.box ((uh Z5).alloc _) (by omega))
 have U6:=hide (hr.1.box (uh U5) (by omega))
 have x6:=(uh X6).cell
 have z6:=(uh Z6).cell
 have u6:=(uh U6).cell
 have l6:=(uh U6).lt
 have gl6:g < w6.heap.size:=by omega
 have n1:w.heap.size ≠ g:=by omega
 have n2:w3.heap.size ≠ g:=by omega
 have n3:w5.heap.size ≠ g:=by omega
 have HM60:=hide ((uh HM).stay (uh R6).1)
 have HM6:=hide (((uh HM5).stay (uh W5).1).stay hr.1)
 have HM6t:=hide (((uh HM5t).stay (uh W5).1).stay hr.1)
 have N0:=hide (Rn.refl ((uh R6).wst (uh HW))).dr
 have N0a:=hide ((Rn.refl ((uh R6).wst (uh HW))).al (Obj.cells #[.string { data:=#[] },.int .i64 0,.slice none 0 0] 52)).dr
 clear hr x5
 obtain ⟨NM,hNM⟩:∃ N,nameP l0 1 = N:=⟨_,rfl⟩
 have HNM:=hide hNM
 rw [hNM] at CN HNB
 clear hNM
 obtain ⟨KD,hKD⟩:∃ N,wholeP (inL (inL l0 2) 1) 1 = N:=⟨_,rfl⟩
 have HKD:=hide hKD
 have C1:=hide (fun v (hn:Rx g w6 v) => uh CN v hn.wst (hn.ms (uh HM60)))
 have C2:=hide (fun v (hn:Rx g w6 v) => (by have h1:=uh CW q3 d3 L3 v hn.wst (hn.ms (uh HM6t)); rw [uh HL3,hKD] at h1; exact h1:Calls Tryz.prog 57 #[.agg #[.slice q3 L3.length d3,.pointer (some ⟨g,0,none⟩)],.int .i64 1] v fun e w' => e = .returned (.int .i64 KD.1) ∧ RE g KD.2 v w'))
 have C3:=hide (fun v (hn:Rx g w6 v) => uh CM q5 d5 L5 v hn.wst (hn.ms (uh HM6)))
 clear hKD CW CM CN
 go_wp2_with fail
 refine' cut7_2 _ (fun β F (b9:Nat) (xs:List Int) => Hid (Rn g (f3 (f3 (f3 no3 NM.2) KD.2) (f3 (bad3 ((allV (L5.map FA.f) 1).any fun f => f.2.1 != 2)) (fAll ((dsV (L5.map FA.f) 1).map fun b => f3 (fieldsP b).2 (dimCF b))))) w6 F ∧ VaIn 0 F ⟨NM.1,KD.1,xs,some ⟨b9,0,none⟩,xs.length⟩ ∧ Box F β #[.string (strOfNums NM.1),.int .i64 KD.1,.slice (some ⟨b9,0,none⟩) xs.length xs.length] 52 ∧ w6.heap.size ≤ β ∧ xs = (dsV (inL (inL (inL l0 2) 1) 2) 1).map dimC)) ?main ?kk
 case main =>
  intro key
  go_region_held3 (fun v => (∀ j,v.cell? ⟨w.heap.size,j,none⟩ = (#[.slice q L.length d,.pointer (some ⟨g,0,none⟩)]:Array Value)[j]?) ∧ (∀ j,v.cell? ⟨w3.heap.size,j,none⟩ = (#[.slice q3 L3.length d3,.pointer (some ⟨g,0,none⟩)]:Array Value)[j]?) ∧ (∀ j,v.cell? ⟨w5.heap.size,j,none⟩ = (#[.slice q5 L5.length d5,.pointer (some ⟨g,0,none⟩)]:Array Value)[j]?)) (first | with_reducible assumption | with_reducible exact Rn.cells3 (uh N3) (uh X6) (uh Z6) (uh U6) n1 n2 n3 | with_reducible exact Rn.cells3 ((uh N3).al _) (uh X6) (uh Z6) (uh U6) n1 n2 n3 | with_reducible exact Rn.cells3 (uh N2) (uh X6) (uh Z6) (uh U6) n1 n2 n3 | with_reducible exact Rn.cells3 ((uh N2).al _) (uh X6) (uh Z6) (uh U6) n1 n2 n3 | with_reducible exact Rn.cells3 (uh N1) (uh X6) (uh Z6) (uh U6) n1 n2 n3 | with_reducible exact Rn.cells3 ((uh N1).al _) (uh X6) (uh Z6) (uh U6) n1 n2 n3 | with_reducible exact Rn.cells3 (uh N0) (uh X6) (uh Z6) (uh U6) n1 n2 n3 | with_reducible exact Rn.cells3 (uh N0a) (uh X6) (uh Z6) (uh U6) n1 n2 n3)
   (first
    | (go_at_call 188; (refine (uh C3 _ ?_).mono ?_; (focus (first | with_reducible exact (uh N2).x | with_reducible exact ((uh N2).al (Obj.cells #[.string { data:=#[] },.int .i64 0,.slice none 0 0] 52)).x)); rintro e w9 ⟨b9,xs,rfl,hq⟩; obtain ⟨g1,g2,g3,g4,hr⟩:=uh hq; (first | (have N3:=hide ((uh N2).re hr); have T3:Hid (Stay g w8 w9):=hide hr.1) | (have N3:=hide (((uh N2).al (Obj.cells #[.string { data:=#[] },.int .i64 0,.slice none 0 0] 52)).re hr); have T3:Hid (Stay g w8 w9):=hide ((Stay.below (al1p w8 _) (by have:=(uh N2).2.lt; omega)).trans hr.1))); (first | have V3:=hide (And.intro (hr.1.box (uh V2).1 (by have:=(uh V2).2; omega)) (uh V2).2) | have V3:=hide (And.intro (hr.1.box (Box.new w8 #[.string { data:=#[] },.int .i64 0,.slice none 0 0] 52) (by have:=(uh N2).size; omega)) (uh N2).size) | skip); (first | (have vn:=(uh V3).1.cell; have vf:=(uh V3).1.frozen; have vz:=Rn.cells3 (Rn.store3 (uh N3) (Below.refl _ _) (uh V3).1 (uh V3).2 gl6 (.string (strOfNums NM.1)) (.int .i64 KD.1) (.slice (some ⟨b9,0,none⟩) xs.length xs.length)).1 (uh X6) (uh Z6) (uh U6) n1 n2 n3) | skip); have l3:=(uh N3).size; have GL:=hide (g1.small (uh HM6)); rw [uh HL5] at g1; have G1:=hide (rb_map g1); have G2:=hide g2; have G3:=hide g3; clear hq g1 g2 g3 g4; clear hr))
    | (go_at_call 57; (refine (uh C2 _ ?_).mono ?_; (focus (first | with_reducible exact (uh N1).x | with_reducible exact ((uh N1).al (Obj.cells #[.string { data:=#[] },.int .i64 0,.slice none 0 0] 52)).x)); rintro e w8 ⟨rfl,hr⟩; (first | (have N2:=hide ((uh N1).re hr); have T2:Hid (Stay g w7 w8):=hide hr.1) | (have N2:=hide (((uh N1).al (Obj.cells #[.string { data:=#[] },.int .i64 0,.slice none 0 0] 52)).re hr); have T2:Hid (Stay g w7 w8):=hide ((Stay.below (al1p w7 _) (by have:=(uh N1).2.lt; omega)).trans hr.1))); (first | have V2:=hide (And.intro (hr.1.box (uh V1).1 (by have:=(uh V1).2; omega)) (uh V1).2) | have V2:=hide (And.intro (hr.1.box (Box.new w7 #[.string { data:=#[] },.int .i64 0,.slice none 0 0] 52) (by have:=(uh N1).size; omega)) (uh N1).size) | skip); have l2:=(uh N2).size; skip; clear hr))
    | (go_at_call 117; (refine (uh C1 _ ?_).mono ?_; (focus (first | with_reducible exact (uh N0).x | with_reducible exact (uh N0a).x)); rintro e w7 ⟨rfl,hr⟩; (first | have N1:=hide ((uh N0).re hr) | have N1:=hide ((uh N0a).re hr)); (first | have V1:=hide (And.intro (hr.1.box ((Box.new w6 #[.string { data:=#[] },.int .i64 0,.slice none 0 0] 52).below (bdrewp _)) (by omega)) (Nat.le_refl w6.heap.size)) | skip); have l1:=(uh N1).size; skip; clear hr)))
  ·have ST:=hide (And.intro ((uh N3).al (Obj.cells #[.string (strOfNums NM.1),.int .i64 KD.1,.slice (some ⟨b9,0,none⟩) xs.length xs.length] 52)) (And.intro (Box.new w9 #[.string (strOfNums NM.1),.int .i64 KD.1,.slice (some ⟨b9,0,none⟩) xs.length xs.length] 52) (fun (TS:List TypeId) (ht:¬ 52 ∈ TS) => (Kept.below (al1p w9 (Obj.cells #[.string (strOfNums NM.1),.int .i64 KD.1,.slice (some ⟨b9,0,none⟩) xs.length xs.length] 52)):Kept TS 0 w9 _))))
   have hv0:VaIn 0 w9 ⟨NM.1,KD.1,xs,some ⟨b9,0,none⟩,xs.length⟩:=⟨uh HNB,by rw [← uh HKD]; exact i64w_wf _,mrow_ints (uh G3) (uh G2) (by have:=(uh GL); omega),(uh G3).tag⟩
   have KF:=hide (And.intro (uh ST).1 (And.intro (hv0.kept (TS:=[3]) (by simp) ((uh ST).2.2 [3] (by decide))) (And.intro (uh ST).2.1 (And.intro (uh N3).size (uh G1)))))
   clear hv0 ST
   generalize (w9.alloc (Obj.cells #[.string (strOfNums NM.1),.int .i64 KD.1,.slice (some ⟨b9,0,none⟩) xs.length xs.length] 52)) = F at KF ⊢; generalize w9.heap.size = β at KF ⊢; exact key β F b9 xs KF
  ·have ST:=hide (Rn.store3 (uh N3) (Below.refl _ _) (uh V3).1 (uh V3).2 gl6 (.string (strOfNums NM.1)) (.int .i64 KD.1) (.slice (some ⟨b9,0,none⟩) xs.length xs.length))
   have hv0:VaIn 0 w9 ⟨NM.1,KD.1,xs,some ⟨b9,0,none⟩,xs.length⟩:=⟨uh HNB,by rw [← uh HKD]; exact i64w_wf _,mrow_ints (uh G3) (uh G2) (by have:=(uh GL); omega),(uh G3).tag⟩
   have KF:=hide (And.intro (uh ST).1 (And.intro (hv0.kept (TS:=[3]) (by simp) ((uh ST).2.2 [3] (by decide))) (And.intro (uh ST).2.1 (And.intro (uh V3).2 (uh G1)))))
   clear hv0 ST
   exact key _ _ b9 xs KF
  ·have ST:=hide (Rn.store3 (uh N3) (Below.refl _ _) (uh V3).1 (uh V3).2 gl6 (.string (strOfNums NM.1)) (.int .i64 KD.1) (.slice (some ⟨b9,0,none⟩) xs.length xs.length))
   have hv0:VaIn 0 w9 ⟨NM.1,KD.1,xs,some ⟨b9,0,none⟩,xs.length⟩:=⟨uh HNB,by rw [← uh HKD]; exact i64w_wf _,mrow_ints (uh G3) (uh G2) (by have:=(uh GL); omega),(uh G3).tag⟩
   have KF:=hide (And.intro (uh ST).1 (And.intro (hv0.kept (TS:=[3]) (by simp) ((uh ST).2.2 [3] (by decide))) (And.intro (uh ST).2.1 (And.intro (uh V3).2 (uh G1)))))
   clear hv0 ST
   exact key _ _ b9 xs KF
  ·have ST:=hide (Rn.store3 (uh N3) (Below.refl _ _) (uh V3).1 (uh V3).2 gl6 (.string (strOfNums NM.1)) (.int .i64 KD.1) (.slice (some ⟨b9,0,none⟩) xs.length xs.length))
   have hv0:VaIn 0 w9 ⟨NM.1,KD.1,xs,some ⟨b9,0,none⟩,xs.length⟩:=⟨uh HNB,by rw [← uh HKD]; exact i64w_wf _,mrow_ints (uh G3) (uh G2) (by have:=(uh GL); omega),(uh G3).tag⟩
   have KF:=hide (And.intro (uh ST).1 (And.intro (hv0.kept (TS:=[3]) (by simp) ((uh ST).2.2 [3] (by decide))) (And.intro (uh ST).2.1 (And.intro (uh V3).2 (uh G1)))))
   clear hv0 ST
   exact key _ _ b9 xs KF
 case kk =>
  intro β F b9 xs KF
  obtain ⟨N4,A4,V4,lb,hG1⟩:=uh KF
  have N4:=hide N4
  have A4:=hide A4
  have V4:=hide V4
  have G1:=hide hG1
  have nb:β ≠ g:=by omega
  have X4':=hide ((uh N4).box (uh X6) n1)
  have Y4':=hide ((uh N4).box (uh Y6) (by omega))
  clear KF hG1
  have v4:=(uh V4).cell
  have x4':=(uh X4').cell
  have M0:=hide (Rn.refl (uh N4).2).dr
  have CO1:=hide (fun is v (hn:Rx g F v) => uh CO is v hn.wst)
  go_wp2_with fail
  go_region_held3 (fun v => (∀ j,v.cell? ⟨w.heap.size,j,none⟩ = (#[.slice q L.length d,.pointer (some ⟨g,0,none⟩)]:Array Value)[j]?) ∧ (∀ j,v.cell? ⟨β,j,none⟩ = (#[.string (strOfNums NM.1),.int .i64 KD.1,.slice (some ⟨b9,0,none⟩) xs.length xs.length]:Array Value)[j]?)) (first | with_reducible exact Rn.cells2 (uh M1) (uh X4') (uh V4) n1 nb | with_reducible exact Rn.cells2 (uh M0) (uh X4') (uh V4) n1 nb)
   (first
    | (go_at_call 58; (refine (uh CO1 _ _ ?_).mono ?_; (focus (with_reducible exact (uh M0).x)); rintro e w10 ⟨rfl,hr⟩; have M1:=hide ((uh M0).re hr); skip; clear hr))
    | (go_at_call 138; (refine (uh CK _ _).mono ?_; rintro e v ⟨rfl,hv⟩; subst hv; skip)))
  have N5:=hide ((uh N4).1.thenN (uh M1))
  have A5:=hide ((uh A4).kept (TS:=[3]) (by simp) ((uh M1).1.1.keptT (Nat.zero_le g) (uh N4).2 (by decide)))
  have V5:=hide ((uh M1).box (uh V4) nb)
  have v5:=(uh V5).cell
  have X5':=hide ((uh M1).box (uh X4') n1)
  have x5':=(uh X5').cell
  have Y5':=hide ((uh M1).box (uh Y4') (by omega))
  clear v4 x4'
  go_wp2_with fail
  refine (uh CC _ _ xs _ (uh N5).2 (uh A5).2.2.1).mono ?_
  rintro e w11 ⟨rfl,hr⟩
  have N6:=hide ((uh R6).thenN ((uh N5).re hr))
  have A6:=hide ((uh A5).kept (TS:=[3]) (by simp) (hr.1.keptT (Nat.zero_le g) (uh N5).2 (by decide)))
  have V6:=hide (hr.1.box (uh V5) nb)
  have v6:=(uh V6).cell
  have Y6':=hide (hr.1.box (uh Y5') (by omega))
  have y6:=(uh Y6').cell
  have z6:=(uh Y6').frozen
  clear hr v5 x5'
  go_wp2_with fail
  have Y7:=hide ((uh Y6').set3 (.string (strOfNums NM.1)) (.int .i64 KD.1) (.slice (some ⟨b9,0,none⟩) xs.length xs.length))
  have A7:=hide ((uh A6).kept (TS:=[3]) (by simp) (Kept.set3 (uh Y6') (by decide) (by omega) (.string (strOfNums NM.1)) (.int .i64 KD.1) (.slice (some ⟨b9,0,none⟩) xs.length xs.length)))
  have R7:=hide ((uh N6).set3 (b:=w.heap.size + 1) (by omega) gl (.string (strOfNums NM.1)) (.int .i64 KD.1) (.slice (some ⟨b9,0,none⟩) xs.length xs.length)).1
  refine bodyPost_ret ?_ rfl ⟨⟨NM.1,KD.1,xs,some ⟨b9,0,none⟩,xs.length⟩,rfl,hide ⟨?_,uh A7,(uh R7).eq (congrArg lev ?_)⟩⟩
  ·simp [results,Tryz.results123,go_sem,(uh Y7).cell,vaCells,strV]
  ·rw [← uh HNM,← uh HKD,uh G1]; rfl
  ·unfold valueCF inF
   rw [← uh G1,uh HNM,uh HKD,uh HI1,uh HI3,uh HI5,uh HL5]
   simp only [f3_assoc,no_f3]
end Go.Proofs.YtmdlaahdgjegcaaGreat
