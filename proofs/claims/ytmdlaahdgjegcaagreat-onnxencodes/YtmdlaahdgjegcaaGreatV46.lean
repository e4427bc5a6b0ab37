import Derived.Test.YtmdlaahdgjegcaaGreatV31
import Derived.Test.YtmdlaahdgjegcaaGreatV45
set_option maxRecDepth 100000
set_option maxHeartbeats 8000000
namespace Go.Proofs.YtmdlaahdgjegcaaGreat
open Go.RowKit
set_option linter.unusedVariables false
theorem str_row {g b:Nat} {w:World} {xs:List Str} (h:Mrow 9 strC w b xs) (hl:xs.length ≤ 4194304):Ls strV w (some ⟨b,0,none⟩) xs.length xs ∧ Tag 9 0 w (some ⟨b,0,none⟩) xs.length :=
 ⟨⟨Nat.le_refl _,by omega,fun _ => ⟨b,0,rfl,lt_of_block h,fun i hi => by
  have:=h.at strWd (z:=([]:Str)) (i:=i) (j:=0) hi rfl
  rw [Nat.mul_one] at this
  rw [Nat.zero_add]; exact this⟩,fun h => by cases h⟩,h.tag⟩
theorem rb_same {ds xs:List Str} (h:Rb ([]:Str) (fun b x => x = b) ds xs):xs = ds:=by
 apply List.ext_getElem?
 intro i
 by_cases hi:i < ds.length
 ·have h1:=h.2 i hi
  rw [List.getElem?_eq_getElem hi,List.getElem?_eq_getElem (by rw [h.1]; exact hi)]
  rw [List.getD_eq_getElem?_getD,List.getD_eq_getElem?_getD,List.getElem?_eq_getElem hi,List.getElem?_eq_getElem (by rw [h.1]; exact hi)] at h1
  simpa using h1
 ·rw [List.getElem?_eq_none (by rw [h.1]; omega),List.getElem?_eq_none (by omega)]
theorem rb_d {α β:Type} {z:α} {dd:α → β} {F:List Int → F3} {C:List Int → β} {ds:List (List Int)} {xs:List α} (h:Rb z (fun b x => F b = no3 → dd x = C b) ds xs) (hf:∀ b ∈ ds,F b = no3):xs.map dd = ds.map C:=by
 apply List.ext_getElem?
 intro i
 by_cases hi:i < ds.length
 ·have h1:=h.2 i hi
  rw [List.getElem?_map,List.getElem?_map,List.getElem?_eq_getElem hi,List.getElem?_eq_getElem (by rw [h.1]; exact hi)]
  rw [List.getD_eq_getElem?_getD,List.getD_eq_getElem?_getD,List.getElem?_eq_getElem hi,List.getElem?_eq_getElem (by rw [h.1]; exact hi)] at h1
  simpa using h1 (hf _ (List.getElem_mem hi))
 ·rw [List.getElem?_eq_none (by rw [List.length_map,h.1]; omega),List.getElem?_eq_none (by rw [List.length_map]; omega)]
theorem msf_no {l:List Fld} {num:Int} {F:List Fld → F3} (h:msF l num F = no3):∀ b ∈ dsV l num,F (fieldsP b).1 = no3:=fun b hb => by
 unfold msF at h
 rw [no_iff,no_map] at h
 exact ((no_iff _ _).1 (h.2 b hb)).2
theorem node_attrs {l:List Fld} (h:nodeCF l = no3):∀ b ∈ dsV l 5,attrCF (fieldsP b).1 = no3:=by
 unfold nodeCF at h
 simp only [no_iff] at h
 exact msf_no h.1.1.1.1.1.1.2
theorem creadNode_any (g:Nat) (q:Option Addr) (d:Nat) (L:List FA) (w:World) (hw:WstE g w) (h:MsIn g w q d L) :
  Calls Tryz.prog 119 #[msV q L.length d g] w fun e w' => Made (fun w x => NoIn 0 w x) (fun x => .agg (noCells x).toArray) g (fun x => nodeCF (L.map FA.f) = no3 → x.d = nodeC (L.map FA.f)) (nodeCF (L.map FA.f)) w e w':=by
 have hok:=ms_ok h
 have HOB:Hid (isB (nameP (L.map FA.f) 4).1):=hide (text_isB (fun a ha => wf_isB (h.1.2 a ha).2.2.2.2.2.1))
 have HNB:Hid (isB (nameP (L.map FA.f) 3).1):=hide (text_isB (fun a ha => wf_isB (h.1.2 a ha).2.2.2.2.2.1))
 have HTB:Hid (isB (textP (L.map FA.f) 7).1):=hide (text_isB (fun a ha => wf_isB (h.1.2 a ha).2.2.2.2.2.1))
 obtain ⟨l,hl⟩:∃ l,L.map FA.f = l:=⟨_,rfl⟩
 have B0:=hide (al2p w (Obj.cells #[.slice q L.length d,.pointer (some ⟨g,0,none⟩)] 58) (Obj.cells #[.string { data:=#[] },.string { data:=#[] },.slice none 0 0,.slice none 0 0,.slice none 0 0] 75))
 have X0:=hide (Box.alloc (Box.new w #[.slice q L.length d,.pointer (some ⟨g,0,none⟩)] 58) (Obj.cells #[.string { data:=#[] },.string { data:=#[] },.slice none 0 0,.slice none 0 0,.slice none 0 0] 75))
 have Y0:Hid (Box ((w.alloc (Obj.cells #[.slice q L.length d,.pointer (some ⟨g,0,none⟩)] 58)).alloc (Obj.cells #[.string { data:=#[] },.string { data:=#[] },.slice none 0 0,.slice none 0 0,.slice none 0 0] 75)) (w.heap.size + 1) #[.string { data:=#[] },.string { data:=#[] },.slice none 0 0,.slice none 0 0,.slice none 0 0] 75):=hide (by have h:=Box.new (w.alloc (Obj.cells #[.slice q L.length d,.pointer (some ⟨g,0,none⟩)] 58)) #[.string { data:=#[] },.string { data:=#[] },.slice none 0 0,.slice none 0 0,.slice none 0 0] 75; rw [alloc_size6] at h; exact h)
 have HW:=hide hw
 have gl:=hw.lt
 have HM:=hide h
 have n1:w.heap.size ≠ g:=by omega
 clear hw h hok
 rw [hl] at HOB HNB HTB ⊢
 have HL0:=hide hl
 unfold msV
 have R0:=hide (RE.below (uh B0) (uh HW))
 have NW:=hide (Rn.refl ((uh HW).below (uh B0)))
 have HM0:=hide ((uh HM).stay (uh R0).1)
 have x0:=(uh X0).cell
 go_enter Tryz.func119,Tryz.ntmps119
 go_wp2_with fail
 generalize (w.alloc (Obj.cells #[.slice q L.length d,.pointer (some ⟨g,0,none⟩)] 58)).alloc (Obj.cells #[.string { data:=#[] },.string { data:=#[] },.slice none 0 0,.slice none 0 0,.slice none 0 0] 75) = W0 at B0 X0 Y0 R0 NW HM0 x0 ⊢
 have l0:=(uh Y0).lt
 have gl6:g < W0.heap.size:=by omega
 have N0:=hide (uh NW).dr
 have N0a:=hide ((uh NW).al (Obj.cells #[.string { data:=#[] },.string { data:=#[] },.slice none 0 0,.slice none 0 0,.slice none 0 0] 75)).dr
 have HNA:=hide (fun v (wv:WstE g v) p c b (hi:Ints .u8 v p c b) (ho:Off g p b.length) (_:b.length ≤ 4194304) => (cnamed_any g q L.length d p c b v wv hi.ls ho).mono (fun e w' (hh:e = .returned (strV b) ∧ RE g (big3 (decide (256 < b.length))) v w') => (⟨b,hh.1,hide ⟨rfl,wf_isB hi.2.2.1,hh.2⟩⟩:Made (fun w x => isB x) (fun x => strV x) g (fun x => x = b) (big3 (decide (256 < b.length))) v e w')))
 have C1:=hide (fun v (hn:Rx g W0 v) => cnam_any g q d L 4 v hn.wst (hn.ms (uh HM0)))
 have C2:=hide (fun v (hn:Rx g W0 v) => cnam_any g q d L 3 v hn.wst (hn.ms (uh HM0)))
 have C3:=hide (fun v (hn:Rx g W0 v) => crowsStm_any g q d L 1 172 (ent_of Tryz.func172 (by kernel_rfl) rfl) (msV q L.length d g) (fun b x => x = b) (fun b => big3 (decide (256 < b.length))) v hn.wst (hn.ms (uh HM0)) (fun u su wu p c b hi ho hl => uh HNA u wu p c b hi ho hl))
 have C4:=hide (fun v (hn:Rx g W0 v) => crowsStm_any g q d L 2 172 (ent_of Tryz.func172 (by kernel_rfl) rfl) (msV q L.length d g) (fun b x => x = b) (fun b => big3 (decide (256 < b.length))) v hn.wst (hn.ms (uh HM0)) (fun u su wu p c b hi ho hl => uh HNA u wu p c b hi ho hl))
 have C5:=hide (fun v (hn:Rx g W0 v) => cmsgsAttr_any g q d L 5 (fun b (x:AtA) => attrCF (fieldsP b).1 = no3 → x.d = attrC (fieldsP b).1) (fun b => attrCF (fieldsP b).1) v hn.wst (hn.ms (uh HM0)) (fun u su wu b q' d' L' hm' hl' => (by
  have h1:=creadAttr_any g q' d' L' u wu hm'
  rw [hl'] at h1
  exact h1)))
 have CL:=hide (fun size most v (hn:Rx g W0 v) => climit_any g q L.length d size most v hn.wst)
 have CB:=hide (fun is v (hn:Rx g W0 v) => cnote_bad g q L.length d is v hn.wst)
 rw [hl] at C1 C2
 clear hl
 obtain ⟨OP,hOP⟩:∃ N,nameP l 4 = N:=⟨_,rfl⟩
 have HOP:=hide hOP
 rw [hOP] at C1 HOB
 clear hOP
 obtain ⟨NM,hNM⟩:∃ N,nameP l 3 = N:=⟨_,rfl⟩
 have HNM:=hide hNM
 rw [hNM] at C2 HNB
 clear hNM
 obtain ⟨TX,hTX⟩:∃ N,textP l 7 = N:=⟨_,rfl⟩
 have HTX:=hide hTX
 rw [hTX] at HTB
 clear hTX
 have CIO:=hide (fun v => cisOwn_any TX.1 v (uh HTB))
 unfold msV at C1 C2 C3 C4 C5 CL CB
 unfold strV at C1 C2 CIO
 clear HNA
 refine' cut7_6 _ (fun β F (b3:Nat) (xi:List Str) (b4:Nat) (xo:List Str) (b5:Nat) (xa:List AtA) => Hid (Rn g (f3 (f3 (f3 (f3 (f3 no3 OP.2) NM.2) (f3 (bad3 ((allV (L.map FA.f) 1).any fun f => f.2.1 != 2)) (fAll ((dsV (L.map FA.f) 1).map fun b => big3 (decide (256 < b.length)))))) (f3 (bad3 ((allV (L.map FA.f) 2).any fun f => f.2.1 != 2)) (fAll ((dsV (L.map FA.f) 2).map fun b => big3 (decide (256 < b.length)))))) (f3 (bad3 ((allV (L.map FA.f) 5).any fun f => f.2.1 != 2)) (fAll ((dsV (L.map FA.f) 5).map fun b => f3 (fieldsP b).2 (attrCF (fieldsP b).1))))) W0 F ∧ NoIn 0 F ⟨OP.1,NM.1,xi,some ⟨b3,0,none⟩,xi.length,xo,some ⟨b4,0,none⟩,xo.length,xa,some ⟨b5,0,none⟩,xa.length⟩ ∧ Box F β #[.string (strOfNums OP.1),.string (strOfNums NM.1),.slice (some ⟨b3,0,none⟩) xi.length xi.length,.slice (some ⟨b4,0,none⟩) xo.length xo.length,.slice (some ⟨b5,0,none⟩) xa.length xa.length] 75 ∧ W0.heap.size ≤ β ∧ xi = dsV (L.map FA.f) 1 ∧ xo = dsV (L.map FA.f) 2 ∧ Rb noAtA (fun b (x:AtA) => attrCF (fieldsP b).1 = no3 → x.d = attrC (fieldsP b).1) (dsV (L.map FA.f) 5) xa)) ?main ?kk
 case main =>
  intro key
  refine wp_region_held_drew (S:=(fun v => (∀ j,v.cell? ⟨w.heap.size,j,none⟩ = (#[.slice q L.length d,.pointer (some ⟨g,0,none⟩)]:Array Value)[j]?))) (by kernel_rfl) ?_ (fun hHeld => ?_)
  ·exact Rn.cells1 (uh N0) (uh X0) n1
  refine wpAnyH_take (i:=0) (v:=?vv1) rfl (by kernel_rfl) (by kernel_rfl) (by kernel_rfl) (fun _ _ _ h => h) (Or.inl ⟨by rfl,?hy1⟩) (by assumption) ?rest1
  case hy1 => (intro w hSw; (try dsimp only at hSw); go_simp; (first | done | with_reducible rfl))
  (try simp only [Act.put])
  refine wpAnyH_take (i:=2) (v:=?vv2) rfl (by kernel_rfl) (by kernel_rfl) (by kernel_rfl) (fun _ _ _ h => h) (Or.inl ⟨by rfl,?hy2⟩) (by assumption) ?rest2
  case hy2 => (intro w hSw; (try dsimp only at hSw); go_simp; (first | done | with_reducible rfl))
  (try simp only [Act.put])
  refine wpAnyH_take (i:=4) (v:=?vv3) rfl (by kernel_rfl) (by kernel_rfl) (by kernel_rfl) (fun _ _ _ h => h) (Or.inl ⟨by rfl,?hy3⟩) (by assumption) ?rest3
  case hy3 => (intro w hSw; (try dsimp only at hSw); go_simp; (first | done | with_reducible rfl))
  (try simp only [Act.put])
  refine wpAnyH_take (i:=5) (v:=?vv4) rfl (by kernel_rfl) (by kernel_rfl) (by kernel_rfl) (fun _ _ _ h => h) (Or.inl ⟨by rfl,?hy4⟩) (by assumption) ?rest4
  case hy4 => (intro w hSw; (try dsimp only at hSw); go_simp; (first | done | with_reducible rfl))
  (try simp only [Act.put])
  refine wpAnyH_take (i:=6) (v:=?vv5) rfl (by kernel_rfl) (by kernel_rfl) (by kernel_rfl) (fun _ _ _ h => h) (Or.inl ⟨by rfl,?hy5⟩) (by assumption) ?rest5
  case hy5 => (intro w hSw; (try dsimp only at hSw); go_simp; (first | done | with_reducible rfl))
  (try simp only [Act.put])
  refine wpAnyH_take (i:=8) (v:=?vv6) rfl (by kernel_rfl) (by kernel_rfl) (by kernel_rfl) (fun _ _ _ h => h) (Or.inl ⟨by rfl,?hy6⟩) (by assumption) ?rest6
  case hy6 => (intro w hSw; (try dsimp only at hSw); go_simp; (first | done | with_reducible rfl))
  (try simp only [Act.put])
  refine wpAnyH_take (i:=9) (v:=?vv7) rfl (by kernel_rfl) (by kernel_rfl) (by kernel_rfl) (fun _ _ _ h => h) (Or.inl ⟨by rfl,?hy7⟩) (by assumption) ?rest7
  case hy7 => (intro w hSw; (try dsimp only at hSw); go_simp; (first | done | with_reducible rfl))
  (try simp only [Act.put])
  refine wpAnyH_take (i:=10) (v:=?vv8) rfl (by kernel_rfl) (by kernel_rfl) (by kernel_rfl) (fun _ _ _ h => h) (Or.inl ⟨by rfl,?hy8⟩) (by assumption) ?rest8
  case hy8 => (intro w hSw; (try dsimp only at hSw); go_simp; (first | done | with_reducible rfl))
  (try simp only [Act.put])
  refine wpAnyH_take (i:=12) (v:=?vv9) rfl (by kernel_rfl) (by kernel_rfl) (by kernel_rfl) (fun _ _ _ h => h) (Or.inl ⟨by rfl,?hy9⟩) (by assumption) ?rest9
  case hy9 => (intro w hSw; (try dsimp only at hSw); go_simp; (first | done | with_reducible rfl))
  (try simp only [Act.put])
  refine wpAnyH_ready (rs:=[1,15]) (by kernel_rfl) (by simp) ?_
  refine AllReadyH.cons rfl (fun K hK => ?_) ?_
  ·
   go_simp
   refine (uh C1 _ (uh N0).x).mono ?_
   rintro e w1 ⟨rfl,hr⟩
   have N1:=hide ((uh N0).re hr)
   skip
   clear hr
   refine hK.out _ _ ?_ (fun hHeld2 => ?_)
   ·exact Rn.cells1 (uh N1) (uh X0) n1
   clear hK K hHeld
   (try simp only)
   have hHeld:=hHeld2
   clear hHeld2
   refine wpAnyH_ready (rs:=[3,15]) (by kernel_rfl) (by simp) ?_
   refine AllReadyH.cons rfl (fun K hK => ?_) ?_
   ·
    go_simp
    refine (uh C2 _ (uh N1).x).mono ?_
    rintro e w2 ⟨rfl,hr⟩
    have N2:=hide ((uh N1).re hr)
    have T2:Hid (Stay g w1 w2):=hide hr.1
    skip
    clear hr
    refine hK.out _ _ ?_ (fun hHeld2 => ?_)
    ·exact Rn.cells1 (uh N2) (uh X0) n1
    clear hK K hHeld
    (try simp only)
    have hHeld:=hHeld2
    clear hHeld2
    refine wpAnyH_ready (rs:=[7,15]) (by kernel_rfl) (by simp) ?_
    refine AllReadyH.cons rfl (fun K hK => ?_) ?_
    ·
     go_simp
     refine (uh C3 _ (uh N2).x).mono ?_
     rintro e w3 ⟨b3,xi,rfl,hq⟩
     obtain ⟨g1,g2,g3,g4,hr⟩:=uh hq
     have N3:=hide ((uh N2).re hr)
     have T3:Hid (Stay g w2 w3):=hide hr.1
     have I3:=hide (And.intro (g1.small (uh HM0)) (And.intro g1 (And.intro g2 g3)))
     clear hq g1 g2 g3 g4
     clear hr
     refine hK.out _ _ ?_ (fun hHeld2 => ?_)
     ·exact Rn.cells1 (uh N3) (uh X0) n1
     clear hK K hHeld
     (try simp only)
     have hHeld:=hHeld2
     clear hHeld2
     refine wpAnyH_ready (rs:=[11,15]) (by kernel_rfl) (by simp) ?_
     refine AllReadyH.cons rfl (fun K hK => ?_) ?_
     ·
      go_simp
      refine (uh C4 _ (uh N3).x).mono ?_
      rintro e w4 ⟨b4,xo,rfl,hq⟩
      obtain ⟨g1,g2,g3,g4,hr⟩:=uh hq
      have N4:=hide ((uh N3).re hr)
      have T4:Hid (Stay g w3 w4):=hide hr.1
      have I4:=hide (And.intro (g1.small (uh HM0)) (And.intro g1 (And.intro g2 g3)))
      clear hq g1 g2 g3 g4
      clear hr
      refine hK.out _ _ ?_ (fun hHeld2 => ?_)
      ·exact Rn.cells1 (uh N4) (uh X0) n1
      clear hK K hHeld
      (try simp only)
      have hHeld:=hHeld2
      clear hHeld2
      refine wpAnyH_ready (rs:=[13,15]) (by kernel_rfl) (by simp) ?_
      refine AllReadyH.cons rfl (fun K hK => ?_) ?_
      ·
       go_simp
       refine (uh C5 _ (uh N4).x).mono ?_
       rintro e w5 ⟨b5,xa,rfl,hq⟩
       obtain ⟨g1,g2,g3,g4,hr⟩:=uh hq
       have N5:=hide ((uh N4).re hr)
       have T5:Hid (Stay g w4 w5):=hide hr.1
       have I5:=hide (And.intro (g1.small (uh HM0)) (And.intro g1 (And.intro g2 g3)))
       clear hq g1 g2 g3 g4
       clear hr
       refine hK.out _ _ ?_ (fun hHeld2 => ?_)
       ·exact Rn.cells1 (uh N5) (uh X0) n1
       clear hK K hHeld
       (try simp only)
       have hHeld:=hHeld2
       clear hHeld2
       refine wpAnyH_take (i:=14) (v:=?vv10) rfl (by kernel_rfl) (by kernel_rfl) (by kernel_rfl) (fun _ _ _ h => h) (Or.inl ⟨by rfl,?hy10⟩) (by assumption) ?rest10
       case hy10 => (intro w hSw; (try dsimp only at hSw); go_simp; (first | done | with_reducible rfl))
       (try simp only [Act.put])
       refine wpAnyH_ready (rs:=[15]) (by kernel_rfl) (by simp) ?_
       refine AllReadyH.cons rfl (fun K hK => ?_) ?_
       ·
        go_simp
        refine hK.out _ _ ?_ (fun hHeld2 => ?_)
        ·exact Rn.cells1 ((uh N5).al (Obj.cells #[.string { data:=#[] },.string { data:=#[] },.slice none 0 0,.slice none 0 0,.slice none 0 0] 75)) (uh X0) n1
        clear hK K hHeld
        (try simp only)
        have hHeld:=hHeld2
        clear hHeld2
        refine wpAnyH_ready (rs:=[16]) (by kernel_rfl) (by simp) ?_
        refine AllReadyH.cons rfl (fun K hK => ?_) ?_
        ·
         go_simp
         refine hK.out _ _ ?_ (fun hHeld2 => ?_)
         ·exact Rn.cells1 ((uh N5).al (Obj.cells #[.string (strOfNums OP.1),.string (strOfNums NM.1),.slice (some ⟨b3,0,none⟩) xi.length xi.length,.slice (some ⟨b4,0,none⟩) xo.length xo.length,.slice (some ⟨b5,0,none⟩) xa.length xa.length] 75)) (uh X0) n1
         clear hK K hHeld
         (try simp only)
         have hHeld:=hHeld2
         clear hHeld2
         refine wpAnyH_done (by kernel_rfl) ?_ _
         have STO:=hide (And.intro ((uh N5).al (Obj.cells #[.string (strOfNums OP.1),.string (strOfNums NM.1),.slice (some ⟨b3,0,none⟩) xi.length xi.length,.slice (some ⟨b4,0,none⟩) xo.length xo.length,.slice (some ⟨b5,0,none⟩) xa.length xa.length] 75)) (And.intro (Box.new w5 #[.string (strOfNums OP.1),.string (strOfNums NM.1),.slice (some ⟨b3,0,none⟩) xi.length xi.length,.slice (some ⟨b4,0,none⟩) xo.length xo.length,.slice (some ⟨b5,0,none⟩) xa.length xa.length] 75) (fun (TS:List TypeId) (ht:¬ 75 ∈ TS) => (Kept.below (al1p w5 (Obj.cells #[.string (strOfNums OP.1),.string (strOfNums NM.1),.slice (some ⟨b3,0,none⟩) xi.length xi.length,.slice (some ⟨b4,0,none⟩) xo.length xo.length,.slice (some ⟨b5,0,none⟩) xa.length xa.length] 75)):Kept TS 0 w5 _))))
         have k4:Hid (Kept nodeTS 0 w4 w5):=hide ((uh T5).keptT (Nat.zero_le g) (uh N4).2 (by decide))
         have k3:Hid (Kept nodeTS 0 w3 w5):=hide (((uh T4).keptT (Nat.zero_le g) (uh N3).2 (by decide)).trans (uh k4))
         have KK:=hide ((uh STO).2.2 nodeTS (by decide))
         have s3:=hide (str_row (g:=0) (uh I3).2.2.2 (uh I3).1)
         have s4:=hide (str_row (g:=0) (uh I4).2.2.2 (uh I4).1)
         have hn0:NoIn 0 w5 ⟨OP.1,NM.1,xi,some ⟨b3,0,none⟩,xi.length,xo,some ⟨b4,0,none⟩,xo.length,xa,some ⟨b5,0,none⟩,xa.length⟩:=⟨uh HOB,uh HNB,⟨(uh I3).2.2.1,(uh s3).1.kept (uh s3).2 (by simp [nodeTS]) (uh k3),(uh s3).2.kept (by simp [nodeTS]) (uh k3)⟩,⟨(uh I4).2.2.1,(uh s4).1.kept (uh s4).2 (by simp [nodeTS]) (uh k4),(uh s4).2.kept (by simp [nodeTS]) (uh k4)⟩,(uh I5).2.2.1,(uh I5).2.2.2.rc atWd (by have:=(uh I5).1; omega),(uh I5).2.2.2.tag⟩
         have KF:=hide (And.intro (uh STO).1 (And.intro (hn0.kept (fun t h => h) (uh KK)) (And.intro (uh STO).2.1 (And.intro (uh N5).size (And.intro (rb_same (uh I3).2.1) (And.intro (rb_same (uh I4).2.1) (uh I5).2.1))))))
         clear STO KK hn0 k3 k4
         generalize (w5.alloc (Obj.cells #[.string (strOfNums OP.1),.string (strOfNums NM.1),.slice (some ⟨b3,0,none⟩) xi.length xi.length,.slice (some ⟨b4,0,none⟩) xo.length xo.length,.slice (some ⟨b5,0,none⟩) xa.length xa.length] 75)) = F at KF ⊢; generalize w5.heap.size = β at KF ⊢; exact key β F b3 xi b4 xo b5 xa KF
        exact AllReadyH.nil
       exact AllReadyH.nil
      refine AllReadyH.cons rfl (fun K hK => ?_) ?_
      ·
       go_simp
       refine hK.out _ _ ?_ (fun hHeld2 => ?_)
       ·exact Rn.cells1 ((uh N4).al (Obj.cells #[.string { data:=#[] },.string { data:=#[] },.slice none 0 0,.slice none 0 0,.slice none 0 0] 75)) (uh X0) n1
       clear hK K hHeld
       (try simp only)
       have hHeld:=hHeld2
       clear hHeld2
       refine wpAnyH_ready (rs:=[13]) (by kernel_rfl) (by simp) ?_
       refine AllReadyH.cons rfl (fun K hK => ?_) ?_
       ·
        go_simp
        refine (uh C5 _ ((uh N4).al (Obj.cells #[.string { data:=#[] },.string { data:=#[] },.slice none 0 0,.slice none 0 0,.slice none 0 0] 75)).x).mono ?_
        rintro e w5 ⟨b5,xa,rfl,hq⟩
        obtain ⟨g1,g2,g3,g4,hr⟩:=uh hq
        have N5:=hide (((uh N4).al (Obj.cells #[.string { data:=#[] },.string { data:=#[] },.slice none 0 0,.slice none 0 0,.slice none 0 0] 75)).re hr)
        have T5:Hid (Stay g w4 w5):=hide ((Stay.below (al1p w4 _) (by have:=(uh N4).2.lt; omega)).trans hr.1)
        have V5:=hide (And.intro (hr.1.box (Box.new w4 #[.string { data:=#[] },.string { data:=#[] },.slice none 0 0,.slice none 0 0,.slice none 0 0] 75) (by have:=(uh N4).size; omega)) (show W0.heap.size ≤ w4.heap.size from (uh N4).size))
        have I5:=hide (And.intro (g1.small (uh HM0)) (And.intro g1 (And.intro g2 g3)))
        clear hq g1 g2 g3 g4
        clear hr
        refine hK.out _ _ ?_ (fun hHeld2 => ?_)
        ·exact Rn.cells1 (uh N5) (uh X0) n1
        clear hK K hHeld
        (try simp only)
        have hHeld:=hHeld2
        clear hHeld2
        refine wpAnyH_take (i:=14) (v:=?vv11) rfl (by kernel_rfl) (by kernel_rfl) (by kernel_rfl) (fun _ _ _ h => h) (Or.inl ⟨by rfl,?hy11⟩) (by assumption) ?rest11
        case hy11 => (intro w hSw; (try dsimp only at hSw); go_simp; (first | done | with_reducible rfl))
        (try simp only [Act.put])
        refine wpAnyH_ready (rs:=[16]) (by kernel_rfl) (by simp) ?_
        refine AllReadyH.cons rfl (fun K hK => ?_) ?_
        ·
         have vn:=(uh V5).1.cell
         have vf:=(uh V5).1.frozen
         go_simp
         refine hK.out _ _ ?_ (fun hHeld2 => ?_)
         ·exact Rn.cells1 (Rn.store5 (uh N5) (Below.refl _ _) (uh V5).1 (uh V5).2 gl6 (.string (strOfNums OP.1)) (.string (strOfNums NM.1)) (.slice (some ⟨b3,0,none⟩) xi.length xi.length) (.slice (some ⟨b4,0,none⟩) xo.length xo.length) (.slice (some ⟨b5,0,none⟩) xa.length xa.length)).1 (uh X0) n1
         clear hK K hHeld
         (try simp only)
         have hHeld:=hHeld2
         clear hHeld2
         refine wpAnyH_done (by kernel_rfl) ?_ _
         have STO:=hide (Rn.store5 (uh N5) (Below.refl _ _) (uh V5).1 (uh V5).2 gl6 (.string (strOfNums OP.1)) (.string (strOfNums NM.1)) (.slice (some ⟨b3,0,none⟩) xi.length xi.length) (.slice (some ⟨b4,0,none⟩) xo.length xo.length) (.slice (some ⟨b5,0,none⟩) xa.length xa.length))
         have k4:Hid (Kept nodeTS 0 w4 w5):=hide ((uh T5).keptT (Nat.zero_le g) (uh N4).2 (by decide))
         have k3:Hid (Kept nodeTS 0 w3 w5):=hide (((uh T4).keptT (Nat.zero_le g) (uh N3).2 (by decide)).trans (uh k4))
         have KK:=hide ((uh STO).2.2 nodeTS (by decide))
         have s3:=hide (str_row (g:=0) (uh I3).2.2.2 (uh I3).1)
         have s4:=hide (str_row (g:=0) (uh I4).2.2.2 (uh I4).1)
         have hn0:NoIn 0 w5 ⟨OP.1,NM.1,xi,some ⟨b3,0,none⟩,xi.length,xo,some ⟨b4,0,none⟩,xo.length,xa,some ⟨b5,0,none⟩,xa.length⟩:=⟨uh HOB,uh HNB,⟨(uh I3).2.2.1,(uh s3).1.kept (uh s3).2 (by simp [nodeTS]) (uh k3),(uh s3).2.kept (by simp [nodeTS]) (uh k3)⟩,⟨(uh I4).2.2.1,(uh s4).1.kept (uh s4).2 (by simp [nodeTS]) (uh k4),(uh s4).2.kept (by simp [nodeTS]) (uh k4)⟩,(uh I5).2.2.1,(uh I5).2.2.2.rc atWd (by have:=(uh I5).1; omega),(uh I5).2.2.2.tag⟩
         have KF:=hide (And.intro (uh STO).1 (And.intro (hn0.kept (fun t h => h) (uh KK)) (And.intro (uh STO).2.1 (And.intro (uh V5).2 (And.intro (rb_same (uh I3).2.1) (And.intro (rb_same (uh I4).2.1) (uh I5).2.1))))))
         clear STO KK hn0 k3 k4
         exact key _ _ b3 xi b4 xo b5 xa KF
        exact AllReadyH.nil
       exact AllReadyH.nil
      exact AllReadyH.nil
     refine AllReadyH.cons rfl (fun K hK => ?_) ?_
     ·
      go_simp
      refine hK.out _ _ ?_ (fun hHeld2 => ?_)
      ·exact Rn.cells1 ((uh N3).al (Obj.cells #[.string { data:=#[] },.string { data:=#[] },.slice none 0 0,.slice none 0 0,.slice none 0 0] 75)) (uh X0) n1
      clear hK K hHeld
      (try simp only)
      have hHeld:=hHeld2
      clear hHeld2
      refine wpAnyH_ready (rs:=[11]) (by kernel_rfl) (by simp) ?_
      refine AllReadyH.cons rfl (fun K hK => ?_) ?_
      ·
       go_simp
       refine (uh C4 _ ((uh N3).al (Obj.cells #[.string { data:=#[] },.string { data:=#[] },.slice none 0 0,.slice none 0 0,.slice none 0 0] 75)).x).mono ?_
       rintro e w4 ⟨b4,xo,rfl,hq⟩
       obtain ⟨g1,g2,g3,g4,hr⟩:=uh hq
       have N4:=hide (((uh N3).al (Obj.cells #[.string { data:=#[] },.string { data:=#[] },.slice none 0 0,.slice none 0 0,.slice none 0 0] 75)).re hr)
       have T4:Hid (Stay g w3 w4):=hide ((Stay.below (al1p w3 _) (by have:=(uh N3).2.lt; omega)).trans hr.1)
       have V4:=hide (And.intro (hr.1.box (Box.new w3 #[.string { data:=#[] },.string { data:=#[] },.slice none 0 0,.slice none 0 0,.slice none 0 0] 75) (by have:=(uh N3).size; omega)) (show W0.heap.size ≤ w3.heap.size from (uh N3).size))
       have I4:=hide (And.intro (g1.small (uh HM0)) (And.intro g1 (And.intro g2 g3)))
       clear hq g1 g2 g3 g4
       clear hr
       refine hK.out _ _ ?_ (fun hHeld2 => ?_)
       ·exact Rn.cells1 (uh N4) (uh X0) n1
       clear hK K hHeld
       (try simp only)
       have hHeld:=hHeld2
       clear hHeld2
       refine wpAnyH_ready (rs:=[13]) (by kernel_rfl) (by simp) ?_
       refine AllReadyH.cons rfl (fun K hK => ?_) ?_
       ·
        go_simp
        refine (uh C5 _ (uh N4).x).mono ?_
        rintro e w5 ⟨b5,xa,rfl,hq⟩
        obtain ⟨g1,g2,g3,g4,hr⟩:=uh hq
        have N5:=hide ((uh N4).re hr)
        have T5:Hid (Stay g w4 w5):=hide hr.1
        have V5:=hide (And.intro (hr.1.box (uh V4).1 (by have:=(uh V4).2; omega)) (uh V4).2)
        have I5:=hide (And.intro (g1.small (uh HM0)) (And.intro g1 (And.intro g2 g3)))
        clear hq g1 g2 g3 g4
        clear hr
        refine hK.out _ _ ?_ (fun hHeld2 => ?_)
        ·exact Rn.cells1 (uh N5) (uh X0) n1
        clear hK K hHeld
        (try simp only)
        have hHeld:=hHeld2
        clear hHeld2
        refine wpAnyH_take (i:=14) (v:=?vv12) rfl (by kernel_rfl) (by kernel_rfl) (by kernel_rfl) (fun _ _ _ h => h) (Or.inl ⟨by rfl,?hy12⟩) (by assumption) ?rest12
        case hy12 => (intro w hSw; (try dsimp only at hSw); go_simp; (first | done | with_reducible rfl))
        (try simp only [Act.put])
        refine wpAnyH_ready (rs:=[16]) (by kernel_rfl) (by simp) ?_
        refine AllReadyH.cons rfl (fun K hK => ?_) ?_
        ·
         have vn:=(uh V5).1.cell
         have vf:=(uh V5).1.frozen
         go_simp
         refine hK.out _ _ ?_ (fun hHeld2 => ?_)
         ·exact Rn.cells1 (Rn.store5 (uh N5) (Below.refl _ _) (uh V5).1 (uh V5).2 gl6 (.string (strOfNums OP.1)) (.string (strOfNums NM.1)) (.slice (some ⟨b3,0,none⟩) xi.length xi.length) (.slice (some ⟨b4,0,none⟩) xo.length xo.length) (.slice (some ⟨b5,0,none⟩) xa.length xa.length)).1 (uh X0) n1
         clear hK K hHeld
         (try simp only)
         have hHeld:=hHeld2
         clear hHeld2
         refine wpAnyH_done (by kernel_rfl) ?_ _
         have STO:=hide (Rn.store5 (uh N5) (Below.refl _ _) (uh V5).1 (uh V5).2 gl6 (.string (strOfNums OP.1)) (.string (strOfNums NM.1)) (.slice (some ⟨b3,0,none⟩) xi.length xi.length) (.slice (some ⟨b4,0,none⟩) xo.length xo.length) (.slice (some ⟨b5,0,none⟩) xa.length xa.length))
         have k4:Hid (Kept nodeTS 0 w4 w5):=hide ((uh T5).keptT (Nat.zero_le g) (uh N4).2 (by decide))
         have k3:Hid (Kept nodeTS 0 w3 w5):=hide (((uh T4).keptT (Nat.zero_le g) (uh N3).2 (by decide)).trans (uh k4))
         have KK:=hide ((uh STO).2.2 nodeTS (by decide))
         have s3:=hide (str_row (g:=0) (uh I3).2.2.2 (uh I3).1)
         have s4:=hide (str_row (g:=0) (uh I4).2.2.2 (uh I4).1)
         have hn0:NoIn 0 w5 ⟨OP.1,NM.1,xi,some ⟨b3,0,none⟩,xi.length,xo,some ⟨b4,0,none⟩,xo.length,xa,some ⟨b5,0,none⟩,xa.length⟩:=⟨uh HOB,uh HNB,⟨(uh I3).2.2.1,(uh s3).1.kept (uh s3).2 (by simp [nodeTS]) (uh k3),(uh s3).2.kept (by simp [nodeTS]) (uh k3)⟩,⟨(uh I4).2.2.1,(uh s4).1.kept (uh s4).2 (by simp [nodeTS]) (uh k4),(uh s4).2.kept (by simp [nodeTS]) (uh k4)⟩,(uh I5).2.2.1,(uh I5).2.2.2.rc atWd (by have:=(uh I5).1; omega),(uh I5).2.2.2.tag⟩
         have KF:=hide (And.intro (uh STO).1 (And.intro (hn0.kept (fun t h => h) (uh KK)) (And.intro (uh STO).2.1 (And.intro (uh V5).2 (And.intro (rb_same (uh I3).2.1) (And.intro (rb_same (uh I4).2.1) (uh I5).2.1))))))
         clear STO KK hn0 k3 k4
         exact key _ _ b3 xi b4 xo b5 xa KF
        exact AllReadyH.nil
       exact AllReadyH.nil
      exact AllReadyH.nil
     exact AllReadyH.nil
    refine AllReadyH.cons rfl (fun K hK => ?_) ?_
    ·
     go_simp
     refine hK.out _ _ ?_ (fun hHeld2 => ?_)
     ·exact Rn.cells1 ((uh N2).al (Obj.cells #[.string { data:=#[] },.string { data:=#[] },.slice none 0 0,.slice none 0 0,.slice none 0 0] 75)) (uh X0) n1
     clear hK K hHeld
     (try simp only)
     have hHeld:=hHeld2
     clear hHeld2
     refine wpAnyH_ready (rs:=[7]) (by kernel_rfl) (by simp) ?_
     refine AllReadyH.cons rfl (fun K hK => ?_) ?_
     ·
      go_simp
      refine (uh C3 _ ((uh N2).al (Obj.cells #[.string { data:=#[] },.string { data:=#[] },.slice none 0 0,.slice none 0 0,.slice none 0 0] 75)).x).mono ?_
      rintro e w3 ⟨b3,xi,rfl,hq⟩
      obtain ⟨g1,g2,g3,g4,hr⟩:=uh hq
      have N3:=hide (((uh N2).al (Obj.cells #[.string { data:=#[] },.string { data:=#[] },.slice none 0 0,.slice none 0 0,.slice none 0 0] 75)).re hr)
      have T3:Hid (Stay g w2 w3):=hide ((Stay.below (al1p w2 _) (by have:=(uh N2).2.lt; omega)).trans hr.1)
      have V3:=hide (And.intro (hr.1.box (Box.new w2 #[.string { data:=#[] },.string { data:=#[] },.slice none 0 0,.slice none 0 0,.slice none 0 0] 75) (by have:=(uh N2).size; omega)) (show W0.heap.size ≤ w2.heap.size from (uh N2).size))
      have I3:=hide (And.intro (g1.small (uh HM0)) (And.intro g1 (And.intro g2 g3)))
      clear hq g1 g2 g3 g4
      clear hr
      refine hK.out _ _ ?_ (fun hHeld2 => ?_)
      ·exact Rn.cells1 (uh N3) (uh X0) n1
      clear hK K hHeld
      (try simp only)
      have hHeld:=hHeld2
      clear hHeld2
      refine wpAnyH_ready (rs:=[11]) (by kernel_rfl) (by simp) ?_
      refine AllReadyH.cons rfl (fun K hK => ?_) ?_
      ·
       go_simp
       refine (uh C4 _ (uh N3).x).mono ?_
       rintro e w4 ⟨b4,xo,rfl,hq⟩
       obtain ⟨g1,g2,g3,g4,hr⟩:=uh hq
       have N4:=hide ((uh N3).re hr)
       have T4:Hid (Stay g w3 w4):=hide hr.1
       have V4:=hide (And.intro (hr.1.box (uh V3).1 (by have:=(uh V3).2; omega)) (uh V3).2)
       have I4:=hide (And.intro (g1.small (uh HM0)) (And.intro g1 (And.intro g2 g3)))
       clear hq g1 g2 g3 g4
       clear hr
       refine hK.out _ _ ?_ (fun hHeld2 => ?_)
       ·exact Rn.cells1 (uh N4) (uh X0) n1
       clear hK K hHeld
       (try simp only)
       have hHeld:=hHeld2
       clear hHeld2
       refine wpAnyH_ready (rs:=[13]) (by kernel_rfl) (by simp) ?_
       refine AllReadyH.cons rfl (fun K hK => ?_) ?_
       ·
        go_simp
        refine (uh C5 _ (uh N4).x).mono ?_
        rintro e w5 ⟨b5,xa,rfl,hq⟩
        obtain ⟨g1,g2,g3,g4,hr⟩:=uh hq
        have N5:=hide ((uh N4).re hr)
        have T5:Hid (Stay g w4 w5):=hide hr.1
        have V5:=hide (And.intro (hr.1.box (uh V4).1 (by have:=(uh V4).2; omega)) (uh V4).2)
        have I5:=hide (And.intro (g1.small (uh HM0)) (And.intro g1 (And.intro g2 g3)))
        clear hq g1 g2 g3 g4
        clear hr
        refine hK.out _ _ ?_ (fun hHeld2 => ?_)
        ·exact Rn.cells1 (uh N5) (uh X0) n1
        clear hK K hHeld
        (try simp only)
        have hHeld:=hHeld2
        clear hHeld2
        refine wpAnyH_take (i:=14) (v:=?vv13) rfl (by kernel_rfl) (by kernel_rfl) (by kernel_rfl) (fun _ _ _ h => h) (Or.inl ⟨by rfl,?hy13⟩) (by assumption) ?rest13
        case hy13 => (intro w hSw; (try dsimp only at hSw); go_simp; (first | done | with_reducible rfl))
        (try simp only [Act.put])
        refine wpAnyH_ready (rs:=[16]) (by kernel_rfl) (by simp) ?_
        refine AllReadyH.cons rfl (fun K hK => ?_) ?_
        ·
         have vn:=(uh V5).1.cell
         have vf:=(uh V5).1.frozen
         go_simp
         refine hK.out _ _ ?_ (fun hHeld2 => ?_)
         ·exact Rn.cells1 (Rn.store5 (uh N5) (Below.refl _ _) (uh V5).1 (uh V5).2 gl6 (.string (strOfNums OP.1)) (.string (strOfNums NM.1)) (.slice (some ⟨b3,0,none⟩) xi.length xi.length) (.slice (some ⟨b4,0,none⟩) xo.length xo.length) (.slice (some ⟨b5,0,none⟩) xa.length xa.length)).1 (uh X0) n1
         clear hK K hHeld
         (try simp only)
         have hHeld:=hHeld2
         clear hHeld2
         refine wpAnyH_done (by kernel_rfl) ?_ _
         have STO:=hide (Rn.store5 (uh N5) (Below.refl _ _) (uh V5).1 (uh V5).2 gl6 (.string (strOfNums OP.1)) (.string (strOfNums NM.1)) (.slice (some ⟨b3,0,none⟩) xi.length xi.length) (.slice (some ⟨b4,0,none⟩) xo.length xo.length) (.slice (some ⟨b5,0,none⟩) xa.length xa.length))
         have k4:Hid (Kept nodeTS 0 w4 w5):=hide ((uh T5).keptT (Nat.zero_le g) (uh N4).2 (by decide))
         have k3:Hid (Kept nodeTS 0 w3 w5):=hide (((uh T4).keptT (Nat.zero_le g) (uh N3).2 (by decide)).trans (uh k4))
         have KK:=hide ((uh STO).2.2 nodeTS (by decide))
         have s3:=hide (str_row (g:=0) (uh I3).2.2.2 (uh I3).1)
         have s4:=hide (str_row (g:=0) (uh I4).2.2.2 (uh I4).1)
         have hn0:NoIn 0 w5 ⟨OP.1,NM.1,xi,some ⟨b3,0,none⟩,xi.length,xo,some ⟨b4,0,none⟩,xo.length,xa,some ⟨b5,0,none⟩,xa.length⟩:=⟨uh HOB,uh HNB,⟨(uh I3).2.2.1,(uh s3).1.kept (uh s3).2 (by simp [nodeTS]) (uh k3),(uh s3).2.kept (by simp [nodeTS]) (uh k3)⟩,⟨(uh I4).2.2.1,(uh s4).1.kept (uh s4).2 (by simp [nodeTS]) (uh k4),(uh s4).2.kept (by simp [nodeTS]) (uh k4)⟩,(uh I5).2.2.1,(uh I5).2.2.2.rc atWd (by have:=(uh I5).1; omega),(uh I5).2.2.2.tag⟩
         have KF:=hide (And.intro (uh STO).1 (And.intro (hn0.kept (fun t h => h) (uh KK)) (And.intro (uh STO).2.1 (And.intro (uh V5).2 (And.intro (rb_same (uh I3).2.1) (And.intro (rb_same (uh I4).2.1) (uh I5).2.1))))))
         clear STO KK hn0 k3 k4
         exact key _ _ b3 xi b4 xo b5 xa KF
        exact AllReadyH.nil
       exact AllReadyH.nil
      exact AllReadyH.nil
     exact AllReadyH.nil
    exact AllReadyH.nil
   refine AllReadyH.cons rfl (fun K hK => ?_) ?_
   ·
    go_simp
    refine hK.out _ _ ?_ (fun hHeld2 => ?_)
    ·exact Rn.cells1 ((uh N1).al (Obj.cells #[.string { data:=#[] },.string { data:=#[] },.slice none 0 0,.slice none 0 0,.slice none 0 0] 75)) (uh X0) n1
    clear hK K hHeld
    (try simp only)
    have hHeld:=hHeld2
    clear hHeld2
    refine wpAnyH_ready (rs:=[3]) (by kernel_rfl) (by simp) ?_
    refine AllReadyH.cons rfl (fun K hK => ?_) ?_
    ·
     go_simp
     refine (uh C2 _ ((uh N1).al (Obj.cells #[.string { data:=#[] },.string { data:=#[] },.slice none 0 0,.slice none 0 0,.slice none 0 0] 75)).x).mono ?_
     rintro e w2 ⟨rfl,hr⟩
     have N2:=hide (((uh N1).al (Obj.cells #[.string { data:=#[] },.string { data:=#[] },.slice none 0 0,.slice none 0 0,.slice none 0 0] 75)).re hr)
     have T2:Hid (Stay g w1 w2):=hide ((Stay.below (al1p w1 _) (by have:=(uh N1).2.lt; omega)).trans hr.1)
     have V2:=hide (And.intro (hr.1.box (Box.new w1 #[.string { data:=#[] },.string { data:=#[] },.slice none 0 0,.slice none 0 0,.slice none 0 0] 75) (by have:=(uh N1).size; omega)) (show W0.heap.size ≤ w1.heap.size from (uh N1).size))
     skip
     clear hr
     refine hK.out _ _ ?_ (fun hHeld2 => ?_)
     ·exact Rn.cells1 (uh N2) (uh X0) n1
     clear hK K hHeld
     (try simp only)
     have hHeld:=hHeld2
     clear hHeld2
     refine wpAnyH_ready (rs:=[7]) (by kernel_rfl) (by simp) ?_
     refine AllReadyH.cons rfl (fun K hK => ?_) ?_
     ·
      go_simp
      refine (uh C3 _ (uh N2).x).mono ?_
      rintro e w3 ⟨b3,xi,rfl,hq⟩
      obtain ⟨g1,g2,g3,g4,hr⟩:=uh hq
      have N3:=hide ((uh N2).re hr)
      have T3:Hid (Stay g w2 w3):=hide hr.1
      have V3:=hide (And.intro (hr.1.box (uh V2).1 (by have:=(uh V2).2; omega)) (uh V2).2)
      have I3:=hide (And.intro (g1.small (uh HM0)) (And.intro g1 (And.intro g2 g3)))
      clear hq g1 g2 g3 g4
      clear hr
      refine hK.out _ _ ?_ (fun hHeld2 => ?_)
      ·exact Rn.cells1 (uh N3) (uh X0) n1
      clear hK K hHeld
      (try simp only)
      have hHeld:=hHeld2
      clear hHeld2
      refine wpAnyH_ready (rs:=[11]) (by kernel_rfl) (by simp) ?_
      refine AllReadyH.cons rfl (fun K hK => ?_) ?_
      ·
       go_simp
       refine (uh C4 _ (uh N3).x).mono ?_
       rintro e w4 ⟨b4,xo,rfl,hq⟩
       obtain ⟨g1,g2,g3,g4,hr⟩:=uh hq
       have N4:=hide ((uh N3).re hr)
       have T4:Hid (Stay g w3 w4):=hide hr.1
       have V4:=hide (And.intro (hr.1.box (uh V3).1 (by have:=(uh V3).2; omega)) (uh V3).2)
       have I4:=hide (And.intro (g1.small (uh HM0)) (And.intro g1 (And.intro g2 g3)))
       clear hq g1 g2 g3 g4
       clear hr
       refine hK.out _ _ ?_ (fun hHeld2 => ?_)
       ·exact Rn.cells1 (uh N4) (uh X0) n1
       clear hK K hHeld
       (try simp only)
       have hHeld:=hHeld2
       clear hHeld2
       refine wpAnyH_ready (rs:=[13]) (by kernel_rfl) (by simp) ?_
       refine AllReadyH.cons rfl (fun K hK => ?_) ?_
       ·
        go_simp
        refine (uh C5 _ (uh N4).x).mono ?_
        rintro e w5 ⟨b5,xa,rfl,hq⟩
        obtain ⟨g1,g2,g3,g4,hr⟩:=uh hq
        have N5:=hide ((uh N4).re hr)
        have T5:Hid (Stay g w4 w5):=hide hr.1
        have V5:=hide (And.intro (hr.1.box (uh V4).1 (by have:=(uh V4).2; omega)) (uh V4).2)
        have I5:=hide (And.intro (g1.small (uh HM0)) (And.intro g1 (And.intro g2 g3)))
        clear hq g1 g2 g3 g4
        clear hr
        refine hK.out _ _ ?_ (fun hHeld2 => ?_)
        ·exact Rn.cells1 (uh N5) (uh X0) n1
        clear hK K hHeld
        (try simp only)
        have hHeld:=hHeld2
        clear hHeld2
        refine wpAnyH_take (i:=14) (v:=?vv14) rfl (by kernel_rfl) (by kernel_rfl) (by kernel_rfl) (fun _ _ _ h => h) (Or.inl ⟨by rfl,?hy14⟩) (by assumption) ?rest14
        case hy14 => (intro w hSw; (try dsimp only at hSw); go_simp; (first | done | with_reducible rfl))
        (try simp only [Act.put])
        refine wpAnyH_ready (rs:=[16]) (by kernel_rfl) (by simp) ?_
        refine AllReadyH.cons rfl (fun K hK => ?_) ?_
        ·
         have vn:=(uh V5).1.cell
         have vf:=(uh V5).1.frozen
         go_simp
         refine hK.out _ _ ?_ (fun hHeld2 => ?_)
         ·exact Rn.cells1 (Rn.store5 (uh N5) (Below.refl _ _) (uh V5).1 (uh V5).2 gl6 (.string (strOfNums OP.1)) (.string (strOfNums NM.1)) (.slice (some ⟨b3,0,none⟩) xi.length xi.length) (.slice (some ⟨b4,0,none⟩) xo.length xo.length) (.slice (some ⟨b5,0,none⟩) xa.length xa.length)).1 (uh X0) n1
         clear hK K hHeld
         (try simp only)
         have hHeld:=hHeld2
         clear hHeld2
         refine wpAnyH_done (by kernel_rfl) ?_ _
         have STO:=hide (Rn.store5 (uh N5) (Below.refl _ _) (uh V5).1 (uh V5).2 gl6 (.string (strOfNums OP.1)) (.string (strOfNums NM.1)) (.slice (some ⟨b3,0,none⟩) xi.length xi.length) (.slice (some ⟨b4,0,none⟩) xo.length xo.length) (.slice (some ⟨b5,0,none⟩) xa.length xa.length))
         have k4:Hid (Kept nodeTS 0 w4 w5):=hide ((uh T5).keptT (Nat.zero_le g) (uh N4).2 (by decide))
         have k3:Hid (Kept nodeTS 0 w3 w5):=hide (((uh T4).keptT (Nat.zero_le g) (uh N3).2 (by decide)).trans (uh k4))
         have KK:=hide ((uh STO).2.2 nodeTS (by decide))
         have s3:=hide (str_row (g:=0) (uh I3).2.2.2 (uh I3).1)
         have s4:=hide (str_row (g:=0) (uh I4).2.2.2 (uh I4).1)
         have hn0:NoIn 0 w5 ⟨OP.1,NM.1,xi,some ⟨b3,0,none⟩,xi.length,xo,some ⟨b4,0,none⟩,xo.length,xa,some ⟨b5,0,none⟩,xa.length⟩:=⟨uh HOB,uh HNB,⟨(uh I3).2.2.1,(uh s3).1.kept (uh s3).2 (by simp [nodeTS]) (uh k3),(uh s3).2.kept (by simp [nodeTS]) (uh k3)⟩,⟨(uh I4).2.2.1,(uh s4).1.kept (uh s4).2 (by simp [nodeTS]) (uh k4),(uh s4).2.kept (by simp [nodeTS]) (uh k4)⟩,(uh I5).2.2.1,(uh I5).2.2.2.rc atWd (by have:=(uh I5).1; omega),(uh I5).2.2.2.tag⟩
         have KF:=hide (And.intro (uh STO).1 (And.intro (hn0.kept (fun t h => h) (uh KK)) (And.intro (uh STO).2.1 (And.intro (uh V5).2 (And.intro (rb_same (uh I3).2.1) (And.intro (rb_same (uh I4).2.1) (uh I5).2.1))))))
         clear STO KK hn0 k3 k4
         exact key _ _ b3 xi b4 xo b5 xa KF
        exact AllReadyH.nil
       exact AllReadyH.nil
      exact AllReadyH.nil
     exact AllReadyH.nil
    exact AllReadyH.nil
   exact AllReadyH.nil
  refine AllReadyH.cons rfl (fun K hK => ?_) ?_
  ·
   go_simp
   refine hK.out _ _ ?_ (fun hHeld2 => ?_)
   ·exact Rn.cells1 (uh N0a) (uh X0) n1
   clear hK K hHeld
   (try simp only)
   have hHeld:=hHeld2
   clear hHeld2
   refine wpAnyH_ready (rs:=[1]) (by kernel_rfl) (by simp) ?_
   refine AllReadyH.cons rfl (fun K hK => ?_) ?_
   ·
    go_simp
    refine (uh C1 _ (uh N0a).x).mono ?_
    rintro e w1 ⟨rfl,hr⟩
    have N1:=hide ((uh N0a).re hr)
    have V1:=hide (And.intro (hr.1.box ((Box.new W0 #[.string { data:=#[] },.string { data:=#[] },.slice none 0 0,.slice none 0 0,.slice none 0 0] 75).below (bdrewp _)) (by have:=(uh N0).size; omega)) (show W0.heap.size ≤ W0.heap.size from Nat.le_refl _))
    skip
    clear hr
    refine hK.out _ _ ?_ (fun hHeld2 => ?_)
    ·exact Rn.cells1 (uh N1) (uh X0) n1
    clear hK K hHeld
    (try simp only)
    have hHeld:=hHeld2
    clear hHeld2
    refine wpAnyH_ready (rs:=[3]) (by kernel_rfl) (by simp) ?_
    refine AllReadyH.cons rfl (fun K hK => ?_) ?_
    ·
     go_simp
     refine (uh C2 _ (uh N1).x).mono ?_
     rintro e w2 ⟨rfl,hr⟩
     have N2:=hide ((uh N1).re hr)
     have T2:Hid (Stay g w1 w2):=hide hr.1
     have V2:=hide (And.intro (hr.1.box (uh V1).1 (by have:=(uh V1).2; omega)) (uh V1).2)
     skip
     clear hr
     refine hK.out _ _ ?_ (fun hHeld2 => ?_)
     ·exact Rn.cells1 (uh N2) (uh X0) n1
     clear hK K hHeld
     (try simp only)
     have hHeld:=hHeld2
     clear hHeld2
     refine wpAnyH_ready (rs:=[7]) (by kernel_rfl) (by simp) ?_
     refine AllReadyH.cons rfl (fun K hK => ?_) ?_
     ·
      go_simp
      refine (uh C3 _ (uh N2).x).mono ?_
      rintro e w3 ⟨b3,xi,rfl,hq⟩
      obtain ⟨g1,g2,g3,g4,hr⟩:=uh hq
      have N3:=hide ((uh N2).re hr)
      have T3:Hid (Stay g w2 w3):=hide hr.1
      have V3:=hide (And.intro (hr.1.box (uh V2).1 (by have:=(uh V2).2; omega)) (uh V2).2)
      have I3:=hide (And.intro (g1.small (uh HM0)) (And.intro g1 (And.intro g2 g3)))
      clear hq g1 g2 g3 g4
      clear hr
      refine hK.out _ _ ?_ (fun hHeld2 => ?_)
      ·exact Rn.cells1 (uh N3) (uh X0) n1
      clear hK K hHeld
      (try simp only)
      have hHeld:=hHeld2
      clear hHeld2
      refine wpAnyH_ready (rs:=[11]) (by kernel_rfl) (by simp) ?_
      refine AllReadyH.cons rfl (fun K hK => ?_) ?_
      ·
       go_simp
       refine (uh C4 _ (uh N3).x).mono ?_
       rintro e w4 ⟨b4,xo,rfl,hq⟩
       obtain ⟨g1,g2,g3,g4,hr⟩:=uh hq
       have N4:=hide ((uh N3).re hr)
       have T4:Hid (Stay g w3 w4):=hide hr.1
       have V4:=hide (And.intro (hr.1.box (uh V3).1 (by have:=(uh V3).2; omega)) (uh V3).2)
       have I4:=hide (And.intro (g1.small (uh HM0)) (And.intro g1 (And.intro g2 g3)))
       clear hq g1 g2 g3 g4
       clear hr
       refine hK.out _ _ ?_ (fun hHeld2 => ?_)
       ·exact Rn.cells1 (uh N4) (uh X0) n1
       clear hK K hHeld
       (try simp only)
       have hHeld:=hHeld2
       clear hHeld2
       refine wpAnyH_ready (rs:=[13]) (by kernel_rfl) (by simp) ?_
       refine AllReadyH.cons rfl (fun K hK => ?_) ?_
       ·
        go_simp
        refine (uh C5 _ (uh N4).x).mono ?_
        rintro e w5 ⟨b5,xa,rfl,hq⟩
        obtain ⟨g1,g2,g3,g4,hr⟩:=uh hq
        have N5:=hide ((uh N4).re hr)
        have T5:Hid (Stay g w4 w5):=hide hr.1
        have V5:=hide (And.intro (hr.1.box (uh V4).1 (by have:=(uh V4).2; omega)) (uh V4).2)
        have I5:=hide (And.intro (g1.small (uh HM0)) (And.intro g1 (And.intro g2 g3)))
        clear hq g1 g2 g3 g4
        clear hr
        refine hK.out _ _ ?_ (fun hHeld2 => ?_)
        ·exact Rn.cells1 (uh N5) (uh X0) n1
        clear hK K hHeld
        (try simp only)
        have hHeld:=hHeld2
        clear hHeld2
        refine wpAnyH_take (i:=14) (v:=?vv15) rfl (by kernel_rfl) (by kernel_rfl) (by kernel_rfl) (fun _ _ _ h => h) (Or.inl ⟨by rfl,?hy15⟩) (by assumption) ?rest15
        case hy15 => (intro w hSw; (try dsimp only at hSw); go_simp; (first | done | with_reducible rfl))
        (try simp only [Act.put])
        refine wpAnyH_ready (rs:=[16]) (by kernel_rfl) (by simp) ?_
        refine AllReadyH.cons rfl (fun K hK => ?_) ?_
        ·
         have vn:=(uh V5).1.cell
         have vf:=(uh V5).1.frozen
         go_simp
         refine hK.out _ _ ?_ (fun hHeld2 => ?_)
         ·exact Rn.cells1 (Rn.store5 (uh N5) (Below.refl _ _) (uh V5).1 (uh V5).2 gl6 (.string (strOfNums OP.1)) (.string (strOfNums NM.1)) (.slice (some ⟨b3,0,none⟩) xi.length xi.length) (.slice (some ⟨b4,0,none⟩) xo.length xo.length) (.slice (some ⟨b5,0,none⟩) xa.length xa.length)).1 (uh X0) n1
         clear hK K hHeld
         (try simp only)
         have hHeld:=hHeld2
         clear hHeld2
         refine wpAnyH_done (by kernel_rfl) ?_ _
         have STO:=hide (Rn.store5 (uh N5) (Below.refl _ _) (uh V5).1 (uh V5).2 gl6 (.string (strOfNums OP.1)) (.string (strOfNums NM.1)) (.slice (some ⟨b3,0,none⟩) xi.length xi.length) (.slice (some ⟨b4,0,none⟩) xo.length xo.length) (.slice (some ⟨b5,0,none⟩) xa.length xa.length))
         have k4:Hid (Kept nodeTS 0 w4 w5):=hide ((uh T5).keptT (Nat.zero_le g) (uh N4).2 (by decide))
         have k3:Hid (Kept nodeTS 0 w3 w5):=hide (((uh T4).keptT (Nat.zero_le g) (uh N3).2 (by decide)).trans (uh k4))
         have KK:=hide ((uh STO).2.2 nodeTS (by decide))
         have s3:=hide (str_row (g:=0) (uh I3).2.2.2 (uh I3).1)
         have s4:=hide (str_row (g:=0) (uh I4).2.2.2 (uh I4).1)
         have hn0:NoIn 0 w5 ⟨OP.1,NM.1,xi,some ⟨b3,0,none⟩,xi.length,xo,some ⟨b4,0,none⟩,xo.length,xa,some ⟨b5,0,none⟩,xa.length⟩:=⟨uh HOB,uh HNB,⟨(uh I3).2.2.1,(uh s3).1.kept (uh s3).2 (by simp [nodeTS]) (uh k3),(uh s3).2.kept (by simp [nodeTS]) (uh k3)⟩,⟨(uh I4).2.2.1,(uh s4).1.kept (uh s4).2 (by simp [nodeTS]) (uh k4),(uh s4).2.kept (by simp [nodeTS]) (uh k4)⟩,(uh I5).2.2.1,(uh I5).2.2.2.rc atWd (by have:=(uh I5).1; omega),(uh I5).2.2.2.tag⟩
         have KF:=hide (And.intro (uh STO).1 (And.intro (hn0.kept (fun t h => h) (uh KK)) (And.intro (uh STO).2.1 (And.intro (uh V5).2 (And.intro (rb_same (uh I3).2.1) (And.intro (rb_same (uh I4).2.1) (uh I5).2.1))))))
         clear STO KK hn0 k3 k4
         exact key _ _ b3 xi b4 xo b5 xa KF
        exact AllReadyH.nil
       exact AllReadyH.nil
      exact AllReadyH.nil
     exact AllReadyH.nil
    exact AllReadyH.nil
   exact AllReadyH.nil
  exact AllReadyH.nil
 case kk =>
  intro β F b3 xi b4 xo b5 xa KF
  obtain ⟨hN,hI,hV,lb,e1,e2,e3⟩:=uh KF
  have N5:=hide hN
  have NI5:=hide hI
  have VB5:=hide hV
  have E1:=hide e1
  have E2:=hide e2
  have E3:=hide e3
  have nb:β ≠ g:=by omega
  have v5:=(uh VB5).cell
  have x5:=(uh N5).cells1 (uh X0) n1
  clear KF hN hI hV e1 e2 e3
  go_wp2_with fail
  refine (uh CB _ _ (uh N5).x).mono ?_
  rintro e w6 ⟨rfl,hr⟩
  have N6:=hide ((uh N5).re hr)
  have VB6:=hide (hr.1.box (uh VB5) nb)
  have NI6:=hide ((uh NI5).kept (TS:=nodeTS) (fun t h => h) (hr.1.keptT (Nat.zero_le g) (uh N5).2 (by decide)))
  have v6:=(uh VB6).cell
  have x6:=(uh N6).cells1 (uh X0) n1
  clear hr
  go_wp2_with fail
  have XX:=hide ((uh N6).box (uh X0) n1)
  have M0:=hide (Rn.refl (uh N6).2).dr
  have HM6:=hide ((uh HM0).stay (uh N6).1.1)
  have CX:=hide (fun v (hn:Rx g w6 v) => ctxt_any g q d L 7 v hn.wst (hn.ms (uh HM6)))
  have CO6:=hide (fun is v (hn:Rx g w6 v) => cnote_odd g q L.length d is v hn.wst)
  rw [uh HL0,uh HTX] at CX
  unfold msV at CX CO6
  unfold strV at CX
  go_region_held3 (fun v => (∀ j,v.cell? ⟨w.heap.size,j,none⟩ = (#[.slice q L.length d,.pointer (some ⟨g,0,none⟩)]:Array Value)[j]?)) (first | with_reducible exact Rn.cells1 (uh M2) (uh XX) n1 | with_reducible exact Rn.cells1 (uh M1) (uh XX) n1 | with_reducible exact Rn.cells1 (uh M0) (uh XX) n1)
   (first
    | (go_at_call 58; (refine (uh CO6 _ _ ?_).mono ?_; (focus (with_reducible exact (uh M1).x)); rintro e w8 ⟨rfl,hr⟩; have M2:=hide ((uh M1).re hr); skip; clear hr))
    | (go_at_call 112; (refine (uh CIO _).mono ?_; rintro e v ⟨rfl,hv⟩; subst hv; skip))
    | (go_at_call 115; (refine (uh CX _ ?_).mono ?_; (focus (with_reducible exact (uh M0).x)); rintro e w7 ⟨rfl,hr⟩; have M1:=hide ((uh M0).re hr); skip; clear hr)))
  have N8:=hide ((uh N6).1.thenN (uh M2))
  have VB8:=hide ((uh M2).box (uh VB6) nb)
  have NI8:=hide ((uh NI6).kept (TS:=nodeTS) (fun t h => h) ((uh M2).1.1.keptT (Nat.zero_le g) (uh N6).2 (by decide)))
  have v8:=(uh VB8).cell
  have x8:=(uh N8).cells1 (uh X0) n1
  clear XX v6 x6
  go_wp2_with fail
  refine (uh CL _ _ _ (uh N8).x).mono ?_
  rintro e w9 ⟨rfl,hr⟩
  have N9:=hide ((uh N8).re hr)
  have VB9:=hide (hr.1.box (uh VB8) nb)
  have NI9:=hide ((uh NI8).kept (TS:=nodeTS) (fun t h => h) (hr.1.keptT (Nat.zero_le g) (uh N8).2 (by decide)))
  have v9:=(uh VB9).cell
  have x9:=(uh N9).cells1 (uh X0) n1
  clear hr
  go_wp2_with fail
  refine (uh CL _ _ _ (uh N9).x).mono ?_
  rintro e w10 ⟨rfl,hr⟩
  have N10:=hide ((uh N9).re hr)
  have VB10:=hide (hr.1.box (uh VB9) nb)
  have NI10:=hide ((uh NI9).kept (TS:=nodeTS) (fun t h => h) (hr.1.keptT (Nat.zero_le g) (uh N9).2 (by decide)))
  have v10:=(uh VB10).cell
  have x10:=(uh N10).cells1 (uh X0) n1
  clear hr
  go_wp2_with fail
  refine (uh CL _ _ _ (uh N10).x).mono ?_
  rintro e w11 ⟨rfl,hr⟩
  have N11:=hide ((uh R0).thenN ((uh N10).re hr))
  have VB11:=hide (hr.1.box (uh VB10) nb)
  have NI11:=hide ((uh NI10).kept (TS:=nodeTS) (fun t h => h) (hr.1.keptT (Nat.zero_le g) (uh N10).2 (by decide)))
  have v11:=(uh VB11).cell
  have Y11:=hide (hr.1.box ((uh N10).box (uh Y0) (by omega)) (by omega))
  have y11:=(uh Y11).cell
  have z11:=(uh Y11).frozen
  clear hr v8 v9 v10 x8 x9 x10
  go_wp2_with fail
  have Y12:=hide ((uh Y11).set5 (.string (strOfNums OP.1)) (.string (strOfNums NM.1)) (.slice (some ⟨b3,0,none⟩) xi.length xi.length) (.slice (some ⟨b4,0,none⟩) xo.length xo.length) (.slice (some ⟨b5,0,none⟩) xa.length xa.length))
  have NI12:=hide ((uh NI11).kept (TS:=nodeTS) (fun t h => h) (Kept.set5 (uh Y11) (by decide) (by omega) (.string (strOfNums OP.1)) (.string (strOfNums NM.1)) (.slice (some ⟨b3,0,none⟩) xi.length xi.length) (.slice (some ⟨b4,0,none⟩) xo.length xo.length) (.slice (some ⟨b5,0,none⟩) xa.length xa.length)))
  have R12:=hide ((uh N11).set5 (b:=w.heap.size + 1) (by omega) gl (.string (strOfNums OP.1)) (.string (strOfNums NM.1)) (.slice (some ⟨b3,0,none⟩) xi.length xi.length) (.slice (some ⟨b4,0,none⟩) xo.length xo.length) (.slice (some ⟨b5,0,none⟩) xa.length xa.length))
  refine bodyPost_ret ?_ rfl ⟨⟨OP.1,NM.1,xi,some ⟨b3,0,none⟩,xi.length,xo,some ⟨b4,0,none⟩,xo.length,xa,some ⟨b5,0,none⟩,xa.length⟩,rfl,hide ⟨fun hc => ?_,uh NI12,(uh R12).1.eq (congrArg lev ?_)⟩⟩
  ·simp [results,Tryz.results119,go_sem,(uh Y12).cell,noCells,strV]
  ·unfold nodeC NoA.d
   rw [uh HOP,uh HNM]
   simp only
   rw [(uh E1),(uh E2),uh HL0,rb_d (by rw [← uh HL0]; exact uh E3) (node_attrs hc)]
  ·unfold nodeCF nameF msF
   rw [uh HOP,uh HNM,uh HTX,← uh HL0,← uh E1,← uh E2,← (uh E3).1]
   simp only [f3_assoc,no_f3,str_isE,dec64]
end Go.Proofs.YtmdlaahdgjegcaaGreat
