import Derived.Deep.QuietTactic
import Derived.Test.YtmdlaahdgjegcaaGreatV01
import Derived.Test.YtmdlaahdgjegcaaGreatV25
set_option maxRecDepth 100000
set_option maxHeartbeats 8000000
namespace Go.Proofs.YtmdlaahdgjegcaaGreat
open Go.RowKit
set_option linter.unusedVariables false
theorem crow1Set_any (g gm gb:Nat) (q0:Option Addr) (n0 d0:Nat) (K:FuncId) (hK:Ent K) (caps:Array Value) (R:SeA → Prop) (F:F3) (a:FA) (w:World) (hw:WstE g w) (hm:Box w gm #[.slice q0 n0 d0,.pointer (some ⟨g,0,none⟩)] 58) (hb:Box w gb #[.func (.func K) #[] caps] 169) (ha:FaIn w a) (ho:Off g a.q a.d.length)
  (H:∀ v,Stay g w v → WstE g v → Ints .u8 v a.q a.c a.d → Calls Tryz.prog K (#[.slice a.q a.d.length a.c] ++ caps) v fun e w' => Made (fun w x => isB x.nm) (fun x => .agg (setC x).toArray) g R F v e w') :
  Calls Tryz.prog 170 #[faV a,.pointer (some ⟨gm,0,none⟩),.pointer (some ⟨gb,0,none⟩)] w fun e w' => Made (fun w x => isB x.nm) (fun x => .agg (setC x).toArray) g R (f3 (bad3 (a.wr != 2)) F) w e w':=by
 have hk:∀ (args:Array Value) (v:World),(callFunc K args).run Tryz.prog v = .ok (.enter K args) v:=hK
 have HH:=hide H
 have HW:=hide hw
 have gl:=hw.lt
 have ngm:=wst_ne hw hm (by decide)
 have ngb:=wst_ne hw hb (by decide)
 have BM:=hide hm
 have BF:=hide hb
 have HA:=hide ha
 have HO:=hide ho
 have C1:=hide (fun v (hv:WstE g v) => cnote_bad g q0 n0 d0 (a.wr != 2) v hv)
 clear hK H hm hb ha ho hw
 obtain ⟨an,awr,ax,ad,aq,ac⟩:=a
 simp only at HH HA HO C1 ⊢
 obtain ⟨DD,hD⟩:∃ DD,(awr != 2) = DD:=⟨_,rfl⟩
 rw [hD] at C1 ⊢
 unfold faV
 unfold msV at C1
 simp only
 have Y0:Hid (Box ((w.alloc (Obj.cells #[.int .i64 an,.int .i64 awr,.int .u64 ax,.slice aq ad.length ac] 148)).alloc (Obj.cells #[.string { data:=#[] },.int .i64 0] 117)) (w.heap.size + 1) #[.string { data:=#[] },.int .i64 0] 117):=hide (by have h:=Box.new (w.alloc (Obj.cells #[.int .i64 an,.int .i64 awr,.int .u64 ax,.slice aq ad.length ac] 148)) #[.string { data:=#[] },.int .i64 0] 117; rw [alloc_size6] at h; exact h)
 have x1:=((uh BM).below (show Below w.heap.size w ((w.alloc (Obj.cells #[.int .i64 an,.int .i64 awr,.int .u64 ax,.slice aq ad.length ac] 148)).alloc (Obj.cells #[.string { data:=#[] },.int .i64 0] 117)) from (al2p _ _ _))).cell
 go_enter Tryz.func170,Tryz.ntmps170
 go_wp2_with fail
 try rw [hD]
 refine (uh C1 _ ((uh HW).below (al2p _ _ _))).mono ?_
 rintro e w2 ⟨rfl,hr⟩
 have r2:=(RE.below (show Below w.heap.size w ((w.alloc (Obj.cells #[.int .i64 an,.int .i64 awr,.int .u64 ax,.slice aq ad.length ac] 148)).alloc (Obj.cells #[.string { data:=#[] },.int .i64 0] 117)) from (al2p _ _ _)) (uh HW)).trans hr
 rw [no_f3] at r2
 have R2':=hide r2
 have x2:=(hr.1.box ((uh BF).below (show Below w.heap.size w ((w.alloc (Obj.cells #[.int .i64 an,.int .i64 awr,.int .u64 ax,.slice aq ad.length ac] 148)).alloc (Obj.cells #[.string { data:=#[] },.int .i64 0] 117)) from (al2p _ _ _))) ngb).cell
 have x3:=(hr.1.box ((Box.new w #[.int .i64 an,.int .i64 awr,.int .u64 ax,.slice aq ad.length ac] 148).alloc (Obj.cells #[.string { data:=#[] },.int .i64 0] 117)) (by omega)).cell
 have Y1:=hide (hr.1.box (uh Y0) (by omega))
 have HI:=hide (((uh HA).below (show Below w.heap.size w ((w.alloc (Obj.cells #[.int .i64 an,.int .i64 awr,.int .u64 ax,.slice aq ad.length ac] 148)).alloc (Obj.cells #[.string { data:=#[] },.int .i64 0] 117)) from (al2p _ _ _))).stay (uh HO) hr.1)
 clear hr r2 x1
 go_wp2_with fail
 refine (uh HH _ (uh R2').1 ((uh R2').wst (uh HW)) (uh HI).2.2.2).mono ?_
 rintro e w3 ⟨x,rfl,hq⟩
 obtain ⟨g1,g2,hr2⟩:=uh hq
 have Y2:=hide (hr2.1.box (uh Y1) (by omega))
 have y2:=(uh Y2).cell
 have z2:=(uh Y2).frozen
 have kk:Kept [] 0 w3 (setMany w3 (w.heap.size + 1) 0 (setC x)):=Kept.setMany (uh Y2) (by decide) (by omega) _
 have G2:Hid (isB x.nm):=hide (g2)
 have R4:=hide (((uh R2').trans hr2).setMany (show w.heap.size ≤ w.heap.size + 1 by omega) gl (setC x) 0)
 have Y3:=hide ((uh Y2).set2 (.string (strOfNums x.nm)) (.int .i64 x.v))
 have G1:=hide g1
 clear hq g1 g2 hr2 kk
 unfold setC strV at R4 ⊢
 go_wp2_with fail
 refine bodyPost_ret ?_ rfl ⟨x,rfl,hide ⟨uh G1,uh G2,uh R4⟩⟩
 simp [results,Tryz.results170,go_sem,(uh Y3).cell,setC,strV]
theorem crowsSet_any (g:Nat) (q:Option Addr) (d:Nat) (L:List FA) (num:Int) (K:FuncId) (hK:Ent K) (caps:Array Value) (R:List Int → SeA → Prop) (F:List Int → F3) (w:World) (hw:WstE g w) (h:MsIn g w q d L)
  (H:∀ v,Stay g w v → WstE g v → ∀ p c b,Ints .u8 v p c b → Off g p b.length → b.length ≤ 4194304 → Calls Tryz.prog K (#[.slice p b.length c] ++ caps) v fun e w' => Made (fun w x => isB x.nm) (fun x => .agg (setC x).toArray) g (R b) (F b) v e w') :
  Calls Tryz.prog 113 #[msV q L.length d g,.int .i64 num,.func (.func K) #[] caps] w fun e w' => ∃ b xs,e = .returned (.slice (some ⟨b,0,none⟩) xs.length xs.length) ∧ Hid (Rb noSeA R (dsV (L.map FA.f) num) xs ∧ (∀ x ∈ xs,isB x.nm) ∧ Mrow 117 setC w' b xs ∧ w.heap.size ≤ b ∧ RE g (f3 (bad3 ((allV (L.map FA.f) num).any fun f => f.2.1 != 2)) (fAll ((dsV (L.map FA.f) num).map F))) w w'):=by
 obtain ⟨s1,s2,s3⟩:=h.small
 have C1:=hide (fun v (hv:Below w.heap.size w v) => call_any q d L num v (h.1.below hv) (by omega) (fun a ha => by have:=s3 a ha; omega))
 have HS:=hide (fun LA => all_sum (L:=L) (num:=num) (LA:=LA) h.2.2.2)
 have HK:=hide hK
 have HH:=hide H
 have HW:=hide hw
 have gl:=hw.lt
 clear hw h s3 hK H
 unfold msV
 go_enter Tryz.func113,Tryz.ntmps113
 go_wp2_with fail
 refine (uh C1 _ (al2p _ _ _)).mono ?_
 rintro e w1 ⟨v1,LA,rfl,hL,hO⟩
 obtain ⟨q1,d1,rfl,hm⟩:=ownL_ms (g:=g) (uh hO) (by simp; omega) (uh HS LA (uh hL))
 have B1:=hide (bl_tr (al2p w (Obj.cells #[.slice q L.length d,.pointer (some ⟨g,0,none⟩)] 58) (Obj.cells #[.func (.func K) #[] caps] 169)) (uh hO).1.2)
 have X1:=hide (Box.below (Box.alloc (Box.new w #[.slice q L.length d,.pointer (some ⟨g,0,none⟩)] 58) (Obj.cells #[.func (.func K) #[] caps] 169)) (uh hO).1.2)
 have Y1:Hid (Box w1 (w.heap.size + 1) #[.func (.func K) #[] caps] 169):=hide (by have h:=Box.below (Box.new (w.alloc (Obj.cells #[.slice q L.length d,.pointer (some ⟨g,0,none⟩)] 58)) #[.func (.func K) #[] caps] 169) (uh hO).1.2; rw [alloc_size6] at h; exact h)
 have W1:=hide ((uh HW).below (uh B1))
 have C2:=hide (cchSet_any g 170 (ent_of Tryz.func170 (by kernel_rfl) rfl) #[.pointer (some ⟨w.heap.size,0,none⟩),.pointer (some ⟨w.heap.size + 1,0,none⟩)] (fun a x => R a.d x) (fun a => f3 (bad3 (a.wr != 2)) (F a.d)) q1 d1 LA w1 (uh W1) hm (fun v sv wv a ha fa fo => crow1Set_any g w.heap.size (w.heap.size + 1) q L.length d K (uh HK) caps (R a.d) (F a.d) a v wv (sv.box (uh X1) (by omega)) (sv.box (uh Y1) (by omega)) fa fo (fun u su wu hu => uh HH u ((Stay.below (uh B1) (by omega)).trans (sv.trans su)) wu a.q a.c a.d hu fo (by have:=sumD_mem ha; have:=uh HS LA (uh hL); omega))))
 have HL:=hL
 clear hO hm C1 hL
 go_wp2_with fail
 refine (uh C2).mono ?_
 rintro e w2 ⟨b,xs,rfl,hq⟩
 obtain ⟨g1,g2,g3,g4,g5⟩:=uh hq
 have G:=hide (rows_end (uh HL) g1)
 have GX:=hide g2
 have GM:=hide g3
 have R2:=hide (((RE.below (uh B1) (uh HW)).trans g5).eq (rows_lev (uh HL) F))
 have hb:w.heap.size ≤ b:=Nat.le_trans (uh B1).size g4
 clear hq g1 g2 g3 g5 C2
 go_wp2_with fail
 go_ret
 exact ⟨b,xs,rfl,hide ⟨uh G,uh GX,uh GM,hb,uh R2⟩⟩
theorem cmsg1Set_any (g gm gb:Nat) (q0:Option Addr) (n0 d0:Nat) (R:SeA → Prop) (F:F3) (p:Option Addr) (c:Nat) (b:List Int) (w:World) (hw:WstE g w) (hm:Box w gm #[.slice q0 n0 d0,.pointer (some ⟨g,0,none⟩)] 58) (hb:Box w gb #[.func (.func 61) #[] #[]] 118) (hp:Ints .u8 w p c b) (ho:Off g p b.length) (hl:b.length ≤ 4194304)
  (H:∀ v,Stay g w v → WstE g v → ∀ q d L,MsIn g v q d L → L.map FA.f = (fieldsP b).1 → Calls Tryz.prog 61 #[msV q L.length d g] v fun e w' => Made (fun w x => isB x.nm) (fun x => .agg (setC x).toArray) g R F v e w') :
  Calls Tryz.prog 114 #[.slice p b.length c,.pointer (some ⟨gb,0,none⟩),.pointer (some ⟨gm,0,none⟩)] w fun e w' => Made (fun w x => isB x.nm) (fun x => .agg (setC x).toArray) g R (f3 (fieldsP b).2 F) w e w':=by
 have HH:=hide H
 have HW:=hide hw
 have gl:=hw.lt
 have ngm:=wst_ne hw hm (by decide)
 have ngb:=wst_ne hw hb (by decide)
 have BM:=hide hm
 have BF:=hide hb
 have HP:=hide hp
 have C1:=hide (fun v (hv:WstE g v) (hi:Ints .u8 v p c b) => copened_any g q0 n0 d0 p c b v hv hi hl)
 obtain ⟨FF,hFF⟩:∃ F,fieldsP b = F:=⟨_,rfl⟩
 rw [hFF] at C1 HH ⊢
 clear H hm hb hp hw ho hFF
 unfold msV at C1 HH
 unfold Made at HH
 simp only at HH
 unfold setC strV at HH
 have Y0:=hide (Box.new w #[.string { data:=#[] },.int .i64 0] 117)
 have hneb:gb ≠ w.heap.size:=by have:=(uh BF).lt; omega
 have hnem:gm ≠ w.heap.size:=by have:=(uh BM).lt; omega
 have x1:=((uh BF).alloc (Obj.cells #[.string { data:=#[] },.int .i64 0] 117)).cell
 have x2:=((uh BM).alloc (Obj.cells #[.string { data:=#[] },.int .i64 0] 117)).cell
 have x1d:=(((uh BF).alloc (Obj.cells #[.string { data:=#[] },.int .i64 0] 117)).below (bdrewp _)).cell
 have x2d:=(((uh BM).alloc (Obj.cells #[.string { data:=#[] },.int .i64 0] 117)).below (bdrewp _)).cell
 go_enter Tryz.func114,Tryz.ntmps114
 go_wp2_with fail
 go_region_held3 (fun v => (∀ j,v.cell? ⟨gb,j,none⟩ = (#[.func (.func 61) #[] #[]]:Array Value)[j]?) ∧ (∀ j,v.cell? ⟨gm,j,none⟩ = (#[.slice q0 n0 d0,.pointer (some ⟨g,0,none⟩)]:Array Value)[j]?)) (refine ⟨?_,?_⟩ <;> with_reducible assumption)
  (first
   | (go_at_call 61; (refine (uh HH _ (uh R1').1 ((uh R1').wst (uh HW)) _ _ _ (uh HM) (uh HL)).mono ?_; rintro e w3 ⟨x,rfl,hq⟩; obtain ⟨g1,g2,hr2⟩:=uh hq; have G1:=hide g1; have GI:=hide g2; have R3':=hide ((uh R1').trans hr2); have Y2:=hide (hr2.1.box (uh Y1) (by omega)); have y2:=(uh Y2).cell; have z2:=(uh Y2).frozen; have q3:=(hr2.1.box (uh BF1) ngb).cell; have q4:=(hr2.1.box (uh BM1) ngm).cell; have q5:=(Box.off2 (hr2.1.box (uh BF1) ngb) hneb (.string (strOfNums x.nm)) (.int .i64 x.v)).cell; have q6:=(Box.off2 (hr2.1.box (uh BM1) ngm) hnem (.string (strOfNums x.nm)) (.int .i64 x.v)).cell; clear hq g1 g2 hr2))
   | (go_at_call 27; (refine (uh C1 _ ((uh HW).below (bl_tr (al1p w (Obj.cells #[.string { data:=#[] },.int .i64 0] 117)) (bdrewp _))) ((uh HP).below (bl_tr (al1p w (Obj.cells #[.string { data:=#[] },.int .i64 0] 117)) (bdrewp _)))).mono ?_; rintro e w1 ⟨q1,d1,L1,rfl,hq⟩; obtain ⟨h1,h2,hr,h4⟩:=uh hq; have HL:=hide h1; have HM:=hide h2; have R1':=hide (((RE.below (bl_tr (al1p w (Obj.cells #[.string { data:=#[] },.int .i64 0] 117)) (bdrewp _)) (uh HW)).trans hr).eq (by rw [no_f3])); have BF1:=hide (hr.1.box ((uh BF).below (bl_tr (al1p w (Obj.cells #[.string { data:=#[] },.int .i64 0] 117)) (bdrewp _))) ngb); have BM1:=hide (hr.1.box ((uh BM).below (bl_tr (al1p w (Obj.cells #[.string { data:=#[] },.int .i64 0] 117)) (bdrewp _))) ngm); have q1':=(uh BF1).cell; have q2':=(uh BM1).cell; have Y1:=hide (hr.1.box ((uh Y0).below (bdrewp _)) (by omega)); have y1:=(uh Y1).cell; have z1:=(uh Y1).frozen; clear hq h1 h2 hr h4)))
 go_wp2_with fail
 have kk:Kept [] 0 w3 (setMany w3 w.heap.size 0 (setC x)):=Kept.setMany (uh Y2) (by decide) (by omega) _
 have G2:Hid (isB x.nm):=hide ((uh GI))
 have R4:=hide (((uh R3').setMany (Nat.le_refl w.heap.size) gl (setC x) 0))
 have Y3:=hide ((uh Y2).set2 (.string (strOfNums x.nm)) (.int .i64 x.v))
 unfold setC strV at R4
 refine bodyPost_ret ?_ rfl ⟨x,rfl,hide ⟨uh G1,uh G2,uh R4⟩⟩
 simp [results,Tryz.results114,go_sem,(uh Y3).cell,setC,strV]
theorem cmsgsSet_any (g:Nat) (q:Option Addr) (d:Nat) (L:List FA) (num:Int) (R:List Int → SeA → Prop) (F:List Int → F3) (w:World) (hw:WstE g w) (h:MsIn g w q d L)
  (H:∀ v,Stay g w v → WstE g v → ∀ b q d L,MsIn g v q d L → L.map FA.f = (fieldsP b).1 → Calls Tryz.prog 61 #[msV q L.length d g] v fun e w' => Made (fun w x => isB x.nm) (fun x => .agg (setC x).toArray) g (R b) (F b) v e w') :
  Calls Tryz.prog 60 #[msV q L.length d g,.int .i64 num,.func (.func 61) #[] #[]] w fun e w' => ∃ b xs,e = .returned (.slice (some ⟨b,0,none⟩) xs.length xs.length) ∧ Hid (Rb noSeA R (dsV (L.map FA.f) num) xs ∧ (∀ x ∈ xs,isB x.nm) ∧ Mrow 117 setC w' b xs ∧ w.heap.size ≤ b ∧ RE g (f3 (bad3 ((allV (L.map FA.f) num).any fun f => f.2.1 != 2)) (fAll ((dsV (L.map FA.f) num).map fun b => f3 (fieldsP b).2 (F b)))) w w'):=by
 have HH:=hide H
 have HW:=hide hw
 have gl:=hw.lt
 have HM:=hide h
 have B0:=hide (al2p w (Obj.cells #[.slice q L.length d,.pointer (some ⟨g,0,none⟩)] 58) (Obj.cells #[.func (.func 61) #[] #[]] 118))
 have X1:=hide (Box.alloc (Box.new w #[.slice q L.length d,.pointer (some ⟨g,0,none⟩)] 58) (Obj.cells #[.func (.func 61) #[] #[]] 118))
 have Y1:Hid (Box ((w.alloc (Obj.cells #[.slice q L.length d,.pointer (some ⟨g,0,none⟩)] 58)).alloc (Obj.cells #[.func (.func 61) #[] #[]] 118)) (w.heap.size + 1) #[.func (.func 61) #[] #[]] 118):=hide (by have h:=Box.new (w.alloc (Obj.cells #[.slice q L.length d,.pointer (some ⟨g,0,none⟩)] 58)) #[.func (.func 61) #[] #[]] 118; rw [alloc_size6] at h; exact h)
 have C1:=hide (crowsSet_any g q d L num 114 (ent_of Tryz.func114 (by kernel_rfl) rfl) #[.pointer (some ⟨w.heap.size + 1,0,none⟩),.pointer (some ⟨w.heap.size,0,none⟩)] R (fun b => f3 (fieldsP b).2 (F b)) _ ((uh HW).below (uh B0)) ((uh HM).stay (Stay.below (uh B0) (by omega))) (fun v sv wv p c b hp ho hl => cmsg1Set_any g w.heap.size (w.heap.size + 1) q L.length d (R b) (F b) p c b v wv (sv.box (uh X1) (by omega)) (sv.box (uh Y1) (by omega)) hp ho hl (fun u su wu q' d' L' hm' hl' => uh HH u ((Stay.below (uh B0) (by omega)).trans (sv.trans su)) wu b q' d' L' hm' hl')))
 clear hw h H
 unfold msV at C1 ⊢
 go_enter Tryz.func60,Tryz.ntmps60
 go_wp2_with fail
 refine (uh C1).mono ?_
 rintro e w2 ⟨b,xs,rfl,hq⟩
 obtain ⟨g1,g2,g3,g4,g5⟩:=uh hq
 have G:=hide g1
 have GX:=hide g2
 have GM:=hide g3
 have R2:=hide (((RE.below (uh B0) (uh HW)).trans g5).eq (by rw [no_f3]))
 have hb:w.heap.size ≤ b:=Nat.le_trans (uh B0).size g4
 clear hq g1 g2 g3 g5 C1
 go_wp2_with fail
 go_ret
 exact ⟨b,xs,rfl,hide ⟨uh G,uh GX,uh GM,hb,uh R2⟩⟩
theorem crow1Int_any (g gm gb:Nat) (q0:Option Addr) (n0 d0:Nat) (K:FuncId) (hK:Ent K) (caps:Array Value) (R:Int → Prop) (F:F3) (a:FA) (w:World) (hw:WstE g w) (hm:Box w gm #[.slice q0 n0 d0,.pointer (some ⟨g,0,none⟩)] 58) (hb:Box w gb #[.func (.func K) #[] caps] 282) (ha:FaIn w a) (ho:Off g a.q a.d.length)
  (H:∀ v,Stay g w v → WstE g v → Ints .u8 v a.q a.c a.d → Calls Tryz.prog K (#[.slice a.q a.d.length a.c] ++ caps) v fun e w' => Made (fun w x => (Lit.int .i64 x).wf = true) (fun x => .int .i64 x) g R F v e w') :
  Calls Tryz.prog 259 #[faV a,.pointer (some ⟨gm,0,none⟩),.pointer (some ⟨gb,0,none⟩)] w fun e w' => Made (fun w x => (Lit.int .i64 x).wf = true) (fun x => .int .i64 x) g R (f3 (bad3 (a.wr != 2)) F) w e w':=by
 have hk:∀ (args:Array Value) (v:World),(callFunc K args).run Tryz.prog v = .ok (.enter K args) v:=hK
 have HH:=hide H
 have HW:=hide hw
 have gl:=hw.lt
 have ngm:=wst_ne hw hm (by decide)
 have ngb:=wst_ne hw hb (by decide)
 have BM:=hide hm
 have BF:=hide hb
 have HA:=hide ha
 have HO:=hide ho
 have C1:=hide (fun v (hv:WstE g v) => cnote_bad g q0 n0 d0 (a.wr != 2) v hv)
 clear hK H hm hb ha ho hw
 obtain ⟨an,awr,ax,ad,aq,ac⟩:=a
 simp only at HH HA HO C1 ⊢
 obtain ⟨DD,hD⟩:∃ DD,(awr != 2) = DD:=⟨_,rfl⟩
 rw [hD] at C1 ⊢
 unfold faV
 unfold msV at C1
 simp only
 have x1:=((uh BM).below (show Below w.heap.size w (w.alloc (Obj.cells #[.int .i64 an,.int .i64 awr,.int .u64 ax,.slice aq ad.length ac] 148)) from (al1p _ _))).cell
 go_enter Tryz.func259,Tryz.ntmps259
 go_wp2_with fail
 try rw [hD]
 refine (uh C1 _ ((uh HW).below (al1p _ _))).mono ?_
 rintro e w2 ⟨rfl,hr⟩
 have r2:=(RE.below (show Below w.heap.size w (w.alloc (Obj.cells #[.int .i64 an,.int .i64 awr,.int .u64 ax,.slice aq ad.length ac] 148)) from (al1p _ _)) (uh HW)).trans hr
 rw [no_f3] at r2
 have R2':=hide r2
 have x2:=(hr.1.box ((uh BF).below (show Below w.heap.size w (w.alloc (Obj.cells #[.int .i64 an,.int .i64 awr,.int .u64 ax,.slice aq ad.length ac] 148)) from (al1p _ _))) ngb).cell
 have x3:=(hr.1.box (Box.new w #[.int .i64 an,.int .i64 awr,.int .u64 ax,.slice aq ad.length ac] 148) (by omega)).cell
 have HI:=hide (((uh HA).below (show Below w.heap.size w (w.alloc (Obj.cells #[.int .i64 an,.int .i64 awr,.int .u64 ax,.slice aq ad.length ac] 148)) from (al1p _ _))).stay (uh HO) hr.1)
 clear hr r2 x1
 go_wp2_with fail
 refine (uh HH _ (uh R2').1 ((uh R2').wst (uh HW)) (uh HI).2.2.2).mono ?_
 rintro e w3 ⟨x,rfl,hq⟩
 obtain ⟨g1,g2,hr2⟩:=uh hq
 have G1:=hide (And.intro g1 g2)
 have R4:=hide ((uh R2').trans hr2)
 clear hq g1 g2 hr2
 go_wp2_with fail
 go_ret
 exact ⟨x,rfl,hide ⟨(uh G1).1,(uh G1).2,uh R4⟩⟩
theorem crowsInt_any (g:Nat) (q:Option Addr) (d:Nat) (L:List FA) (num:Int) (K:FuncId) (hK:Ent K) (caps:Array Value) (R:List Int → Int → Prop) (F:List Int → F3) (w:World) (hw:WstE g w) (h:MsIn g w q d L)
  (H:∀ v,Stay g w v → WstE g v → ∀ p c b,Ints .u8 v p c b → Off g p b.length → b.length ≤ 4194304 → Calls Tryz.prog K (#[.slice p b.length c] ++ caps) v fun e w' => Made (fun w x => (Lit.int .i64 x).wf = true) (fun x => .int .i64 x) g (R b) (F b) v e w') :
  Calls Tryz.prog 240 #[msV q L.length d g,.int .i64 num,.func (.func K) #[] caps] w fun e w' => ∃ b xs,e = .returned (.slice (some ⟨b,0,none⟩) xs.length xs.length) ∧ Hid (Rb (0:Int) R (dsV (L.map FA.f) num) xs ∧ (∀ x ∈ xs,(Lit.int .i64 x).wf = true) ∧ Mrow 3 i64c w' b xs ∧ w.heap.size ≤ b ∧ RE g (f3 (bad3 ((allV (L.map FA.f) num).any fun f => f.2.1 != 2)) (fAll ((dsV (L.map FA.f) num).map F))) w w'):=by
 obtain ⟨s1,s2,s3⟩:=h.small
 have C1:=hide (fun v (hv:Below w.heap.size w v) => call_any q d L num v (h.1.below hv) (by omega) (fun a ha => by have:=s3 a ha; omega))
 have HS:=hide (fun LA => all_sum (L:=L) (num:=num) (LA:=LA) h.2.2.2)
 have HK:=hide hK
 have HH:=hide H
 have HW:=hide hw
 have gl:=hw.lt
 clear hw h s3 hK H
 unfold msV
 go_enter Tryz.func240,Tryz.ntmps240
 go_wp2_with fail
 refine (uh C1 _ (al2p _ _ _)).mono ?_
 rintro e w1 ⟨v1,LA,rfl,hL,hO⟩
 obtain ⟨q1,d1,rfl,hm⟩:=ownL_ms (g:=g) (uh hO) (by simp; omega) (uh HS LA (uh hL))
 have B1:=hide (bl_tr (al2p w (Obj.cells #[.slice q L.length d,.pointer (some ⟨g,0,none⟩)] 58) (Obj.cells #[.func (.func K) #[] caps] 282)) (uh hO).1.2)
 have X1:=hide (Box.below (Box.alloc (Box.new w #[.slice q L.length d,.pointer (some ⟨g,0,none⟩)] 58) (Obj.cells #[.func (.func K) #[] caps] 282)) (uh hO).1.2)
 have Y1:Hid (Box w1 (w.heap.size + 1) #[.func (.func K) #[] caps] 282):=hide (by have h:=Box.below (Box.new (w.alloc (Obj.cells #[.slice q L.length d,.pointer (some ⟨g,0,none⟩)] 58)) #[.func (.func K) #[] caps] 282) (uh hO).1.2; rw [alloc_size6] at h; exact h)
 have W1:=hide ((uh HW).below (uh B1))
 have C2:=hide (cchInt_any g 259 (ent_of Tryz.func259 (by kernel_rfl) rfl) #[.pointer (some ⟨w.heap.size,0,none⟩),.pointer (some ⟨w.heap.size + 1,0,none⟩)] (fun a x => R a.d x) (fun a => f3 (bad3 (a.wr != 2)) (F a.d)) q1 d1 LA w1 (uh W1) hm (fun v sv wv a ha fa fo => crow1Int_any g w.heap.size (w.heap.size + 1) q L.length d K (uh HK) caps (R a.d) (F a.d) a v wv (sv.box (uh X1) (by omega)) (sv.box (uh Y1) (by omega)) fa fo (fun u su wu hu => uh HH u ((Stay.below (uh B1) (by omega)).trans (sv.trans su)) wu a.q a.c a.d hu fo (by have:=sumD_mem ha; have:=uh HS LA (uh hL); omega))))
 have HL:=hL
 clear hO hm C1 hL
 go_wp2_with fail
 refine (uh C2).mono ?_
 rintro e w2 ⟨b,xs,rfl,hq⟩
 obtain ⟨g1,g2,g3,g4,g5⟩:=uh hq
 have G:=hide (rows_end (uh HL) g1)
 have GX:=hide g2
 have GM:=hide g3
 have R2:=hide (((RE.below (uh B1) (uh HW)).trans g5).eq (rows_lev (uh HL) F))
 have hb:w.heap.size ≤ b:=Nat.le_trans (uh B1).size g4
 clear hq g1 g2 g3 g5 C2
 go_wp2_with fail
 go_ret
 exact ⟨b,xs,rfl,hide ⟨uh G,uh GX,uh GM,hb,uh R2⟩⟩
theorem cmsg1Int_any (g gm gb:Nat) (q0:Option Addr) (n0 d0:Nat) (R:Int → Prop) (F:F3) (p:Option Addr) (c:Nat) (b:List Int) (w:World) (hw:WstE g w) (hm:Box w gm #[.slice q0 n0 d0,.pointer (some ⟨g,0,none⟩)] 58) (hb:Box w gb #[.func (.func 189) #[] #[]] 234) (hp:Ints .u8 w p c b) (ho:Off g p b.length) (hl:b.length ≤ 4194304)
  (H:∀ v,Stay g w v → WstE g v → ∀ q d L,MsIn g v q d L → L.map FA.f = (fieldsP b).1 → Calls Tryz.prog 189 #[msV q L.length d g] v fun e w' => Made (fun w x => (Lit.int .i64 x).wf = true) (fun x => .int .i64 x) g R F v e w') :
  Calls Tryz.prog 241 #[.slice p b.length c,.pointer (some ⟨gb,0,none⟩),.pointer (some ⟨gm,0,none⟩)] w fun e w' => Made (fun w x => (Lit.int .i64 x).wf = true) (fun x => .int .i64 x) g R (f3 (fieldsP b).2 F) w e w':=by
 have HH:=hide H
 have HW:=hide hw
 have gl:=hw.lt
 have ngm:=wst_ne hw hm (by decide)
 have ngb:=wst_ne hw hb (by decide)
 have BM:=hide hm
 have BF:=hide hb
 have HP:=hide hp
 have C1:=hide (fun v (hv:WstE g v) (hi:Ints .u8 v p c b) => copened_any g q0 n0 d0 p c b v hv hi hl)
 obtain ⟨FF,hFF⟩:∃ F,fieldsP b = F:=⟨_,rfl⟩
 rw [hFF] at C1 HH ⊢
 clear H hm hb hp hw ho hFF
 unfold msV at C1 HH
 unfold Made at HH
 simp only at HH
 have x1:=(uh BF).cell
 have x2:=(uh BM).cell
 have x1d:=((uh BF).below (bdrewp _)).cell
 have x2d:=((uh BM).below (bdrewp _)).cell
 go_enter Tryz.func241,Tryz.ntmps241
 go_wp2_with fail
 go_region_held3 (fun v => (∀ j,v.cell? ⟨gb,j,none⟩ = (#[.func (.func 189) #[] #[]]:Array Value)[j]?) ∧ (∀ j,v.cell? ⟨gm,j,none⟩ = (#[.slice q0 n0 d0,.pointer (some ⟨g,0,none⟩)]:Array Value)[j]?)) (refine ⟨?_,?_⟩ <;> with_reducible assumption)
  (first
   | (go_at_call 189; (refine (uh HH _ (uh R1').1 ((uh R1').wst (uh HW)) _ _ _ (uh HM) (uh HL)).mono ?_; rintro e w3 ⟨x,rfl,hq⟩; obtain ⟨g1,g2,hr2⟩:=uh hq; have G1:=hide g1; have GI:=hide g2; have R3':=hide ((uh R1').trans hr2); have q3:=(hr2.1.box (uh BF1) ngb).cell; have q4:=(hr2.1.box (uh BM1) ngm).cell; clear hq g1 g2 hr2))
   | (go_at_call 27; (refine (uh C1 _ ((uh HW).below (bl_tr (Below.refl w.heap.size w) (bdrewp _))) ((uh HP).below (bl_tr (Below.refl w.heap.size w) (bdrewp _)))).mono ?_; rintro e w1 ⟨q1,d1,L1,rfl,hq⟩; obtain ⟨h1,h2,hr,h4⟩:=uh hq; have HL:=hide h1; have HM:=hide h2; have R1':=hide (((RE.below (bl_tr (Below.refl w.heap.size w) (bdrewp _)) (uh HW)).trans hr).eq (by rw [no_f3])); have BF1:=hide (hr.1.box ((uh BF).below (bl_tr (Below.refl w.heap.size w) (bdrewp _))) ngb); have BM1:=hide (hr.1.box ((uh BM).below (bl_tr (Below.refl w.heap.size w) (bdrewp _))) ngm); have q1':=(uh BF1).cell; have q2':=(uh BM1).cell; clear hq h1 h2 hr h4)))
 go_wp2_with fail
 go_ret
 exact ⟨x,rfl,hide ⟨uh G1,uh GI,uh R3'⟩⟩
theorem cmsgsInt_any (g:Nat) (q:Option Addr) (d:Nat) (L:List FA) (num:Int) (R:List Int → Int → Prop) (F:List Int → F3) (w:World) (hw:WstE g w) (h:MsIn g w q d L)
  (H:∀ v,Stay g w v → WstE g v → ∀ b q d L,MsIn g v q d L → L.map FA.f = (fieldsP b).1 → Calls Tryz.prog 189 #[msV q L.length d g] v fun e w' => Made (fun w x => (Lit.int .i64 x).wf = true) (fun x => .int .i64 x) g (R b) (F b) v e w') :
  Calls Tryz.prog 188 #[msV q L.length d g,.int .i64 num,.func (.func 189) #[] #[]] w fun e w' => ∃ b xs,e = .returned (.slice (some ⟨b,0,none⟩) xs.length xs.length) ∧ Hid (Rb (0:Int) R (dsV (L.map FA.f) num) xs ∧ (∀ x ∈ xs,(Lit.int .i64 x).wf = true) ∧ Mrow 3 i64c w' b xs ∧ w.heap.size ≤ b ∧ RE g (f3 (bad3 ((allV (L.map FA.f) num).any fun f => f.2.1 != 2)) (fAll ((dsV (L.map FA.f) num).map fun b => f3 (fieldsP b).2 (F b)))) w w'):=by
 have HH:=hide H
 have HW:=hide hw
 have gl:=hw.lt
 have HM:=hide h
 have B0:=hide (al2p w (Obj.cells #[.slice q L.length d,.pointer (some ⟨g,0,none⟩)] 58) (Obj.cells #[.func (.func 189) #[] #[]] 234))
 have X1:=hide (Box.alloc (Box.new w #[.slice q L.length d,.pointer (some ⟨g,0,none⟩)] 58) (Obj.cells #[.func (.func 189) #[] #[]] 234))
 have Y1:Hid (Box ((w.alloc (Obj.cells #[.slice q L.length d,.pointer (some ⟨g,0,none⟩)] 58)).alloc (Obj.cells #[.func (.func 189) #[] #[]] 234)) (w.heap.size + 1) #[.func (.func 189) #[] #[]] 234):=hide (by have h:=Box.new (w.alloc (Obj.cells #[.slice q L.length d,.pointer (some ⟨g,0,none⟩)] 58)) #[.func (.func 189) #[] #[]] 234; rw [alloc_size6] at h; exact h)
 have C1:=hide (crowsInt_any g q d L num 241 (ent_of Tryz.func241 (by kernel_rfl) rfl) #[.pointer (some ⟨w.heap.size + 1,0,none⟩),.pointer (some ⟨w.heap.size,0,none⟩)] R (fun b => f3 (fieldsP b).2 (F b)) _ ((uh HW).below (uh B0)) ((uh HM).stay (Stay.below (uh B0) (by omega))) (fun v sv wv p c b hp ho hl => cmsg1Int_any g w.heap.size (w.heap.size + 1) q L.length d (R b) (F b) p c b v wv (sv.box (uh X1) (by omega)) (sv.box (uh Y1) (by omega)) hp ho hl (fun u su wu q' d' L' hm' hl' => uh HH u ((Stay.below (uh B0) (by omega)).trans (sv.trans su)) wu b q' d' L' hm' hl')))
 clear hw h H
 unfold msV at C1 ⊢
 go_enter Tryz.func188,Tryz.ntmps188
 go_wp2_with fail
 refine (uh C1).mono ?_
 rintro e w2 ⟨b,xs,rfl,hq⟩
 obtain ⟨g1,g2,g3,g4,g5⟩:=uh hq
 have G:=hide g1
 have GX:=hide g2
 have GM:=hide g3
 have R2:=hide (((RE.below (uh B0) (uh HW)).trans g5).eq (by rw [no_f3]))
 have hb:w.heap.size ≤ b:=Nat.le_trans (uh B0).size g4
 clear hq g1 g2 g3 g5 C1
 go_wp2_with fail
 go_ret
 exact ⟨b,xs,rfl,hide ⟨uh G,uh GX,uh GM,hb,uh R2⟩⟩
theorem str_list (s:Str):(strOfNums s).toList = s.map fun n => UInt8.ofNat n.toNat:=by
 rw [ByteArray.toList_eq,strOfNums_data]
theorem str_own (s:Str) (hs:isB s):((strOfNums s).toList == [97,105,46,111,110,110,120]) = decide (s = [97,105,46,111,110,110,120]):=by
 rw [Bool.eq_iff_iff,beq_iff_eq,decide_eq_true_eq]
 constructor
 ·intro h
  refine str_inj hs (by decide) ?_
  have h2:(strOfNums [97,105,46,111,110,110,120]).toList = [97,105,46,111,110,110,120]:=by rw [str_list]; rfl
  rw [← h2,str_list,str_list] at h
  unfold strOfNums
  rw [h]
 ·intro h
  subst h
  rw [str_list]; rfl
theorem last_isB {L:List FA} {num wire:Int} (h:∀ a ∈ L,isB a.d):isB (lastV (L.map FA.f) num wire).1.2.2.2:=by
 unfold lastV
 split
 ·exact fun c hc => by cases hc
 ·split
  ·exact fun c hc => by cases hc
  ·rename_i h0
   have hm:(allV (L.map FA.f) num).getD ((allV (L.map FA.f) num).length - 1) noFld ∈ allV (L.map FA.f) num:=getD_mem7 (by omega)
   obtain ⟨a,ha,e⟩:=List.mem_map.1 (List.mem_filter.1 hm).1
   simp only
   rw [← e]
   exact h a ha
theorem text_isB {L:List FA} {num:Int} (h:∀ a ∈ L,isB a.d):isB (textP (L.map FA.f) num).1:=last_isB h
theorem i64w_wf (x:Int):(Lit.int .i64 (i64w x)).wf = true:=by
 unfold i64w
 rw [IntKind.wrap_i64]
 simp [Lit.wf,IntKind.min,IntKind.max,IntKind.signed,IntKind.bits]
 omega
theorem cisOwn_any (s:Str) (w:World) (hs:isB s):Calls Tryz.prog 112 #[strV s] w fun e w' => e = .returned (.bool (oursB s)) ∧ w' = w:=by
 unfold strV
 by_cases h0:s = []
 ·subst h0
  have te:(strOfNums []).toList.isEmpty = true:=by rw [str_isE]; rfl
  go_enter Tryz.func112,Tryz.ntmps112
  go_wp2_with fail
  go_ret
  exact ⟨rfl,rfl⟩
 ·have te:(strOfNums s).toList.isEmpty = false:=by rw [str_isE]; exact decide_eq_false h0
  have HV:Hid (oursB s = decide (s = [97,105,46,111,110,110,120])):=hide (by unfold oursB; rw [decide_eq_false h0]; rfl)
  rw [uh HV,← str_own s hs]
  go_enter Tryz.func112,Tryz.ntmps112
  go_wp2_with fail
  go_ret
  exact ⟨rfl,rfl⟩
theorem creadDim_any (g:Nat) (q:Option Addr) (d:Nat) (L:List FA) (w:World) (hw:WstE g w) (h:MsIn g w q d L) :
  Calls Tryz.prog 189 #[msV q L.length d g] w fun e w' => Made (fun w x => (Lit.int .i64 x).wf = true) (fun x => .int .i64 x) g (fun x => x = (wholeP (L.map FA.f) 1).1) (f3 (wholeP (L.map FA.f) 1).2 (odd3 (!(lastV (L.map FA.f) 1 0).2.1))) w e w':=by
 have C1:=hide (fun v (hv:Below w.heap.size w v) => clastm_any g q d L 1 0 v (hw.below hv) (h.stay (Stay.below hv (Nat.le_of_lt hw.lt))))
 have C2:=hide (fun is v (hv:WstE g v) => cnote_odd g q L.length d is v hv)
 have HV:Hid (wholeP (L.map FA.f) 1 = (i64w (lastV (L.map FA.f) 1 0).1.2.2.1,bad3 ((lastV (L.map FA.f) 1 0).2.2 != 0))):=hide rfl
 rw [uh HV]
 clear HV
 generalize lastV (L.map FA.f) 1 0 = R at C1 ⊢
 obtain ⟨R1,R2,R3⟩:=R
 simp only at C1 ⊢
 generalize (R3 != 0) = D at C1 ⊢
 have HW:=hide hw
 have gl:=hw.lt
 clear hw h
 unfold msV at C1 C2 ⊢
 go_enter Tryz.func189,Tryz.ntmps189
 go_wp2_with fail
 refine (uh C1 _ (al1p _ _)).mono ?_
 rintro e w1 ⟨a,rfl,hq⟩
 obtain ⟨h1,h2,h3,h4⟩:=uh hq
 have r1:=(RE.below (al1p w _) (uh HW)).trans h4
 rw [no_f3] at r1
 have X1:=hide (h4.1.box (Box.new w #[.slice q L.length d,.pointer (some ⟨g,0,none⟩)] 58) (by omega))
 have x1:=fun o => ((uh X1).alloc o).cell
 have R1':=hide r1
 subst h1
 clear hq h4 C1 r1 h2 h3
 obtain ⟨an,awr,ax,ad,aq,ac⟩:=a
 unfold faV
 simp only
 have l1:=(uh X1).lt
 go_wp2_with fail
 refine (uh C2 _ _ (((uh R1').wst (uh HW)).below (al1p w1 _))).mono ?_
 rintro e w2 ⟨rfl,hr⟩
 have f2:=(hr.1.box (Box.new w1 #[.int .i64 an,.int .i64 awr,.int .u64 ax,.slice aq ad.length ac] 148) (by omega)).cell
 have H5:=hide (((uh R1').trans (RE.below (al1p w1 _) ((uh R1').wst (uh HW)))).trans hr)
 rw [f3_no] at H5
 clear hr
 go_wp2_with fail
 go_ret
 exact ⟨i64w ax,by first | rfl | (show _ = Ending.returned (.int .i64 (IntKind.i64.wrap ax)); rw [IntKind.wrap_i64]; rfl) | (show _ = Ending.returned (.int .i64 (IntKind.i64.wrap ax)); simp [wrap64,IntKind.wrap_i64]),hide ⟨rfl,i64w_wf ax,uh H5⟩⟩
def versS:Int → List SeA → Int
 | v,[] => v
 | v,x :: r => versS (if oursB x.nm = true then x.v else v) r
theorem cknown_any (b:Nat) (l:List SeA) (w:World) (h:Mrow 117 setC w b l) (hi:∀ x ∈ l,isB x.nm) (hl:l.length ≤ 100000000) :
  Calls Tryz.prog 59 #[.slice (some ⟨b,0,none⟩) l.length l.length] w fun e w' => e = .returned (.bool (versS 0 l == 17)) ∧ Below w.heap.size w w':=by
 have A1:=hide h
 have HI:=hide hi
 have HL0:=lt_of_block h
 clear h hi
 go_enter Tryz.func59,Tryz.ntmps59
 go_wp2_with fail
 go_loopw [3,8] (fun vv iv wr => ∃ n:Nat,∃ V:Int,iv = .int .i64 n ∧ vv = .int .i64 V ∧ n ≤ l.length ∧ Hid (versS V (l.drop n) = versS 0 l) ∧ Hid (Below w.heap.size w wr)) (fun _ iv _ => l.length - (intOf iv).toNat)
 case atStart => exact ⟨0,0,rfl,rfl,by omega,hide (by rw [List.drop_zero]),hide (Below.refl _ _)⟩
 case round =>
  obtain ⟨n,V,rfl,rfl,hn,HV,HB⟩:=hrel
  by_cases hlt:n < l.length
  ·have hi:(n:Int) < (l.length:Int):=by omega
   have M1:=(uh A1).below (uh HB)
   have k0:wr.cell? ⟨b,n * 2,none⟩ = some (strV (l.getD n noSeA).nm):=M1.at setWd (z:=noSeA) (i:=n) (j:=0) hlt rfl
   have k1:wr.cell? ⟨b,n * 2 + 1,none⟩ = some (.int .i64 (l.getD n noSeA).v):=M1.at setWd (z:=noSeA) (i:=n) (j:=1) hlt rfl
   have CO:=hide (fun v => cisOwn_any (l.getD n noSeA).nm v (uh HI _ (getD_mem7 hlt)))
   have HD:Hid (l.drop n = l.getD n noSeA :: l.drop (n + 1)):=hide (by rw [List.getD_eq_getElem?_getD,List.getElem?_eq_getElem hlt]; exact List.drop_eq_getElem_cons hlt)
   rw [uh HD,versS] at HV
   clear HD M1
   generalize oursB (l.getD n noSeA).nm = D at CO HV
   generalize l.getD n noSeA = a at k0 k1 CO HV
   unfold strV at k0 CO
   cases D
   ·rw [if_neg (by decide)] at HV
    go_wp2_with fail
    refine (uh CO _).mono ?_
    rintro e v ⟨rfl,hv⟩
    replace hv:=hv.symm
    subst hv
    have BB:=hide (bl_tr (uh HB) (al1p wr (Obj.cells #[.string (strOfNums a.nm),.int .i64 a.v] 117)))
    go_wp2_with fail
    go_roundw
    case rel => exact ⟨n + 1,V,by go_num,rfl,by omega,HV,BB⟩
    case measure => simp [intOf]; omega
   ·rw [if_pos rfl] at HV
    go_wp2_with fail
    refine (uh CO _).mono ?_
    rintro e v ⟨rfl,hv⟩
    replace hv:=hv.symm
    subst hv
    have BB:=hide (bl_tr (uh HB) (al1p wr (Obj.cells #[.string (strOfNums a.nm),.int .i64 a.v] 117)))
    go_wp2_with fail
    go_roundw
    case rel => exact ⟨n + 1,a.v,by go_num,rfl,by omega,HV,BB⟩
    case measure => simp [intOf]; omega
  ·have hi:¬ (n:Int) < (l.length:Int):=by omega
   rw [List.drop_of_length_le (by omega),versS] at HV
   go_wp2_with fail
   go_ret
   exact ⟨by rw [← uh HV]; rfl,uh HB⟩
theorem creadSet_any (g:Nat) (q:Option Addr) (d:Nat) (L:List FA) (w:World) (hw:WstE g w) (h:MsIn g w q d L) :
  Calls Tryz.prog 61 #[msV q L.length d g] w fun e w' => Made (fun w x => isB x.nm) (fun x => .agg (setC x).toArray) g (fun x => x = ⟨(textP (L.map FA.f) 1).1,(wholeP (L.map FA.f) 2).1⟩) (f3 (textP (L.map FA.f) 1).2 (wholeP (L.map FA.f) 2).2) w e w':=by
 have HTB:Hid (isB (textP (L.map FA.f) 1).1):=hide (text_isB (fun a ha => wf_isB (h.1.2 a ha).2.2.2.2.2.1))
 have C1:=hide (fun v (sv:Stay g w v) (hv:WstE g v) => ctxt_any g q d L 1 v hv (h.stay sv))
 have C2:=hide (fun v (sv:Stay g w v) (hv:WstE g v) => cnum_any g q d L 2 v hv (h.stay sv))
 have HW:=hide hw
 have gl:=hw.lt
 clear hw h
 generalize textP (L.map FA.f) 1 = T at C1 HTB ⊢
 generalize wholeP (L.map FA.f) 2 = N at C2 ⊢
 obtain ⟨T1,T2⟩:=T
 obtain ⟨N1,N2⟩:=N
 simp only at C1 C2 HTB ⊢
 unfold msV at C1 C2 ⊢
 unfold strV at C1
 have A0:=hide (al2p w (Obj.cells #[.slice q L.length d,.pointer (some ⟨g,0,none⟩)] 58) (Obj.cells #[.string { data:=#[] },.int .i64 0] 117))
 have X0:=hide (Box.alloc (Box.new w #[.slice q L.length d,.pointer (some ⟨g,0,none⟩)] 58) (Obj.cells #[.string { data:=#[] },.int .i64 0] 117))
 have Y0:Hid (Box ((w.alloc (Obj.cells #[.slice q L.length d,.pointer (some ⟨g,0,none⟩)] 58)).alloc (Obj.cells #[.string { data:=#[] },.int .i64 0] 117)) (w.heap.size + 1) #[.string { data:=#[] },.int .i64 0] 117):=hide (by have h:=Box.new (w.alloc (Obj.cells #[.slice q L.length d,.pointer (some ⟨g,0,none⟩)] 58)) #[.string { data:=#[] },.int .i64 0] 117; rw [alloc_size6] at h; exact h)
 have x0:=(uh X0).cell
 have x0d:=((uh X0).below (bdrewp _)).cell
 have D0:=hide (bl_tr (uh A0) (bdrewp _))
 go_enter Tryz.func61,Tryz.ntmps61
 go_wp2_with fail
 go_region_held3 (fun v => ∀ j,v.cell? ⟨w.heap.size,j,none⟩ = (#[.slice q L.length d,.pointer (some ⟨g,0,none⟩)]:Array Value)[j]?) (with_reducible assumption)
  (first
   | (go_at_call 57; (refine (uh C2 _ (uh R1').1 ((uh R1').wst (uh HW))).mono ?_; rintro e w2 ⟨rfl,hr⟩; have R2':=hide ((uh R1').trans hr); have X2:=hide (hr.1.box (uh X1) (by omega)); have x2:=(uh X2).cell; have Y2:=hide (hr.1.box (uh Y1) (by omega)); have y2:=(uh Y2).cell; have z2:=(uh Y2).frozen; have x3:=(Box.off2 (uh X2) (show w.heap.size ≠ w.heap.size + 1 by omega) (.string (strOfNums T1)) (.int .i64 N1)).cell; clear hr))
   | (go_at_call 115; (refine (uh C1 _ (Stay.below (uh D0) (by omega)) ((uh HW).below (uh D0))).mono ?_; rintro e w1 ⟨rfl,hr⟩; have R1':=hide (((RE.below (uh D0) (uh HW)).trans hr).eq (by rw [no_f3])); have X1:=hide (hr.1.box ((uh X0).below (bdrewp _)) (by omega)); have x1:=(uh X1).cell; have Y1:=hide (hr.1.box ((uh Y0).below (bdrewp _)) (by omega)); clear hr)))
 go_wp2_with fail
 have Y3:=hide ((uh Y2).set2 (.string (strOfNums T1)) (.int .i64 N1))
 have R4:=hide (((uh R2').setNew (show w.heap.size ≤ w.heap.size + 1 by omega) gl 0 (.string (strOfNums T1))).setNew (show w.heap.size ≤ w.heap.size + 1 by omega) gl 1 (.int .i64 N1))
 refine bodyPost_ret ?_ rfl ⟨⟨T1,N1⟩,rfl,hide ⟨rfl,uh HTB,uh R4⟩⟩
 simp [results,Tryz.results61,go_sem,(uh Y3).cell,setC,strV]
theorem rsame7_any (p q:Option Addr) (cap cap':Nat) (xs ys:List Int) (w:World) (h1:Ints .i64 w p cap xs) (h2:Ints .i64 w q cap' ys) :
  Calls Tryz.prog 73 #[.slice p xs.length cap,.slice q ys.length cap'] w fun e w' => e = .returned (.bool (decide (xs = ys))) ∧ Below w.heap.size w w':=by
 have hl1:=h1.len
 have hl2:=h2.len
 have H1:=hide h1
 have H2:=hide h2
 clear h1 h2
 by_cases hl:xs.length = ys.length
 ·have hli:((xs.length:Int) == (ys.length:Int)) = true:=by simp [hl]
  have HL:=hide hl
  clear hl
  go_enter Tryz.func73,Tryz.ntmps73
  go_wp2_with fail
  go_loopw [5] (fun iv wr => ∃ n:Nat,iv = .int .i64 n ∧ n ≤ xs.length ∧ Hid (xs.take n = ys.take n) ∧ ∃ m,wr = w.drewN m) (fun iv _ => xs.length - (intOf iv).toNat)
  case atStart => exact ⟨0,rfl,by omega,hide (by simp),0,rfl⟩
  case round =>
   obtain ⟨n,rfl,hn,HT,m,rfl⟩:=hrel
   by_cases hlt:n < xs.length
   ·have hlt2:n < ys.length:=by rw [← uh HL]; exact hlt
    obtain ⟨b,o,rfl,hb,hc⟩:=(uh H1).lies (by omega)
    obtain ⟨b',o',rfl,hb',hc'⟩:=(uh H2).lies (by omega)
    have hi:(n:Int) < (xs.length:Int):=by omega
    have hi2:(n:Int) < (ys.length:Int):=by omega
    have c1:=hc n hlt
    have c2:=hc' n hlt2
    have t1:xs.take (n + 1) = xs.take n ++ [xs.getD n 0]:=by rw [List.take_add_one]; simp [List.getElem?_eq_getElem hlt]
    have t2:ys.take (n + 1) = ys.take n ++ [ys.getD n 0]:=by rw [List.take_add_one]; simp [List.getElem?_eq_getElem hlt2]
    have T1:=hide t1
    have T2:=hide t2
    clear hc hc' t1 t2 hlt2
    generalize xs.getD n 0 = x at c1 T1
    generalize ys.getD n 0 = y at c2 T2
    by_cases hxy:x = y
    ·subst hxy
     go_wp2_with fail
     go_quiet (fail)
     go_wp2_with fail
     go_roundw
     case rel => exact ⟨n + 1,by go_num,by omega,hide (by rw [uh T1,uh T2,uh HT]),_,rfl⟩
     case measure => simp [intOf]; omega
    ·have hne:(x == y) = false:=by simp [hxy]
     have hneq:¬ xs = ys:=fun h => by
      have a:=uh T1; have b:=uh T2
      rw [h] at a; rw [a] at b
      have:=List.append_inj_right b (by rw [← uh HT,h])
      simp at this; exact hxy this
     have HN:=hide hneq
     clear hneq hxy
     go_wp2_with fail
     go_quiet (fail)
     go_wp2_with fail
     go_ret
     exact ⟨ret_bool (by simp [uh HN]),bw_drew (bw_drew (Below.refl _ _) _) _⟩
   ·have hi:¬ (n:Int) < (xs.length:Int):=by omega
    have en:n = xs.length:=by omega
    have he:xs = ys:=by
     have:=uh HT
     rw [en,List.take_length,List.take_of_length_le (by rw [uh HL]; exact Nat.le_refl _)] at this
     exact this
    have HE:=hide he
    clear he
    go_wp2_with fail
    go_ret
    exact ⟨ret_bool (by simp [uh HE]),bw_drew (Below.refl _ _) _⟩
 ·have hli:((xs.length:Int) == (ys.length:Int)) = false:=by simp; omega
  have hne:¬ xs = ys:=fun h => hl (by rw [h])
  have HN:=hide hne
  clear hne hl
  go_enter Tryz.func73,Tryz.ntmps73
  go_wp2_with fail
  go_ret
  exact ⟨ret_bool (by simp [uh HN]),Below.refl _ _⟩
theorem str_ne {a b:Str} (ha:isB a) (hb:isB b) (h:¬ a = b):((strOfNums a).toList == (strOfNums b).toList) = false:=by
 rw [beq_eq_false_iff_ne]
 intro e
 refine h (str_inj ha hb ?_)
 rw [str_list,str_list] at e
 unfold strOfNums
 rw [e]
theorem rnames7_any (p q:Option Addr) (cap cap':Nat) (xs ys:List Str) (w:World) (h1:Ls strV w p cap xs) (h2:Ls strV w q cap' ys) (b1:∀ s ∈ xs,isB s) (b2:∀ s ∈ ys,isB s) :
  Calls Tryz.prog 74 #[.slice p xs.length cap,.slice q ys.length cap'] w fun e w' => e = .returned (.bool (decide (xs = ys))) ∧ Below w.heap.size w w':=by
 have hl1:=h1.len
 have hl2:=h2.len
 have H1:=hide h1
 have H2:=hide h2
 clear h1 h2
 by_cases hl:xs.length = ys.length
 ·have hli:((xs.length:Int) == (ys.length:Int)) = true:=by simp [hl]
  have HL:=hide hl
  clear hl
  go_enter Tryz.func74,Tryz.ntmps74
  go_wp2_with fail
  go_loopw [5] (fun iv wr => ∃ n:Nat,iv = .int .i64 n ∧ n ≤ xs.length ∧ Hid (xs.take n = ys.take n) ∧ ∃ m,wr = w.drewN m) (fun iv _ => xs.length - (intOf iv).toNat)
  case atStart => exact ⟨0,rfl,by omega,hide (by simp),0,rfl⟩
  case round =>
   obtain ⟨n,rfl,hn,HT,m,rfl⟩:=hrel
   by_cases hlt:n < xs.length
   ·have hlt2:n < ys.length:=by rw [← uh HL]; exact hlt
    obtain ⟨b,o,rfl,hb,hc⟩:=(uh H1).lies (by omega)
    obtain ⟨b',o',rfl,hb',hc'⟩:=(uh H2).lies (by omega)
    have hi:(n:Int) < (xs.length:Int):=by omega
    have hi2:(n:Int) < (ys.length:Int):=by omega
    have c1:=hc n hlt
    have c2:=hc' n hlt2
    have t1:xs.take (n + 1) = xs.take n ++ [xs.getD n default]:=by rw [List.take_add_one]; simp [List.getElem?_eq_getElem hlt]
    have t2:ys.take (n + 1) = ys.take n ++ [ys.getD n default]:=by rw [List.take_add_one]; simp [List.getElem?_eq_getElem hlt2]
    have T1:=hide t1
    have T2:=hide t2
    clear hc hc' t1 t2
    have hx1:=b1 _ (getD_mem7 (z:=default) hlt)
    have hy1:=b2 _ (getD_mem7 (z:=default) hlt2)
    clear hlt2
    generalize xs.getD n default = x at c1 T1 hx1
    generalize ys.getD n default = y at c2 T2 hy1
    unfold strV at c1 c2
    by_cases hxy:x = y
    ·subst hxy
     go_wp2_with fail
     go_quiet (fail)
     go_wp2_with fail
     go_roundw
     case rel => exact ⟨n + 1,by go_num,by omega,hide (by rw [uh T1,uh T2,uh HT]),_,rfl⟩
     case measure => simp [intOf]; omega
    ·have hne:((strOfNums x).toList == (strOfNums y).toList) = false:=str_ne hx1 hy1 hxy
     have hneq:¬ xs = ys:=fun h => by
      have a:=uh T1; have b:=uh T2
      rw [h] at a; rw [a] at b
      have:=List.append_inj_right b (by rw [← uh HT,h])
      simp at this; exact hxy this
     have HN:=hide hneq
     clear hneq hxy
     go_wp2_with fail
     go_quiet (fail)
     go_wp2_with fail
     go_ret
     exact ⟨ret_bool (by simp [uh HN]),bw_drew (bw_drew (Below.refl _ _) _) _⟩
   ·have hi:¬ (n:Int) < (xs.length:Int):=by omega
    have en:n = xs.length:=by omega
    have he:xs = ys:=by
     have:=uh HT
     rw [en,List.take_length,List.take_of_length_le (by rw [uh HL]; exact Nat.le_refl _)] at this
     exact this
    have HE:=hide he
    clear he
    go_wp2_with fail
    go_ret
    exact ⟨ret_bool (by simp [uh HE]),bw_drew (Below.refl _ _) _⟩
 ·have hli:((xs.length:Int) == (ys.length:Int)) = false:=by simp; omega
  have hne:¬ xs = ys:=fun h => hl (by rw [h])
  have HN:=hide hne
  clear hne hl
  go_enter Tryz.func74,Tryz.ntmps74
  go_wp2_with fail
  go_ret
  exact ⟨ret_bool (by simp [uh HN]),Below.refl _ _⟩
end Go.Proofs.YtmdlaahdgjegcaaGreat
