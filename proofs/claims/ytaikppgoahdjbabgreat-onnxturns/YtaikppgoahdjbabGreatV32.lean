import Derived.Test.YtaikppgoahdjbabGreatV27
set_option maxRecDepth 100000
set_option maxHeartbeats 8000000
namespace Go.Proofs.YtaikppgoahdjbabGreat
open Go.RowKit
set_option linter.unusedVariables false
theorem crow1Attr_any (g gm gb:Nat) (q0:Option Addr) (n0 d0:Nat) (K:FuncId) (hK:Ent K) (caps:Array Value) (R:AtA → Prop) (F:F3) (a:FA) (w:World) (hw:WstE g w) (hm:Box w gm #[.slice q0 n0 d0,.pointer (some ⟨g,0,none⟩)] 74) (hb:Box w gb #[.func (.func K) #[] caps] 216) (ha:FaIn w a) (ho:Off g a.q a.d.length)
  (H:∀ v,Stay g w v → WstE g v → Ints .u8 v a.q a.c a.d → Calls Tryz.prog K (#[.slice a.q a.d.length a.c] ++ caps) v fun e w' => Made (fun w x => AtIn 0 w x) (fun x => .agg (atCells x).toArray) g R F v e w') :
  Calls Tryz.prog 192 #[faV a,.pointer (some ⟨gm,0,none⟩),.pointer (some ⟨gb,0,none⟩)] w fun e w' => Made (fun w x => AtIn 0 w x) (fun x => .agg (atCells x).toArray) g R (f3 (bad3 (a.wr != 2)) F) w e w':=by
 have hk:∀ (args:Array Value) (v:World),(callFunc K args).run Tryz.prog v = .ok (.enter K args) v:=hK
 have HH:=hide H
 have HW:=hide hw
 have gl:=hw.lt
 have ngm:=wst_ne hw hm (by decide)
 have ngb:=wst_ne hw hb (by decide)
 have BM:=hide hm
 have BF:=hide hb
 have HA:=hide ha
 have HO:=hide ho
 have C1:=hide (fun v (hv:WstE g v) => cnote_bad g q0 n0 d0 (a.wr != 2) v hv)
 clear hK H hm hb ha ho hw
 obtain ⟨an,awr,ax,ad,aq,ac⟩:=a
 simp only at HH HA HO C1 ⊢
 obtain ⟨DD,hD⟩:∃ DD,(awr != 2) = DD:=⟨_,rfl⟩
 rw [hD] at C1 ⊢
 unfold faV
 unfold msV at C1
 simp only
 have Y0:Hid (Box ((w.alloc (Obj.cells #[.int .i64 an,.int .i64 awr,.int .u64 ax,.slice aq ad.length ac] 91)).alloc (Obj.cells #[.string { data:=#[] },.int .i64 0,.int .u32 0,.int .i64 0,.string { data:=#[] },.int .i64 0,.slice none 0 0,.slice none 0 0,.slice none 0 0,.slice none 0 0,.slice none 0 0,.slice none 0 0] 120)) (w.heap.size + 1) #[.string { data:=#[] },.int .i64 0,.int .u32 0,.int .i64 0,.string { data:=#[] },.int .i64 0,.slice none 0 0,.slice none 0 0,.slice none 0 0,.slice none 0 0,.slice none 0 0,.slice none 0 0] 120):=hide (by have h:=Box.new (w.alloc (Obj.cells #[.int .i64 an,.int .i64 awr,.int .u64 ax,.slice aq ad.length ac] 91)) #[.string { data:=#[] },.int .i64 0,.int .u32 0,.int .i64 0,.string { data:=#[] },.int .i64 0,.slice none 0 0,.slice none 0 0,.slice none 0 0,.slice none 0 0,.slice none 0 0,.slice none 0 0] 120; rw [alloc_size6] at h; exact h)
 have x1:=((uh BM).below (show Below w.heap.size w ((w.alloc (Obj.cells #[.int .i64 an,.int .i64 awr,.int .u64 ax,.slice aq ad.length ac] 91)).alloc (Obj.cells #[.string { data:=#[] },.int .i64 0,.int .u32 0,.int .i64 0,.string { data:=#[] },.int .i64 0,.slice none 0 0,.slice none 0 0,.slice none 0 0,.slice none 0 0,.slice none 0 0,.slice none 0 0] 120)) from (al2p _ _ _))).cell
 go_enter Tryz.func192,Tryz.ntmps192
 go_wp2_with fail
 try rw [hD]
 refine (uh C1 _ ((uh HW).below (al2p _ _ _))).mono ?_
 rintro e w2 ⟨rfl,hr⟩
 have r2:=(RE.below (show Below w.heap.size w ((w.alloc (Obj.cells #[.int .i64 an,.int .i64 awr,.int .u64 ax,.slice aq ad.length ac] 91)).alloc (Obj.cells #[.string { data:=#[] },.int .i64 0,.int .u32 0,.int .i64 0,.string { data:=#[] },.int .i64 0,.slice none 0 0,.slice none 0 0,.slice none 0 0,.slice none 0 0,.slice none 0 0,.slice none 0 0] 120)) from (al2p _ _ _)) (uh HW)).trans hr
 rw [no_f3] at r2
 have R2':=hide r2
 have x2:=(hr.1.box ((uh BF).below (show Below w.heap.size w ((w.alloc (Obj.cells #[.int .i64 an,.int .i64 awr,.int .u64 ax,.slice aq ad.length ac] 91)).alloc (Obj.cells #[.string { data:=#[] },.int .i64 0,.int .u32 0,.int .i64 0,.string { data:=#[] },.int .i64 0,.slice none 0 0,.slice none 0 0,.slice none 0 0,.slice none 0 0,.slice none 0 0,.slice none 0 0] 120)) from (al2p _ _ _))) ngb).cell
 have x3:=(hr.1.box ((Box.new w #[.int .i64 an,.int .i64 awr,.int .u64 ax,.slice aq ad.length ac] 91).alloc (Obj.cells #[.string { data:=#[] },.int .i64 0,.int .u32 0,.int .i64 0,.string { data:=#[] },.int .i64 0,.slice none 0 0,.slice none 0 0,.slice none 0 0,.slice none 0 0,.slice none 0 0,.slice none 0 0] 120)) (by omega)).cell
 have Y1:=hide (hr.1.box (uh Y0) (by omega))
 have HI:=hide (((uh HA).below (show Below w.heap.size w ((w.alloc (Obj.cells #[.int .i64 an,.int .i64 awr,.int .u64 ax,.slice aq ad.length ac] 91)).alloc (Obj.cells #[.string { data:=#[] },.int .i64 0,.int .u32 0,.int .i64 0,.string { data:=#[] },.int .i64 0,.slice none 0 0,.slice none 0 0,.slice none 0 0,.slice none 0 0,.slice none 0 0,.slice none 0 0] 120)) from (al2p _ _ _))).stay (uh HO) hr.1)
 clear hr r2 x1
 go_wp2_with fail
 refine (uh HH _ (uh R2').1 ((uh R2').wst (uh HW)) (uh HI).2.2.2).mono ?_
 rintro e w3 ⟨x,rfl,hq⟩
 obtain ⟨g1,g2,hr2⟩:=uh hq
 have Y2:=hide (hr2.1.box (uh Y1) (by omega))
 have y2:=(uh Y2).cell
 have z2:=(uh Y2).frozen
 have kk:Kept tenTS 0 w3 (setMany w3 (w.heap.size + 1) 0 (atCells x)):=Kept.setMany (uh Y2) (by decide) (by omega) _
 have G2:Hid (AtIn 0 (setMany w3 (w.heap.size + 1) 0 (atCells x)) x):=hide (g2.kept (fun _ h => h) (kk))
 have R4:=hide (((uh R2').trans hr2).setMany (show w.heap.size ≤ w.heap.size + 1 by omega) gl (atCells x) 0)
 have Y3:=hide ((uh Y2).set12 (.string (strOfNums x.nm)) (.int .i64 x.kd) (.int .u32 x.f) (.int .i64 x.i) (.string (strOfNums x.s)) (.int .i64 x.T.1) (.slice x.A.pd x.T.2.1.length x.A.cd) (.slice x.A.pf x.T.2.2.1.length x.A.cf) (.slice x.A.pi x.T.2.2.2.1.length x.A.ci) (.slice x.A.pb x.T.2.2.2.2.length x.A.cb) (.slice x.qf x.fl.length x.cf) (.slice x.qi x.is.length x.ci))
 have G1:=hide g1
 clear hq g1 g2 hr2 kk
 unfold atCells tenCells strV at G2 R4 ⊢
 simp only [List.cons_append,List.nil_append] at G2 R4 ⊢
 go_wp2_with fail
 refine bodyPost_ret ?_ rfl ⟨x,rfl,hide ⟨uh G1,uh G2,uh R4⟩⟩
 simp [results,Tryz.results192,go_sem,(uh Y3).cell,atCells,tenCells,strV]
theorem crowsAttr_any (g:Nat) (q:Option Addr) (d:Nat) (L:List FA) (num:Int) (K:FuncId) (hK:Ent K) (caps:Array Value) (R:List Int → AtA → Prop) (F:List Int → F3) (w:World) (hw:WstE g w) (h:MsIn g w q d L)
  (H:∀ v,Stay g w v → WstE g v → ∀ p c b,Ints .u8 v p c b → Off g p b.length → b.length ≤ 4194304 → Calls Tryz.prog K (#[.slice p b.length c] ++ caps) v fun e w' => Made (fun w x => AtIn 0 w x) (fun x => .agg (atCells x).toArray) g (R b) (F b) v e w') :
  Calls Tryz.prog 172 #[msV q L.length d g,.int .i64 num,.func (.func K) #[] caps] w fun e w' => ∃ b xs,e = .returned (.slice (some ⟨b,0,none⟩) xs.length xs.length) ∧ Hid (Rb noAtA R (dsV (L.map FA.f) num) xs ∧ (∀ x ∈ xs,AtIn 0 w' x) ∧ Mrow 120 atCells w' b xs ∧ w.heap.size ≤ b ∧ RE g (f3 (bad3 ((allV (L.map FA.f) num).any fun f => f.2.1 != 2)) (fAll ((dsV (L.map FA.f) num).map F))) w w'):=by
 obtain ⟨s1,s2,s3⟩:=h.small
 have C1:=hide (fun v (hv:Below w.heap.size w v) => call_any q d L num v (h.1.below hv) (by omega) (fun a ha => by have:=s3 a ha; omega))
 have HS:=hide (fun LA => all_sum (L:=L) (num:=num) (LA:=LA) h.2.2.2)
 have HK:=hide hK
 have HH:=hide H
 have HW:=hide hw
 have gl:=hw.lt
 clear hw h s3 hK H
 unfold msV
 go_enter Tryz.func172,Tryz.ntmps172
 go_wp2_with fail
 refine (uh C1 _ (al2p _ _ _)).mono ?_
 rintro e w1 ⟨v1,LA,rfl,hL,hO⟩
 obtain ⟨q1,d1,rfl,hm⟩:=ownL_ms (g:=g) (uh hO) (by simp; omega) (uh HS LA (uh hL))
 have B1:=hide (bl_tr (al2p w (Obj.cells #[.slice q L.length d,.pointer (some ⟨g,0,none⟩)] 74) (Obj.cells #[.func (.func K) #[] caps] 216)) (uh hO).1.2)
 have X1:=hide (Box.below (Box.alloc (Box.new w #[.slice q L.length d,.pointer (some ⟨g,0,none⟩)] 74) (Obj.cells #[.func (.func K) #[] caps] 216)) (uh hO).1.2)
 have Y1:Hid (Box w1 (w.heap.size + 1) #[.func (.func K) #[] caps] 216):=hide (by have h:=Box.below (Box.new (w.alloc (Obj.cells #[.slice q L.length d,.pointer (some ⟨g,0,none⟩)] 74)) #[.func (.func K) #[] caps] 216) (uh hO).1.2; rw [alloc_size6] at h; exact h)
 have W1:=hide ((uh HW).below (uh B1))
 have C2:=hide (cchAttr_any g 192 (ent_of Tryz.func192 (by kernel_rfl) rfl) #[.pointer (some ⟨w.heap.size,0,none⟩),.pointer (some ⟨w.heap.size + 1,0,none⟩)] (fun a x => R a.d x) (fun a => f3 (bad3 (a.wr != 2)) (F a.d)) q1 d1 LA w1 (uh W1) hm (fun v sv wv a ha fa fo => crow1Attr_any g w.heap.size (w.heap.size + 1) q L.length d K (uh HK) caps (R a.d) (F a.d) a v wv (sv.box (uh X1) (by omega)) (sv.box (uh Y1) (by omega)) fa fo (fun u su wu hu => uh HH u ((Stay.below (uh B1) (by omega)).trans (sv.trans su)) wu a.q a.c a.d hu fo (by have:=sumD_mem ha; have:=uh HS LA (uh hL); omega))))
 have HL:=hL
 clear hO hm C1 hL
 go_wp2_with fail
 refine (uh C2).mono ?_
 rintro e w2 ⟨b,xs,rfl,hq⟩
 obtain ⟨g1,g2,g3,g4,g5⟩:=uh hq
 have G:=hide (rows_end (uh HL) g1)
 have GX:=hide g2
 have GM:=hide g3
 have R2:=hide (((RE.below (uh B1) (uh HW)).trans g5).eq (rows_lev (uh HL) F))
 have hb:w.heap.size ≤ b:=Nat.le_trans (uh B1).size g4
 clear hq g1 g2 g3 g5 C2
 go_wp2_with fail
 go_ret
 exact ⟨b,xs,rfl,hide ⟨uh G,uh GX,uh GM,hb,uh R2⟩⟩
theorem cmsg1Attr_any (g gm gb:Nat) (q0:Option Addr) (n0 d0:Nat) (R:AtA → Prop) (F:F3) (p:Option Addr) (c:Nat) (b:List Int) (w:World) (hw:WstE g w) (hm:Box w gm #[.slice q0 n0 d0,.pointer (some ⟨g,0,none⟩)] 74) (hb:Box w gb #[.func (.func 141) #[] #[]] 181) (hp:Ints .u8 w p c b) (ho:Off g p b.length) (hl:b.length ≤ 4194304)
  (H:∀ v,Stay g w v → WstE g v → ∀ q d L,MsIn g v q d L → L.map FA.f = (fieldsP b).1 → Calls Tryz.prog 141 #[msV q L.length d g] v fun e w' => Made (fun w x => AtIn 0 w x) (fun x => .agg (atCells x).toArray) g R F v e w') :
  Calls Tryz.prog 173 #[.slice p b.length c,.pointer (some ⟨gb,0,none⟩),.pointer (some ⟨gm,0,none⟩)] w fun e w' => Made (fun w x => AtIn 0 w x) (fun x => .agg (atCells x).toArray) g R (f3 (fieldsP b).2 F) w e w':=by
 have HH:=hide H
 have HW:=hide hw
 have gl:=hw.lt
 have ngm:=wst_ne hw hm (by decide)
 have ngb:=wst_ne hw hb (by decide)
 have BM:=hide hm
 have BF:=hide hb
 have HP:=hide hp
 have C1:=hide (fun v (hv:WstE g v) (hi:Ints .u8 v p c b) => copened_any g q0 n0 d0 p c b v hv hi hl)
 obtain ⟨FF,hFF⟩:∃ F,fieldsP b = F:=⟨_,rfl⟩
 rw [hFF] at C1 HH ⊢
 clear H hm hb hp hw ho hFF
 unfold msV at C1 HH
 unfold Made at HH
 simp only at HH
 unfold atCells tenCells strV at HH
 simp only [List.cons_append,List.nil_append] at HH
 have Y0:=hide (Box.new w #[.string { data:=#[] },.int .i64 0,.int .u32 0,.int .i64 0,.string { data:=#[] },.int .i64 0,.slice none 0 0,.slice none 0 0,.slice none 0 0,.slice none 0 0,.slice none 0 0,.slice none 0 0] 120)
 have hneb:gb ≠ w.heap.size:=by have:=(uh BF).lt; omega
 have hnem:gm ≠ w.heap.size:=by have:=(uh BM).lt; omega
 have x1:=((uh BF).alloc (Obj.cells #[.string { data:=#[] },.int .i64 0,.int .u32 0,.int .i64 0,.string { data:=#[] },.int .i64 0,.slice none 0 0,.slice none 0 0,.slice none 0 0,.slice none 0 0,.slice none 0 0,.slice none 0 0] 120)).cell
 have x2:=((uh BM).alloc (Obj.cells #[.string { data:=#[] },.int .i64 0,.int .u32 0,.int .i64 0,.string { data:=#[] },.int .i64 0,.slice none 0 0,.slice none 0 0,.slice none 0 0,.slice none 0 0,.slice none 0 0,.slice none 0 0] 120)).cell
 have x1d:=(((uh BF).alloc (Obj.cells #[.string { data:=#[] },.int .i64 0,.int .u32 0,.int .i64 0,.string { data:=#[] },.int .i64 0,.slice none 0 0,.slice none 0 0,.slice none 0 0,.slice none 0 0,.slice none 0 0,.slice none 0 0] 120)).below (bdrewp _)).cell
 have x2d:=(((uh BM).alloc (Obj.cells #[.string { data:=#[] },.int .i64 0,.int .u32 0,.int .i64 0,.string { data:=#[] },.int .i64 0,.slice none 0 0,.slice none 0 0,.slice none 0 0,.slice none 0 0,.slice none 0 0,.slice none 0 0] 120)).below (bdrewp _)).cell
 go_enter Tryz.func173,Tryz.ntmps173
 go_wp2_with fail
 go_region_held3 (fun v => (∀ j,v.cell? ⟨gb,j,none⟩ = (#[.func (.func 141) #[] #[]]:Array Value)[j]?) ∧ (∀ j,v.cell? ⟨gm,j,none⟩ = (#[.slice q0 n0 d0,.pointer (some ⟨g,0,none⟩)]:Array Value)[j]?)) (refine ⟨?_,?_⟩ <;> with_reducible assumption)
  (first
   | (go_at_call 141; (refine (uh HH _ (uh R1').1 ((uh R1').wst (uh HW)) _ _ _ (uh HM) (uh HL)).mono ?_; rintro e w3 ⟨x,rfl,hq⟩; obtain ⟨g1,g2,hr2⟩:=uh hq; have G1:=hide g1; have GI:=hide g2; have R3':=hide ((uh R1').trans hr2); have Y2:=hide (hr2.1.box (uh Y1) (by omega)); have y2:=(uh Y2).cell; have z2:=(uh Y2).frozen; have q3:=(hr2.1.box (uh BF1) ngb).cell; have q4:=(hr2.1.box (uh BM1) ngm).cell; have q5:=(Box.off12 (hr2.1.box (uh BF1) ngb) hneb (.string (strOfNums x.nm)) (.int .i64 x.kd) (.int .u32 x.f) (.int .i64 x.i) (.string (strOfNums x.s)) (.int .i64 x.T.1) (.slice x.A.pd x.T.2.1.length x.A.cd) (.slice x.A.pf x.T.2.2.1.length x.A.cf) (.slice x.A.pi x.T.2.2.2.1.length x.A.ci) (.slice x.A.pb x.T.2.2.2.2.length x.A.cb) (.slice x.qf x.fl.length x.cf) (.slice x.qi x.is.length x.ci)).cell; have q6:=(Box.off12 (hr2.1.box (uh BM1) ngm) hnem (.string (strOfNums x.nm)) (.int .i64 x.kd) (.int .u32 x.f) (.int .i64 x.i) (.string (strOfNums x.s)) (.int .i64 x.T.1) (.slice x.A.pd x.T.2.1.length x.A.cd) (.slice x.A.pf x.T.2.2.1.length x.A.cf) (.slice x.A.pi x.T.2.2.2.1.length x.A.ci) (.slice x.A.pb x.T.2.2.2.2.length x.A.cb) (.slice x.qf x.fl.length x.cf) (.slice x.qi x.is.length x.ci)).cell; clear hq g1 g2 hr2))
   | (go_at_call 28; (refine (uh C1 _ ((uh HW).below (bl_tr (al1p w (Obj.cells #[.string { data:=#[] },.int .i64 0,.int .u32 0,.int .i64 0,.string { data:=#[] },.int .i64 0,.slice none 0 0,.slice none 0 0,.slice none 0 0,.slice none 0 0,.slice none 0 0,.slice none 0 0] 120)) (bdrewp _))) ((uh HP).below (bl_tr (al1p w (Obj.cells #[.string { data:=#[] },.int .i64 0,.int .u32 0,.int .i64 0,.string { data:=#[] },.int .i64 0,.slice none 0 0,.slice none 0 0,.slice none 0 0,.slice none 0 0,.slice none 0 0,.slice none 0 0] 120)) (bdrewp _)))).mono ?_; rintro e w1 ⟨q1,d1,L1,rfl,hq⟩; obtain ⟨h1,h2,hr,h4⟩:=uh hq; have HL:=hide h1; have HM:=hide h2; have R1':=hide (((RE.below (bl_tr (al1p w (Obj.cells #[.string { data:=#[] },.int .i64 0,.int .u32 0,.int .i64 0,.string { data:=#[] },.int .i64 0,.slice none 0 0,.slice none 0 0,.slice none 0 0,.slice none 0 0,.slice none 0 0,.slice none 0 0] 120)) (bdrewp _)) (uh HW)).trans hr).eq (by rw [no_f3])); have BF1:=hide (hr.1.box ((uh BF).below (bl_tr (al1p w (Obj.cells #[.string { data:=#[] },.int .i64 0,.int .u32 0,.int .i64 0,.string { data:=#[] },.int .i64 0,.slice none 0 0,.slice none 0 0,.slice none 0 0,.slice none 0 0,.slice none 0 0,.slice none 0 0] 120)) (bdrewp _))) ngb); have BM1:=hide (hr.1.box ((uh BM).below (bl_tr (al1p w (Obj.cells #[.string { data:=#[] },.int .i64 0,.int .u32 0,.int .i64 0,.string { data:=#[] },.int .i64 0,.slice none 0 0,.slice none 0 0,.slice none 0 0,.slice none 0 0,.slice none 0 0,.slice none 0 0] 120)) (bdrewp _))) ngm); have q1':=(uh BF1).cell; have q2':=(uh BM1).cell; have Y1:=hide (hr.1.box ((uh Y0).below (bdrewp _)) (by omega)); have y1:=(uh Y1).cell; have z1:=(uh Y1).frozen; clear hq h1 h2 hr h4)))
 go_wp2_with fail
 have kk:Kept tenTS 0 w3 (setMany w3 w.heap.size 0 (atCells x)):=Kept.setMany (uh Y2) (by decide) (by omega) _
 have G2:Hid (AtIn 0 (setMany w3 w.heap.size 0 (atCells x)) x):=hide ((uh GI).kept (fun _ h => h) (kk))
 have R4:=hide (((uh R3').setMany (Nat.le_refl w.heap.size) gl (atCells x) 0))
 have Y3:=hide ((uh Y2).set12 (.string (strOfNums x.nm)) (.int .i64 x.kd) (.int .u32 x.f) (.int .i64 x.i) (.string (strOfNums x.s)) (.int .i64 x.T.1) (.slice x.A.pd x.T.2.1.length x.A.cd) (.slice x.A.pf x.T.2.2.1.length x.A.cf) (.slice x.A.pi x.T.2.2.2.1.length x.A.ci) (.slice x.A.pb x.T.2.2.2.2.length x.A.cb) (.slice x.qf x.fl.length x.cf) (.slice x.qi x.is.length x.ci))
 unfold atCells tenCells strV at G2 R4
 simp only [List.cons_append,List.nil_append] at G2 R4
 refine bodyPost_ret ?_ rfl ⟨x,rfl,hide ⟨uh G1,uh G2,uh R4⟩⟩
 simp [results,Tryz.results173,go_sem,(uh Y3).cell,atCells,tenCells,strV]
theorem cmsgsAttr_any (g:Nat) (q:Option Addr) (d:Nat) (L:List FA) (num:Int) (R:List Int → AtA → Prop) (F:List Int → F3) (w:World) (hw:WstE g w) (h:MsIn g w q d L)
  (H:∀ v,Stay g w v → WstE g v → ∀ b q d L,MsIn g v q d L → L.map FA.f = (fieldsP b).1 → Calls Tryz.prog 141 #[msV q L.length d g] v fun e w' => Made (fun w x => AtIn 0 w x) (fun x => .agg (atCells x).toArray) g (R b) (F b) v e w') :
  Calls Tryz.prog 140 #[msV q L.length d g,.int .i64 num,.func (.func 141) #[] #[]] w fun e w' => ∃ b xs,e = .returned (.slice (some ⟨b,0,none⟩) xs.length xs.length) ∧ Hid (Rb noAtA R (dsV (L.map FA.f) num) xs ∧ (∀ x ∈ xs,AtIn 0 w' x) ∧ Mrow 120 atCells w' b xs ∧ w.heap.size ≤ b ∧ RE g (f3 (bad3 ((allV (L.map FA.f) num).any fun f => f.2.1 != 2)) (fAll ((dsV (L.map FA.f) num).map fun b => f3 (fieldsP b).2 (F b)))) w w'):=by
 have HH:=hide H
 have HW:=hide hw
 have gl:=hw.lt
 have HM:=hide h
 have B0:=hide (al2p w (Obj.cells #[.slice q L.length d,.pointer (some ⟨g,0,none⟩)] 74) (Obj.cells #[.func (.func 141) #[] #[]] 181))
 have X1:=hide (Box.alloc (Box.new w #[.slice q L.length d,.pointer (some ⟨g,0,none⟩)] 74) (Obj.cells #[.func (.func 141) #[] #[]] 181))
 have Y1:Hid (Box ((w.alloc (Obj.cells #[.slice q L.length d,.pointer (some ⟨g,0,none⟩)] 74)).alloc (Obj.cells #[.func (.func 141) #[] #[]] 181)) (w.heap.size + 1) #[.func (.func 141) #[] #[]] 181):=hide (by have h:=Box.new (w.alloc (Obj.cells #[.slice q L.length d,.pointer (some ⟨g,0,none⟩)] 74)) #[.func (.func 141) #[] #[]] 181; rw [alloc_size6] at h; exact h)
 have C1:=hide (crowsAttr_any g q d L num 173 (ent_of Tryz.func173 (by kernel_rfl) rfl) #[.pointer (some ⟨w.heap.size + 1,0,none⟩),.pointer (some ⟨w.heap.size,0,none⟩)] R (fun b => f3 (fieldsP b).2 (F b)) _ ((uh HW).below (uh B0)) ((uh HM).stay (Stay.below (uh B0) (by omega))) (fun v sv wv p c b hp ho hl => cmsg1Attr_any g w.heap.size (w.heap.size + 1) q L.length d (R b) (F b) p c b v wv (sv.box (uh X1) (by omega)) (sv.box (uh Y1) (by omega)) hp ho hl (fun u su wu q' d' L' hm' hl' => uh HH u ((Stay.below (uh B0) (by omega)).trans (sv.trans su)) wu b q' d' L' hm' hl')))
 clear hw h H
 unfold msV at C1 ⊢
 go_enter Tryz.func140,Tryz.ntmps140
 go_wp2_with fail
 refine (uh C1).mono ?_
 rintro e w2 ⟨b,xs,rfl,hq⟩
 obtain ⟨g1,g2,g3,g4,g5⟩:=uh hq
 have G:=hide g1
 have GX:=hide g2
 have GM:=hide g3
 have R2:=hide (((RE.below (uh B0) (uh HW)).trans g5).eq (by rw [no_f3]))
 have hb:w.heap.size ≤ b:=Nat.le_trans (uh B0).size g4
 clear hq g1 g2 g3 g5 C1
 go_wp2_with fail
 go_ret
 exact ⟨b,xs,rfl,hide ⟨uh G,uh GX,uh GM,hb,uh R2⟩⟩
end Go.Proofs.YtaikppgoahdjbabGreat
