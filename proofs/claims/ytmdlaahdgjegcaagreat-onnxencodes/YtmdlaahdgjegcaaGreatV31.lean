import Derived.Test.YtmdlaahdgjegcaaGreatV25
import Derived.Test.YtmdlaahdgjegcaaGreatV26
import Derived.Test.YtmdlaahdgjegcaaGreatV27
import Derived.Test.YtmdlaahdgjegcaaGreatV28
import Derived.Test.YtmdlaahdgjegcaaGreatV29
import Derived.Test.YtmdlaahdgjegcaaGreatV30
set_option maxRecDepth 100000
set_option maxHeartbeats 8000000
namespace Go.Proofs.YtmdlaahdgjegcaaGreat
open Go.RowKit
set_option linter.unusedVariables false
theorem crow1Attr_any (g gm gb:Nat) (q0:Option Addr) (n0 d0:Nat) (K:FuncId) (hK:Ent K) (caps:Array Value) (R:AtA → Prop) (F:F3) (a:FA) (w:World) (hw:WstE g w) (hm:Box w gm #[.slice q0 n0 d0,.pointer (some ⟨g,0,none⟩)] 58) (hb:Box w gb #[.func (.func K) #[] caps] 182) (ha:FaIn w a) (ho:Off g a.q a.d.length)
  (H:∀ v,Stay g w v → WstE g v → Ints .u8 v a.q a.c a.d → Calls Tryz.prog K (#[.slice a.q a.d.length a.c] ++ caps) v fun e w' => Made (fun w x => AtIn 0 w x) (fun x => .agg (atCells x).toArray) g R F v e w') :
  Calls Tryz.prog 250 #[faV a,.pointer (some ⟨gm,0,none⟩),.pointer (some ⟨gb,0,none⟩)] w fun e w' => Made (fun w x => AtIn 0 w x) (fun x => .agg (atCells x).toArray) g R (f3 (bad3 (a.wr != 2)) F) w e w':=by
 have hk:∀ (args:Array Value) (v:World),(callFunc K args).run Tryz.prog v = .ok (.enter K args) v:=hK
 have HH:=hide H
 have HW:=hide hw
 have gl:=hw.lt
 have ngm:=wst_ne hw hm (by decide)
 have ngb:=wst_ne hw hb (by decide)
 have BM:=hide hm
 have BF:=hide hb
 have HA:=hide ha
 have HO:=hide ho
 have C1:=hide (fun v (hv:WstE g v) => cnote_bad g q0 n0 d0 (a.wr != 2) v hv)
 clear hK H hm hb ha ho hw
 obtain ⟨an,awr,ax,ad,aq,ac⟩:=a
 simp only at HH HA HO C1 ⊢
 obtain ⟨DD,hD⟩:∃ DD,(awr != 2) = DD:=⟨_,rfl⟩
 rw [hD] at C1 ⊢
 unfold faV
 unfold msV at C1
 simp only
 have Y0:Hid (Box ((w.alloc (Obj.cells #[.int .i64 an,.int .i64 awr,.int .u64 ax,.slice aq ad.length ac] 148)).alloc (Obj.cells #[.string { data:=#[] },.int .i64 0,.int .u32 0,.int .i64 0,.string { data:=#[] },.int .i64 0,.slice none 0 0,.slice none 0 0,.slice none 0 0,.slice none 0 0,.slice none 0 0,.slice none 0 0] 86)) (w.heap.size + 1) #[.string { data:=#[] },.int .i64 0,.int .u32 0,.int .i64 0,.string { data:=#[] },.int .i64 0,.slice none 0 0,.slice none 0 0,.slice none 0 0,.slice none 0 0,.slice none 0 0,.slice none 0 0] 86):=hide (by have h:=Box.new (w.alloc (Obj.cells #[.int .i64 an,.int .i64 awr,.int .u64 ax,.slice aq ad.length ac] 148)) #[.string { data:=#[] },.int .i64 0,.int .u32 0,.int .i64 0,.string { data:=#[] },.int .i64 0,.slice none 0 0,.slice none 0 0,.slice none 0 0,.slice none 0 0,.slice none 0 0,.slice none 0 0] 86; rw [alloc_size6] at h; exact h)
 have x1:=((uh BM).below (show Below w.heap.size w ((w.alloc (Obj.cells #[.int .i64 an,.int .i64 awr,.int .u64 ax,.slice aq ad.length ac] 148)).alloc (Obj.cells #[.string { data:=#[] },.int .i64 0,.int .u32 0,.int .i64 0,.string { data:=#[] },.int .i64 0,.slice none 0 0,.slice none 0 0,.slice none 0 0,.slice none 0 0,.slice none 0 0,.slice none 0 0] 86)) from (al2p _ _ _))).cell
 go_enter Tryz.func250,Tryz.ntmps250
 go_wp2_with fail
 try rw [hD]
 refine (uh C1 _ ((uh HW).below (al2p _ _ _))).mono ?_
 rintro e w2 ⟨rfl,hr⟩
 have r2:=(RE.below (show Below w.heap.size w ((w.alloc (Obj.cells #[.int .i64 an,.int .i64 awr,.int .u64 ax,.slice aq ad.length ac] 148)).alloc (Obj.cells #[.string { data:=#[] },.int .i64 0,.int .u32 0,.int .i64 0,.string { data:=#[] },.int .i64 0,.slice none 0 0,.slice none 0 0,.slice none 0 0,.slice none 0 0,.slice none 0 0,.slice none 0 0] 86)) from (al2p _ _ _)) (uh HW)).trans hr
 rw [no_f3] at r2
 have R2':=hide r2
 have x2:=(hr.1.box ((uh BF).below (show Below w.heap.size w ((w.alloc (Obj.cells #[.int .i64 an,.int .i64 awr,.int .u64 ax,.slice aq ad.length ac] 148)).alloc (Obj.cells #[.string { data:=#[] },.int .i64 0,.int .u32 0,.int .i64 0,.string { data:=#[] },.int .i64 0,.slice none 0 0,.slice none 0 0,.slice none 0 0,.slice none 0 0,.slice none 0 0,.slice none 0 0] 86)) from (al2p _ _ _))) ngb).cell
 have x3:=(hr.1.box ((Box.new w #[.int .i64 an,.int .i64 awr,.int .u64 ax,.slice aq ad.length ac] 148).alloc (Obj.cells #[.string { data:=#[] },.int .i64 0,.int .u32 0,.int .i64 0,.string { data:=#[] },.int .i64 0,.slice none 0 0,.slice none 0 0,.slice none 0 0,.slice none 0 0,.slice none 0 0,.slice none 0 0] 86)) (by omega)).cell
 have Y1:=hide (hr.1.box (uh Y0) (by omega))
 have HI:=hide (((uh HA).below (show Below w.heap.size w ((w.alloc (Obj.cells #[.int .i64 an,.int .i64 awr,.int .u64 ax,.slice aq ad.length ac] 148)).alloc (Obj.cells #[.string { data:=#[] },.int .i64 0,.int .u32 0,.int .i64 0,.string { data:=#[] },.int .i64 0,.slice none 0 0,.slice none 0 0,.slice none 0 0,.slice none 0 0,.slice none 0 0,.slice none 0 0] 86)) from (al2p _ _ _))).stay (uh HO) hr.1)
 clear hr r2 x1
 go_wp2_with fail
 refine (uh HH _ (uh R2').1 ((uh R2').wst (uh HW)) (uh HI).2.2.2).mono ?_
 rintro e w3 ⟨x,rfl,hq⟩
 obtain ⟨g1,g2,hr2⟩:=uh hq
 have Y2:=hide (hr2.1.box (uh Y1) (by omega))
 have y2:=(uh Y2).cell
 have z2:=(uh Y2).frozen
 have kk:Kept tenTS 0 w3 (setMany w3 (w.heap.size + 1) 0 (atCells x)):=Kept.setMany (uh Y2) (by decide) (by omega) _
 have G2:Hid (AtIn 0 (setMany w3 (w.heap.size + 1) 0 (atCells x)) x):=hide (g2.kept (fun _ h => h) (kk))
 have R4:=hide (((uh R2').trans hr2).setMany (show w.heap.size ≤ w.heap.size + 1 by omega) gl (atCells x) 0)
 have Y3:=hide ((uh Y2).set12 (.string (strOfNums x.nm)) (.int .i64 x.kd) (.int .u32 x.f) (.int .i64 x.i) (.string (strOfNums x.s)) (.int .i64 x.T.1) (.slice x.A.pd x.T.2.1.length x.A.cd) (.slice x.A.pf x.T.2.2.1.length x.A.cf) (.slice x.A.pi x.T.2.2.2.1.length x.A.ci) (.slice x.A.pb x.T.2.2.2.2.length x.A.cb) (.slice x.qf x.fl.length x.cf) (.slice x.qi x.is.length x.ci))
 have G1:=hide g1
 clear hq g1 g2 hr2 kk
 unfold atCells tenCells strV at G2 R4 ⊢
 simp only [List.cons_append,List.nil_append] at G2 R4 ⊢
 go_wp2_with fail
 refine bodyPost_ret ?_ rfl ⟨x,rfl,hide ⟨uh G1,uh G2,uh R4⟩⟩
 simp [results,Tryz.results250,go_sem,(uh Y3).cell,atCells,tenCells,strV]
theorem crowsAttr_any (g:Nat) (q:Option Addr) (d:Nat) (L:List FA) (num:Int) (K:FuncId) (hK:Ent K) (caps:Array Value) (R:List Int → AtA → Prop) (F:List Int → F3) (w:World) (hw:WstE g w) (h:MsIn g w q d L)
  (H:∀ v,Stay g w v → WstE g v → ∀ p c b,Ints .u8 v p c b → Off g p b.length → b.length ≤ 4194304 → Calls Tryz.prog K (#[.slice p b.length c] ++ caps) v fun e w' => Made (fun w x => AtIn 0 w x) (fun x => .agg (atCells x).toArray) g (R b) (F b) v e w') :
  Calls Tryz.prog 226 #[msV q L.length d g,.int .i64 num,.func (.func K) #[] caps] w fun e w' => ∃ b xs,e = .returned (.slice (some ⟨b,0,none⟩) xs.length xs.length) ∧ Hid (Rb noAtA R (dsV (L.map FA.f) num) xs ∧ (∀ x ∈ xs,AtIn 0 w' x) ∧ Mrow 86 atCells w' b xs ∧ w.heap.size ≤ b ∧ RE g (f3 (bad3 ((allV (L.map FA.f) num).any fun f => f.2.1 != 2)) (fAll ((dsV (L.map FA.f) num).map F))) w w'):=by
 obtain ⟨s1,s2,s3⟩:=h.small
 have C1:=hide (fun v (hv:Below w.heap.size w v) => call_any q d L num v (h.1.below hv) (by omega) (fun a ha => by have:=s3 a ha; omega))
 have HS:=hide (fun LA => all_sum (L:=L) (num:=num) (LA:=LA) h.2.2.2)
 have HK:=hide hK
 have HH:=hide H
 have HW:=hide hw
 have gl:=hw.lt
 clear hw h s3 hK H
 unfold msV
 go_enter Tryz.func226,Tryz.ntmps226
 go_wp2_with fail
 refine (uh C1 _ (al2p _ _ _)).mono ?_
 rintro e w1 ⟨v1,LA,rfl,hL,hO⟩
 obtain ⟨q1,d1,rfl,hm⟩:=ownL_ms (g:=g) (uh hO) (by simp; omega) (uh HS LA (uh hL))
 have B1:=hide (bl_tr (al2p w (Obj.cells #[.slice q L.length d,.pointer (some ⟨g,0,none⟩)] 58) (Obj.cells #[.func (.func K) #[] caps] 182)) (uh hO).1.2)
 have X1:=hide (Box.below (Box.alloc (Box.new w #[.slice q L.length d,.pointer (some ⟨g,0,none⟩)] 58) (Obj.cells #[.func (.func K) #[] caps] 182)) (uh hO).1.2)
 have Y1:Hid (Box w1 (w.heap.size + 1) #[.func (.func K) #[] caps] 182):=hide (by have h:=Box.below (Box.new (w.alloc (Obj.cells #[.slice q L.length d,.pointer (some ⟨g,0,none⟩)] 58)) #[.func (.func K) #[] caps] 182) (uh hO).1.2; rw [alloc_size6] at h; exact h)
 have W1:=hide ((uh HW).below (uh B1))
 have C2:=hide (cchAttr_any g 250 (ent_of Tryz.func250 (by kernel_rfl) rfl) #[.pointer (some ⟨w.heap.size,0,none⟩),.pointer (some ⟨w.heap.size + 1,0,none⟩)] (fun a x => R a.d x) (fun a => f3 (bad3 (a.wr != 2)) (F a.d)) q1 d1 LA w1 (uh W1) hm (fun v sv wv a ha fa fo => crow1Attr_any g w.heap.size (w.heap.size + 1) q L.length d K (uh HK) caps (R a.d) (F a.d) a v wv (sv.box (uh X1) (by omega)) (sv.box (uh Y1) (by omega)) fa fo (fun u su wu hu => uh HH u ((Stay.below (uh B1) (by omega)).trans (sv.trans su)) wu a.q a.c a.d hu fo (by have:=sumD_mem ha; have:=uh HS LA (uh hL); omega))))
 have HL:=hL
 clear hO hm C1 hL
 go_wp2_with fail
 refine (uh C2).mono ?_
 rintro e w2 ⟨b,xs,rfl,hq⟩
 obtain ⟨g1,g2,g3,g4,g5⟩:=uh hq
 have G:=hide (rows_end (uh HL) g1)
 have GX:=hide g2
 have GM:=hide g3
 have R2:=hide (((RE.below (uh B1) (uh HW)).trans g5).eq (rows_lev (uh HL) F))
 have hb:w.heap.size ≤ b:=Nat.le_trans (uh B1).size g4
 clear hq g1 g2 g3 g5 C2
 go_wp2_with fail
 go_ret
 exact ⟨b,xs,rfl,hide ⟨uh G,uh GX,uh GM,hb,uh R2⟩⟩
theorem cmsg1Attr_any (g gm gb:Nat) (q0:Option Addr) (n0 d0:Nat) (R:AtA → Prop) (F:F3) (p:Option Addr) (c:Nat) (b:List Int) (w:World) (hw:WstE g w) (hm:Box w gm #[.slice q0 n0 d0,.pointer (some ⟨g,0,none⟩)] 58) (hb:Box w gb #[.func (.func 177) #[] #[]] 219) (hp:Ints .u8 w p c b) (ho:Off g p b.length) (hl:b.length ≤ 4194304)
  (H:∀ v,Stay g w v → WstE g v → ∀ q d L,MsIn g v q d L → L.map FA.f = (fieldsP b).1 → Calls Tryz.prog 177 #[msV q L.length d g] v fun e w' => Made (fun w x => AtIn 0 w x) (fun x => .agg (atCells x).toArray) g R F v e w') :
  Calls Tryz.prog 227 #[.slice p b.length c,.pointer (some ⟨gb,0,none⟩),.pointer (some ⟨gm,0,none⟩)] w fun e w' => Made (fun w x => AtIn 0 w x) (fun x => .agg (atCells x).toArray) g R (f3 (fieldsP b).2 F) w e w':=by
 have HH:=hide H
 have HW:=hide hw
 have gl:=hw.lt
 have ngm:=wst_ne hw hm (by decide)
 have ngb:=wst_ne hw hb (by decide)
 have BM:=hide hm
 have BF:=hide hb
 have HP:=hide hp
 have C1:=hide (fun v (hv:WstE g v) (hi:Ints .u8 v p c b) => copened_any g q0 n0 d0 p c b v hv hi hl)
 obtain ⟨FF,hFF⟩:∃ F,fieldsP b = F:=⟨_,rfl⟩
 rw [hFF] at C1 HH ⊢
 clear H hm hb hp hw ho hFF
 unfold msV at C1 HH
 unfold Made at HH
 simp only at HH
 unfold atCells tenCells strV at HH
 simp only [List.cons_append,List.nil_append] at HH
 have Y0:=hide (Box.new w #[.string { data:=#[] },.int .i64 0,.int .u32 0,.int .i64 0,.string { data:=#[] },.int .i64 0,.slice none 0 0,.slice none 0 0,.slice none 0 0,.slice none 0 0,.slice none 0 0,.slice none 0 0] 86)
 have hneb:gb ≠ w.heap.size:=by have:=(uh BF).lt; omega
 have hnem:gm ≠ w.heap.size:=by have:=(uh BM).lt; omega
 have x1:=((uh BF).alloc (Obj.cells #[.string { data:=#[] },.int .i64 0,.int .u32 0,.int .i64 0,.string { data:=#[] },.int .i64 0,.slice none 0 0,.slice none 0 0,.slice none 0 0,.slice none 0 0,.slice none 0 0,.slice none 0 0] 86)).cell
 have x2:=((uh BM).alloc (Obj.cells #[.string { data:=#[] },.int .i64 0,.int .u32 0,.int .i64 0,.string { data:=#[] },.int .i64 0,.slice none 0 0,.slice none 0 0,.slice none 0 0,.slice none 0 0,.slice none 0 0,.slice none 0 0] 86)).cell
 have x1d:=(((uh BF).alloc (Obj.cells #[.string { data:=#[] },.int .i64 0,.int .u32 0,.int .i64 0,.string { data:=#[] },.int .i64 0,.slice none 0 0,.slice none 0 0,.slice none 0 0,.slice none 0 0,.slice none 0 0,.slice none 0 0] 86)).below (bdrewp _)).cell
 have x2d:=(((uh BM).alloc (Obj.cells #[.string { data:=#[] },.int .i64 0,.int .u32 0,.int .i64 0,.string { data:=#[] },.int .i64 0,.slice none 0 0,.slice none 0 0,.slice none 0 0,.slice none 0 0,.slice none 0 0,.slice none 0 0] 86)).below (bdrewp _)).cell
 go_enter Tryz.func227,Tryz.ntmps227
 go_wp2_with fail
 go_region_held3 (fun v => (∀ j,v.cell? ⟨gb,j,none⟩ = (#[.func (.func 177) #[] #[]]:Array Value)[j]?) ∧ (∀ j,v.cell? ⟨gm,j,none⟩ = (#[.slice q0 n0 d0,.pointer (some ⟨g,0,none⟩)]:Array Value)[j]?)) (refine ⟨?_,?_⟩ <;> with_reducible assumption)
  (first
   | (go_at_call 177; (refine (uh HH _ (uh R1').1 ((uh R1').wst (uh HW)) _ _ _ (uh HM) (uh HL)).mono ?_; rintro e w3 ⟨x,rfl,hq⟩; obtain ⟨g1,g2,hr2⟩:=uh hq; have G1:=hide g1; have GI:=hide g2; have R3':=hide ((uh R1').trans hr2); have Y2:=hide (hr2.1.box (uh Y1) (by omega)); have y2:=(uh Y2).cell; have z2:=(uh Y2).frozen; have q3:=(hr2.1.box (uh BF1) ngb).cell; have q4:=(hr2.1.box (uh BM1) ngm).cell; have q5:=(Box.off12 (hr2.1.box (uh BF1) ngb) hneb (.string (strOfNums x.nm)) (.int .i64 x.kd) (.int .u32 x.f) (.int .i64 x.i) (.string (strOfNums x.s)) (.int .i64 x.T.1) (.slice x.A.pd x.T.2.1.length x.A.cd) (.slice x.A.pf x.T.2.2.1.length x.A.cf) (.slice x.A.pi x.T.2.2.2.1.length x.A.ci) (.slice x.A.pb x.T.2.2.2.2.length x.A.cb) (.slice x.qf x.fl.length x.cf) (.slice x.qi x.is.length x.ci)).cell; have q6:=(Box.off12 (hr2.1.box (uh BM1) ngm) hnem (.string (strOfNums x.nm)) (.int .i64 x.kd) (.int .u32 x.f) (.int .i64 x.i) (.string (strOfNums x.s)) (.int .i64 x.T.1) (.slice x.A.pd x.T.2.1.length x.A.cd) (.slice x.A.pf x.T.2.2.1.length x.A.cf) (.slice x.A.pi x.T.2.2.2.1.length x.A.ci) (.slice x.A.pb x.T.2.2.2.2.length x.A.cb) (.slice x.qf x.fl.length x.cf) (.slice x.qi x.is.length x.ci)).cell; clear hq g1 g2 hr2))
   | (go_at_call 27; (refine (uh C1 _ ((uh HW).below (bl_tr (al1p w (Obj.cells #[.string { data:=#[] },.int .i64 0,.int .u32 0,.int .i64 0,.string { data:=#[] },.int .i64 0,.slice none 0 0,.slice none 0 0,.slice none 0 0,.slice none 0 0,.slice none 0 0,.slice none 0 0] 86)) (bdrewp _))) ((uh HP).below (bl_tr (al1p w (Obj.cells #[.string { data:=#[] },.int .i64 0,.int .u32 0,.int .i64 0,.string { data:=#[] },.int .i64 0,.slice none 0 0,.slice none 0 0,.slice none 0 0,.slice none 0 0,.slice none 0 0,.slice none 0 0] 86)) (bdrewp _)))).mono ?_; rintro e w1 ⟨q1,d1,L1,rfl,hq⟩; obtain ⟨h1,h2,hr,h4⟩:=uh hq; have HL:=hide h1; have HM:=hide h2; have R1':=hide (((RE.below (bl_tr (al1p w (Obj.cells #[.string { data:=#[] },.int .i64 0,.int .u32 0,.int .i64 0,.string { data:=#[] },.int .i64 0,.slice none 0 0,.slice none 0 0,.slice none 0 0,.slice none 0 0,.slice none 0 0,.slice none 0 0] 86)) (bdrewp _)) (uh HW)).trans hr).eq (by rw [no_f3])); have BF1:=hide (hr.1.box ((uh BF).below (bl_tr (al1p w (Obj.cells #[.string { data:=#[] },.int .i64 0,.int .u32 0,.int .i64 0,.string { data:=#[] },.int .i64 0,.slice none 0 0,.slice none 0 0,.slice none 0 0,.slice none 0 0,.slice none 0 0,.slice none 0 0] 86)) (bdrewp _))) ngb); have BM1:=hide (hr.1.box ((uh BM).below (bl_tr (al1p w (Obj.cells #[.string { data:=#[] },.int .i64 0,.int .u32 0,.int .i64 0,.string { data:=#[] },.int .i64 0,.slice none 0 0,.slice none 0 0,.slice none 0 0,.slice none 0 0,.slice none 0 0,.slice none 0 0] 86)) (bdrewp _))) ngm); have q1':=(uh BF1).cell; have q2':=(uh BM1).cell; have Y1:=hide (hr.1.box ((uh Y0).below (bdrewp _)) (by omega)); have y1:=(uh Y1).cell; have z1:=(uh Y1).frozen; clear hq h1 h2 hr h4)))
 go_wp2_with fail
 have kk:Kept tenTS 0 w3 (setMany w3 w.heap.size 0 (atCells x)):=Kept.setMany (uh Y2) (by decide) (by omega) _
 have G2:Hid (AtIn 0 (setMany w3 w.heap.size 0 (atCells x)) x):=hide ((uh GI).kept (fun _ h => h) (kk))
 have R4:=hide (((uh R3').setMany (Nat.le_refl w.heap.size) gl (atCells x) 0))
 have Y3:=hide ((uh Y2).set12 (.string (strOfNums x.nm)) (.int .i64 x.kd) (.int .u32 x.f) (.int .i64 x.i) (.string (strOfNums x.s)) (.int .i64 x.T.1) (.slice x.A.pd x.T.2.1.length x.A.cd) (.slice x.A.pf x.T.2.2.1.length x.A.cf) (.slice x.A.pi x.T.2.2.2.1.length x.A.ci) (.slice x.A.pb x.T.2.2.2.2.length x.A.cb) (.slice x.qf x.fl.length x.cf) (.slice x.qi x.is.length x.ci))
 unfold atCells tenCells strV at G2 R4
 simp only [List.cons_append,List.nil_append] at G2 R4
 refine bodyPost_ret ?_ rfl ⟨x,rfl,hide ⟨uh G1,uh G2,uh R4⟩⟩
 simp [results,Tryz.results227,go_sem,(uh Y3).cell,atCells,tenCells,strV]
theorem cmsgsAttr_any (g:Nat) (q:Option Addr) (d:Nat) (L:List FA) (num:Int) (R:List Int → AtA → Prop) (F:List Int → F3) (w:World) (hw:WstE g w) (h:MsIn g w q d L)
  (H:∀ v,Stay g w v → WstE g v → ∀ b q d L,MsIn g v q d L → L.map FA.f = (fieldsP b).1 → Calls Tryz.prog 177 #[msV q L.length d g] v fun e w' => Made (fun w x => AtIn 0 w x) (fun x => .agg (atCells x).toArray) g (R b) (F b) v e w') :
  Calls Tryz.prog 176 #[msV q L.length d g,.int .i64 num,.func (.func 177) #[] #[]] w fun e w' => ∃ b xs,e = .returned (.slice (some ⟨b,0,none⟩) xs.length xs.length) ∧ Hid (Rb noAtA R (dsV (L.map FA.f) num) xs ∧ (∀ x ∈ xs,AtIn 0 w' x) ∧ Mrow 86 atCells w' b xs ∧ w.heap.size ≤ b ∧ RE g (f3 (bad3 ((allV (L.map FA.f) num).any fun f => f.2.1 != 2)) (fAll ((dsV (L.map FA.f) num).map fun b => f3 (fieldsP b).2 (F b)))) w w'):=by
 have HH:=hide H
 have HW:=hide hw
 have gl:=hw.lt
 have HM:=hide h
 have B0:=hide (al2p w (Obj.cells #[.slice q L.length d,.pointer (some ⟨g,0,none⟩)] 58) (Obj.cells #[.func (.func 177) #[] #[]] 219))
 have X1:=hide (Box.alloc (Box.new w #[.slice q L.length d,.pointer (some ⟨g,0,none⟩)] 58) (Obj.cells #[.func (.func 177) #[] #[]] 219))
 have Y1:Hid (Box ((w.alloc (Obj.cells #[.slice q L.length d,.pointer (some ⟨g,0,none⟩)] 58)).alloc (Obj.cells #[.func (.func 177) #[] #[]] 219)) (w.heap.size + 1) #[.func (.func 177) #[] #[]] 219):=hide (by have h:=Box.new (w.alloc (Obj.cells #[.slice q L.length d,.pointer (some ⟨g,0,none⟩)] 58)) #[.func (.func 177) #[] #[]] 219; rw [alloc_size6] at h; exact h)
 have C1:=hide (crowsAttr_any g q d L num 227 (ent_of Tryz.func227 (by kernel_rfl) rfl) #[.pointer (some ⟨w.heap.size + 1,0,none⟩),.pointer (some ⟨w.heap.size,0,none⟩)] R (fun b => f3 (fieldsP b).2 (F b)) _ ((uh HW).below (uh B0)) ((uh HM).stay (Stay.below (uh B0) (by omega))) (fun v sv wv p c b hp ho hl => cmsg1Attr_any g w.heap.size (w.heap.size + 1) q L.length d (R b) (F b) p c b v wv (sv.box (uh X1) (by omega)) (sv.box (uh Y1) (by omega)) hp ho hl (fun u su wu q' d' L' hm' hl' => uh HH u ((Stay.below (uh B0) (by omega)).trans (sv.trans su)) wu b q' d' L' hm' hl')))
 clear hw h H
 unfold msV at C1 ⊢
 go_enter Tryz.func176,Tryz.ntmps176
 go_wp2_with fail
 refine (uh C1).mono ?_
 rintro e w2 ⟨b,xs,rfl,hq⟩
 obtain ⟨g1,g2,g3,g4,g5⟩:=uh hq
 have G:=hide g1
 have GX:=hide g2
 have GM:=hide g3
 have R2:=hide (((RE.below (uh B0) (uh HW)).trans g5).eq (by rw [no_f3]))
 have hb:w.heap.size ≤ b:=Nat.le_trans (uh B0).size g4
 clear hq g1 g2 g3 g5 C1
 go_wp2_with fail
 go_ret
 exact ⟨b,xs,rfl,hide ⟨uh G,uh GX,uh GM,hb,uh R2⟩⟩
theorem Tryz.infoEStr:(Tryz.prog.info? 9).map (fun i => (i.zero,i.size,i.bytes)) = some (some (.string { data:=#[] }),1,16):=by kernel_rfl
theorem cchStr_any (g:Nat) (K:FuncId) (hK:Ent K) (caps:Array Value) (R:FA → Str → Prop) (F:FA → F3) (q:Option Addr) (d:Nat) (L:List FA) (w:World) (hw:WstE g w) (h:MsIn g w q d L)
  (H:∀ v,Stay g w v → WstE g v → ∀ a ∈ L,FaIn v a → Off g a.q a.d.length → Calls Tryz.prog K (#[faV a] ++ caps) v fun e w' => Made (fun w x => isB x) (fun x => strV x) g (R a) (F a) v e w') :
  Calls Tryz.prog 224 #[.slice q L.length d,.func (.func K) #[] caps] w fun e w' => ∃ b xs,e = .returned (.slice (some ⟨b,0,none⟩) xs.length xs.length) ∧ Hid (Rl ([]:Str) R L xs ∧ (∀ x ∈ xs,isB x) ∧ Mrow 9 strC w' b xs ∧ w.heap.size ≤ b ∧ RE g (fAll (L.map F)) w w'):=by
 obtain ⟨i1,hi1,y1,z1,b1⟩:=info_parts Tryz.infoEStr
 have hk:∀ (args:Array Value) (v:World),(callFunc K args).run Tryz.prog v = .ok (.enter K args) v:=hK
 have A1:=hide h
 have HH:=hide H
 obtain ⟨s1,_,_⟩:=h.small
 have HW:=hide hw
 have gl:=hw.lt
 clear h H hK hw
 go_enter Tryz.func224,Tryz.ntmps224
 go_wp2_with (at_make; (refine wpList_make_full _ rfl _ _ 72 rfl w.heap.size 9 i1 _ 1 Tryz.underlying72 hi1 y1 z1 _ _ _ _ L.length rfl rfl (by omega) (by omega) (by rw [b1]; omega) (by unfold maxLen; omega) (Nat.le_refl _) ?_; intro w0 hown hgrow; have HM:=hide (Mrow.made strWd ([]:Str) rfl hown); have HB:=hide ((Below.refl w.heap.size w).grown hgrow (Nat.le_refl _) (fun k hk => by cases hk)); clear hown hgrow))
 go_loopw [13] (fun iv wr => ∃ n:Nat,∃ ys:List Str,iv = .int .i64 n ∧ n ≤ L.length ∧ Hid (ys.length = n ∧ (∀ i,i < n → R (L.getD i noFA) (ys.getD i ([]:Str))) ∧ (∀ x ∈ ys,isB x) ∧ Mrow 9 strC wr w.heap.size (ys ++ List.replicate (L.length - n) ([]:Str)) ∧ RE g (fAll ((L.take n).map F)) w wr)) (fun iv _ => L.length - (intOf iv).toNat)
 case atStart => exact ⟨0,[],rfl,by omega,hide ⟨rfl,(fun i hi => by omega),(fun x hx => by cases hx),(by rw [List.nil_append]; exact uh HM),RE.below (uh HB) (uh HW)⟩⟩
 case round =>
  obtain ⟨n,ys,rfl,hn,HI⟩:=hrel
  obtain ⟨p1,p2,p3,p4,p5⟩:=uh HI
  have P2:=hide p2
  have P3:=hide p3
  have P4:=hide p4
  have P5:=hide p5
  have hsz:=lt_of_block p4
  clear HI p2 p3 p4 p5
  by_cases hlt:n < L.length
  ·have hi:(n:Int) < (L.length:Int):=by omega
   have MA:=hide ((uh A1).stay (uh P5).1)
   obtain ⟨b,o,rfl,hb,k0,k1,k2,k3⟩:=(uh MA).1.1.at hlt
   have hmem:=getD_memF hlt
   have HX:=hide (fun o => uh HH (wr.alloc o) ((uh P5).1.trans (Stay.below (al1p wr o) (by omega))) (((uh P5).wst (uh HW)).below (al1p wr o)) (L.getD n noFA) hmem (((uh MA).1.2 _ hmem).below (al1p wr o)) ((uh MA).2.2.1 _ hmem))
   have HT:=hide (map_take7 F noFA L n hlt)
   have P2':=hide (fun (x:Str) (hx:R (L.getD n noFA) x) (i:Nat) (hi:i < n + 1) => ((if e:i = n then (by rw [getD_app,p1,if_pos e,e]; exact hx) else (by rw [getD_app,p1,if_neg e]; exact uh P2 i (by omega))):R (L.getD i noFA) ((ys ++ [x]).getD i ([]:Str))))
   generalize F (L.getD n noFA) = FX at HX HT
   generalize L.getD n noFA = a at k0 k1 k2 k3 HX P2'
   obtain ⟨an,awr,ax,ad,aq,ac⟩:=a
   unfold faV at HX
   simp only at k0 k1 k2 k3 HX
   clear hmem
   go_wp2_with fail
   refine (uh HX _).mono ?_
   rintro e w1 ⟨x,rfl,hq⟩
   obtain ⟨g1,g2,g3⟩:=uh hq
   have G1:=hide (uh P2' x g1)
   obtain ⟨m,hm⟩:∃ m,L.length - n = m + 1:=⟨L.length - n - 1,by omega⟩
   rw [hm] at P4
   have hne:¬ w.heap.size = g:=by omega
   have M1:=hide (((uh P4).below (al1p wr _)).stay g3.1 hne)
   have hl:(ys ++ List.replicate (m + 1) ([]:Str)).length = L.length:=by rw [List.length_append,p1,List.length_replicate]; omega
   have HZ:Hid ((ys ++ List.replicate (m + 1) ([]:Str)).getD n ([]:Str) = ([]:Str)):=hide (by rw [← p1]; exact getD_rep ys m ([]:Str))
   have s1':w.heap.size < w1.heap.size:=lt_of_block (uh M1)
   have c0:w1.cell? ⟨w.heap.size,n,none⟩ = some (.string { data:=#[] }):=by
    have:=Mrow.at strWd (z:=([]:Str)) (uh M1) (i:=n) (j:=0) (u:=.string { data:=#[] }) (by omega) (by rw [uh HZ]; rfl)
    rw [Nat.mul_one] at this; exact this
   have f1:=(uh M1).frozen
   have M2:=hide (Mrow.set strWd (uh M1) x (i:=n) (by omega))
   have e1:(ys ++ List.replicate (m + 1) ([]:Str)).set n x = (ys ++ [x]) ++ List.replicate m ([]:Str):=by rw [← p1]; exact set_mid ys m ([]:Str) x
   rw [e1] at M2
   have R1:=hide ((((uh P5).trans (RE.below (al1p wr _) ((uh P5).wst (uh HW)))).trans g3).setMany (Nat.le_refl _) gl (strC x) (n * 1))
   rw [f3_no] at R1
   have X1:Hid (∀ y ∈ ys ++ [x],isB y):=hide (fun y hy => by
    have kk:Kept [] 0 w1 (setMany w1 w.heap.size (n * 1) (strC x)):=Kept.setMany (uh M1) (by decide) (by omega) _
    rcases List.mem_append.1 hy with hy | hy
    ·exact (uh P3 y hy)
    ·simp at hy; subst hy
     exact g2)
   have RF:Hid (fAll ((L.take (n + 1)).map F) = f3 (fAll ((L.take n).map F)) FX):=hide (by rw [uh HT,fAll_append]; simp [fAll,no_f3])
   rw [← uh RF] at R1
   have hyl:(ys ++ [x]).length = n + 1:=by rw [List.length_append,p1]; rfl
   clear hq g1 g2 g3 e1 HT HX P2' P2 P3 P4 P5 RF hl M1 HZ
   try simp only [Nat.mul_one] at M2 R1 X1
   unfold strC strV at M2 R1
   unfold strV
   go_wp2_with fail
   go_roundw
   case rel => exact ⟨n + 1,ys ++ [x],by go_num,by omega,hide ⟨hyl,uh G1,uh X1,by rw [show L.length - (n + 1) = m by omega]; exact uh M2,uh R1⟩⟩
   case measure => simp [intOf]; omega
  ·have hi:¬ (n:Int) < (L.length:Int):=by omega
   have en:n = L.length:=by omega
   subst en
   rw [Nat.sub_self,List.replicate_zero,List.append_nil] at P4
   rw [List.take_of_length_le (Nat.le_refl _)] at P5
   have HE:=hide p1
   clear p1
   go_wp2_with fail
   go_ret
   exact ⟨w.heap.size,ys,by rw [uh HE]; rfl,hide ⟨⟨uh HE,uh P2⟩,uh P3,uh P4,Nat.le_refl _,uh P5⟩⟩
def Rn (g:Nat) (f:F3) (w0 v:World):Prop:=RE g f w0 v ∧ WstE g v
def Rx (g:Nat) (w0 v:World):Prop:=∃ f,Rn g f w0 v
theorem RE.refl {g:Nat} {w:World} (hw:WstE g w):RE g no3 w w:=RE.below (Below.refl _ _) hw
theorem Rn.refl {g:Nat} {w:World} (hw:WstE g w):Rn g no3 w w:=⟨RE.refl hw,hw⟩
theorem Rn.re {g:Nat} {f f':F3} {w0 v v':World} (h:Rn g f w0 v) (r:RE g f' v v'):Rn g (f3 f f') w0 v':=⟨h.1.trans r,r.wst h.2⟩
theorem Rn.bel {g:Nat} {f:F3} {w0 v v':World} (h:Rn g f w0 v) (b:Below v.heap.size v v'):Rn g f w0 v':=⟨(h.1.trans (RE.below b h.2)).eq (by rw [f3_no]),h.2.below b⟩
theorem Rn.al {g:Nat} {f:F3} {w0 v:World} (h:Rn g f w0 v) (o:Obj):Rn g f w0 (v.alloc o):=h.bel (al1p v o)
theorem Rn.dr {g:Nat} {f:F3} {w0 v:World} (h:Rn g f w0 v):Rn g f w0 v.drew:=h.bel (bdrewp v)
theorem Rn.set {g b:Nat} {f:F3} {w0 v:World} (h:Rn g f w0 v) (hb:w0.heap.size ≤ b) (hg:g < w0.heap.size) (j:Nat) (u:Value):Rn g f w0 (v.setCell ⟨b,j,none⟩ u):=by
 refine ⟨h.1.setNew hb hg j u,?_⟩
 obtain ⟨k,h0,h1,h2⟩:=h.2
 exact ⟨k,h0,h1,Box.other h2 (by omega) j u⟩
theorem Rn.setMany {g b:Nat} {f:F3} {w0:World} (hb:w0.heap.size ≤ b) (hg:g < w0.heap.size):∀ (us:List Value) (off:Nat) (v:World),Rn g f w0 v → Rn g f w0 (setMany v b off us)
 | [],off,v,h => h
 | u :: us,off,v,h => Rn.setMany hb hg us (off + 1) _ (h.set hb hg off u)
theorem Rn.x {g:Nat} {f:F3} {w0 v:World} (h:Rn g f w0 v):Rx g w0 v:=⟨f,h⟩
theorem RE.thenN {g:Nat} {f f':F3} {w w0 v:World} (h:RE g f w w0) (r:Rn g f' w0 v):Rn g (f3 f f') w v:=⟨h.trans r.1,r.2⟩
theorem Rn.box {g k:Nat} {f:F3} {w0 v:World} {cs:Array Value} {t:TypeId} (h:Rn g f w0 v) (b:Box w0 k cs t) (hk:k ≠ g):Box v k cs t:=h.1.1.box b hk
theorem Rn.size {g:Nat} {f:F3} {w0 v:World} (h:Rn g f w0 v):w0.heap.size ≤ v.heap.size:=h.1.1.1.size
theorem Rn.cells1 {g m:Nat} {f:F3} {w0 v:World} {cs:Array Value} {t:TypeId} (h:Rn g f w0 v) (b:Box w0 m cs t) (n:m ≠ g):∀ j,v.cell? ⟨m,j,none⟩ = cs[j]?:=(h.box b n).cell
theorem Rn.cells2 {g m m':Nat} {f:F3} {w0 v:World} {cs cs':Array Value} {t t':TypeId} (h:Rn g f w0 v) (b:Box w0 m cs t) (b':Box w0 m' cs' t') (n:m ≠ g) (n':m' ≠ g):(∀ j,v.cell? ⟨m,j,none⟩ = cs[j]?) ∧ (∀ j,v.cell? ⟨m',j,none⟩ = cs'[j]?):=⟨(h.box b n).cell,(h.box b' n').cell⟩
theorem Rn.cells3 {g m m' m'':Nat} {f:F3} {w0 v:World} {cs cs' cs'':Array Value} {t t' t'':TypeId} (h:Rn g f w0 v) (b:Box w0 m cs t) (b':Box w0 m' cs' t') (b'':Box w0 m'' cs'' t'') (n:m ≠ g) (n':m' ≠ g) (n'':m'' ≠ g):(∀ j,v.cell? ⟨m,j,none⟩ = cs[j]?) ∧ (∀ j,v.cell? ⟨m',j,none⟩ = cs'[j]?) ∧ (∀ j,v.cell? ⟨m'',j,none⟩ = cs''[j]?):=⟨(h.box b n).cell,(h.box b' n').cell,(h.box b'' n'').cell⟩
theorem Rn.set2 {g b:Nat} {f:F3} {w0 v:World} (h:Rn g f w0 v) (hb:w0.heap.size ≤ b) (hg:g < w0.heap.size) (u0 u1:Value):Rn g f w0 ((v.setCell ⟨b,0,none⟩ u0).setCell ⟨b,1,none⟩ u1):=Rn.setMany hb hg [u0,u1] 0 v h
theorem Kept.set2 {TS:List TypeId} {B b:Nat} {w:World} {cur:Array Value} {t:TypeId} (h:Box w b cur t) (ht:¬ t ∈ TS) (hB:B ≤ b) (u0 u1:Value):Kept TS B w ((w.setCell ⟨b,0,none⟩ u0).setCell ⟨b,1,none⟩ u1):=Kept.setMany (off:=0) h ht hB [u0,u1]
theorem Rn.set3 {g b:Nat} {f:F3} {w0 v:World} (h:Rn g f w0 v) (hb:w0.heap.size ≤ b) (hg:g < w0.heap.size) (u0 u1 u2:Value):Rn g f w0 (((v.setCell ⟨b,0,none⟩ u0).setCell ⟨b,1,none⟩ u1).setCell ⟨b,2,none⟩ u2):=Rn.setMany hb hg [u0,u1,u2] 0 v h
theorem Kept.set3 {TS:List TypeId} {B b:Nat} {w:World} {cur:Array Value} {t:TypeId} (h:Box w b cur t) (ht:¬ t ∈ TS) (hB:B ≤ b) (u0 u1 u2:Value):Kept TS B w (((w.setCell ⟨b,0,none⟩ u0).setCell ⟨b,1,none⟩ u1).setCell ⟨b,2,none⟩ u2):=Kept.setMany (off:=0) h ht hB [u0,u1,u2]
theorem Rn.set5 {g b:Nat} {f:F3} {w0 v:World} (h:Rn g f w0 v) (hb:w0.heap.size ≤ b) (hg:g < w0.heap.size) (u0 u1 u2 u3 u4:Value):Rn g f w0 (((((v.setCell ⟨b,0,none⟩ u0).setCell ⟨b,1,none⟩ u1).setCell ⟨b,2,none⟩ u2).setCell ⟨b,3,none⟩ u3).setCell ⟨b,4,none⟩ u4):=Rn.setMany hb hg [u0,u1,u2,u3,u4] 0 v h
theorem Kept.set5 {TS:List TypeId} {B b:Nat} {w:World} {cur:Array Value} {t:TypeId} (h:Box w b cur t) (ht:¬ t ∈ TS) (hB:B ≤ b) (u0 u1 u2 u3 u4:Value):Kept TS B w (((((w.setCell ⟨b,0,none⟩ u0).setCell ⟨b,1,none⟩ u1).setCell ⟨b,2,none⟩ u2).setCell ⟨b,3,none⟩ u3).setCell ⟨b,4,none⟩ u4):=Kept.setMany (off:=0) h ht hB [u0,u1,u2,u3,u4]
theorem Rn.set6 {g b:Nat} {f:F3} {w0 v:World} (h:Rn g f w0 v) (hb:w0.heap.size ≤ b) (hg:g < w0.heap.size) (u0 u1 u2 u3 u4 u5:Value):Rn g f w0 ((((((v.setCell ⟨b,0,none⟩ u0).setCell ⟨b,1,none⟩ u1).setCell ⟨b,2,none⟩ u2).setCell ⟨b,3,none⟩ u3).setCell ⟨b,4,none⟩ u4).setCell ⟨b,5,none⟩ u5):=Rn.setMany hb hg [u0,u1,u2,u3,u4,u5] 0 v h
theorem Kept.set6 {TS:List TypeId} {B b:Nat} {w:World} {cur:Array Value} {t:TypeId} (h:Box w b cur t) (ht:¬ t ∈ TS) (hB:B ≤ b) (u0 u1 u2 u3 u4 u5:Value):Kept TS B w ((((((w.setCell ⟨b,0,none⟩ u0).setCell ⟨b,1,none⟩ u1).setCell ⟨b,2,none⟩ u2).setCell ⟨b,3,none⟩ u3).setCell ⟨b,4,none⟩ u4).setCell ⟨b,5,none⟩ u5):=Kept.setMany (off:=0) h ht hB [u0,u1,u2,u3,u4,u5]
theorem Rn.set12 {g b:Nat} {f:F3} {w0 v:World} (h:Rn g f w0 v) (hb:w0.heap.size ≤ b) (hg:g < w0.heap.size) (u0 u1 u2 u3 u4 u5 u6 u7 u8 u9 u10 u11:Value):Rn g f w0 ((((((((((((v.setCell ⟨b,0,none⟩ u0).setCell ⟨b,1,none⟩ u1).setCell ⟨b,2,none⟩ u2).setCell ⟨b,3,none⟩ u3).setCell ⟨b,4,none⟩ u4).setCell ⟨b,5,none⟩ u5).setCell ⟨b,6,none⟩ u6).setCell ⟨b,7,none⟩ u7).setCell ⟨b,8,none⟩ u8).setCell ⟨b,9,none⟩ u9).setCell ⟨b,10,none⟩ u10).setCell ⟨b,11,none⟩ u11):=Rn.setMany hb hg [u0,u1,u2,u3,u4,u5,u6,u7,u8,u9,u10,u11] 0 v h
theorem Kept.set12 {TS:List TypeId} {B b:Nat} {w:World} {cur:Array Value} {t:TypeId} (h:Box w b cur t) (ht:¬ t ∈ TS) (hB:B ≤ b) (u0 u1 u2 u3 u4 u5 u6 u7 u8 u9 u10 u11:Value):Kept TS B w ((((((((((((w.setCell ⟨b,0,none⟩ u0).setCell ⟨b,1,none⟩ u1).setCell ⟨b,2,none⟩ u2).setCell ⟨b,3,none⟩ u3).setCell ⟨b,4,none⟩ u4).setCell ⟨b,5,none⟩ u5).setCell ⟨b,6,none⟩ u6).setCell ⟨b,7,none⟩ u7).setCell ⟨b,8,none⟩ u8).setCell ⟨b,9,none⟩ u9).setCell ⟨b,10,none⟩ u10).setCell ⟨b,11,none⟩ u11):=Kept.setMany (off:=0) h ht hB [u0,u1,u2,u3,u4,u5,u6,u7,u8,u9,u10,u11]
theorem Rn.store2 {g b:Nat} {f:F3} {w0 v v':World} {a0 a1:Value} {t:TypeId} (h:Rn g f w0 v) (hk:Below v.heap.size v v') (hb:Box v' b #[a0,a1] t) (h0:w0.heap.size ≤ b) (hg:g < w0.heap.size) (u0 u1:Value):Rn g f w0 ((v'.setCell ⟨b,0,none⟩ u0).setCell ⟨b,1,none⟩ u1) ∧ Box ((v'.setCell ⟨b,0,none⟩ u0).setCell ⟨b,1,none⟩ u1) b #[u0,u1] t ∧ ∀ TS:List TypeId,¬ t ∈ TS → Kept TS 0 v ((v'.setCell ⟨b,0,none⟩ u0).setCell ⟨b,1,none⟩ u1):=⟨(h.bel hk).set2 h0 hg u0 u1,hb.set2 u0 u1,fun TS ht => (Kept.below hk).trans (Kept.set2 hb ht (by omega) u0 u1)⟩
theorem Rn.store3 {g b:Nat} {f:F3} {w0 v v':World} {a0 a1 a2:Value} {t:TypeId} (h:Rn g f w0 v) (hk:Below v.heap.size v v') (hb:Box v' b #[a0,a1,a2] t) (h0:w0.heap.size ≤ b) (hg:g < w0.heap.size) (u0 u1 u2:Value):Rn g f w0 (((v'.setCell ⟨b,0,none⟩ u0).setCell ⟨b,1,none⟩ u1).setCell ⟨b,2,none⟩ u2) ∧ Box (((v'.setCell ⟨b,0,none⟩ u0).setCell ⟨b,1,none⟩ u1).setCell ⟨b,2,none⟩ u2) b #[u0,u1,u2] t ∧ ∀ TS:List TypeId,¬ t ∈ TS → Kept TS 0 v (((v'.setCell ⟨b,0,none⟩ u0).setCell ⟨b,1,none⟩ u1).setCell ⟨b,2,none⟩ u2):=⟨(h.bel hk).set3 h0 hg u0 u1 u2,hb.set3 u0 u1 u2,fun TS ht => (Kept.below hk).trans (Kept.set3 hb ht (by omega) u0 u1 u2)⟩
theorem Rn.store5 {g b:Nat} {f:F3} {w0 v v':World} {a0 a1 a2 a3 a4:Value} {t:TypeId} (h:Rn g f w0 v) (hk:Below v.heap.size v v') (hb:Box v' b #[a0,a1,a2,a3,a4] t) (h0:w0.heap.size ≤ b) (hg:g < w0.heap.size) (u0 u1 u2 u3 u4:Value):Rn g f w0 (((((v'.setCell ⟨b,0,none⟩ u0).setCell ⟨b,1,none⟩ u1).setCell ⟨b,2,none⟩ u2).setCell ⟨b,3,none⟩ u3).setCell ⟨b,4,none⟩ u4) ∧ Box (((((v'.setCell ⟨b,0,none⟩ u0).setCell ⟨b,1,none⟩ u1).setCell ⟨b,2,none⟩ u2).setCell ⟨b,3,none⟩ u3).setCell ⟨b,4,none⟩ u4) b #[u0,u1,u2,u3,u4] t ∧ ∀ TS:List TypeId,¬ t ∈ TS → Kept TS 0 v (((((v'.setCell ⟨b,0,none⟩ u0).setCell ⟨b,1,none⟩ u1).setCell ⟨b,2,none⟩ u2).setCell ⟨b,3,none⟩ u3).setCell ⟨b,4,none⟩ u4):=⟨(h.bel hk).set5 h0 hg u0 u1 u2 u3 u4,hb.set5 u0 u1 u2 u3 u4,fun TS ht => (Kept.below hk).trans (Kept.set5 hb ht (by omega) u0 u1 u2 u3 u4)⟩
theorem Rn.store6 {g b:Nat} {f:F3} {w0 v v':World} {a0 a1 a2 a3 a4 a5:Value} {t:TypeId} (h:Rn g f w0 v) (hk:Below v.heap.size v v') (hb:Box v' b #[a0,a1,a2,a3,a4,a5] t) (h0:w0.heap.size ≤ b) (hg:g < w0.heap.size) (u0 u1 u2 u3 u4 u5:Value):Rn g f w0 ((((((v'.setCell ⟨b,0,none⟩ u0).setCell ⟨b,1,none⟩ u1).setCell ⟨b,2,none⟩ u2).setCell ⟨b,3,none⟩ u3).setCell ⟨b,4,none⟩ u4).setCell ⟨b,5,none⟩ u5) ∧ Box ((((((v'.setCell ⟨b,0,none⟩ u0).setCell ⟨b,1,none⟩ u1).setCell ⟨b,2,none⟩ u2).setCell ⟨b,3,none⟩ u3).setCell ⟨b,4,none⟩ u4).setCell ⟨b,5,none⟩ u5) b #[u0,u1,u2,u3,u4,u5] t ∧ ∀ TS:List TypeId,¬ t ∈ TS → Kept TS 0 v ((((((v'.setCell ⟨b,0,none⟩ u0).setCell ⟨b,1,none⟩ u1).setCell ⟨b,2,none⟩ u2).setCell ⟨b,3,none⟩ u3).setCell ⟨b,4,none⟩ u4).setCell ⟨b,5,none⟩ u5):=⟨(h.bel hk).set6 h0 hg u0 u1 u2 u3 u4 u5,hb.set6 u0 u1 u2 u3 u4 u5,fun TS ht => (Kept.below hk).trans (Kept.set6 hb ht (by omega) u0 u1 u2 u3 u4 u5)⟩
theorem Rn.store12 {g b:Nat} {f:F3} {w0 v v':World} {a0 a1 a2 a3 a4 a5 a6 a7 a8 a9 a10 a11:Value} {t:TypeId} (h:Rn g f w0 v) (hk:Below v.heap.size v v') (hb:Box v' b #[a0,a1,a2,a3,a4,a5,a6,a7,a8,a9,a10,a11] t) (h0:w0.heap.size ≤ b) (hg:g < w0.heap.size) (u0 u1 u2 u3 u4 u5 u6 u7 u8 u9 u10 u11:Value):Rn g f w0 ((((((((((((v'.setCell ⟨b,0,none⟩ u0).setCell ⟨b,1,none⟩ u1).setCell ⟨b,2,none⟩ u2).setCell ⟨b,3,none⟩ u3).setCell ⟨b,4,none⟩ u4).setCell ⟨b,5,none⟩ u5).setCell ⟨b,6,none⟩ u6).setCell ⟨b,7,none⟩ u7).setCell ⟨b,8,none⟩ u8).setCell ⟨b,9,none⟩ u9).setCell ⟨b,10,none⟩ u10).setCell ⟨b,11,none⟩ u11) ∧ Box ((((((((((((v'.setCell ⟨b,0,none⟩ u0).setCell ⟨b,1,none⟩ u1).setCell ⟨b,2,none⟩ u2).setCell ⟨b,3,none⟩ u3).setCell ⟨b,4,none⟩ u4).setCell ⟨b,5,none⟩ u5).setCell ⟨b,6,none⟩ u6).setCell ⟨b,7,none⟩ u7).setCell ⟨b,8,none⟩ u8).setCell ⟨b,9,none⟩ u9).setCell ⟨b,10,none⟩ u10).setCell ⟨b,11,none⟩ u11) b #[u0,u1,u2,u3,u4,u5,u6,u7,u8,u9,u10,u11] t ∧ ∀ TS:List TypeId,¬ t ∈ TS → Kept TS 0 v ((((((((((((v'.setCell ⟨b,0,none⟩ u0).setCell ⟨b,1,none⟩ u1).setCell ⟨b,2,none⟩ u2).setCell ⟨b,3,none⟩ u3).setCell ⟨b,4,none⟩ u4).setCell ⟨b,5,none⟩ u5).setCell ⟨b,6,none⟩ u6).setCell ⟨b,7,none⟩ u7).setCell ⟨b,8,none⟩ u8).setCell ⟨b,9,none⟩ u9).setCell ⟨b,10,none⟩ u10).setCell ⟨b,11,none⟩ u11):=⟨(h.bel hk).set12 h0 hg u0 u1 u2 u3 u4 u5 u6 u7 u8 u9 u10 u11,hb.set12 u0 u1 u2 u3 u4 u5 u6 u7 u8 u9 u10 u11,fun TS ht => (Kept.below hk).trans (Kept.set12 hb ht (by omega) u0 u1 u2 u3 u4 u5 u6 u7 u8 u9 u10 u11)⟩
theorem cut7_2 {α0 α1:Type} {Gt:Prop} (G:Nat → World → α0 → α1 → Prop) (Fa:Nat → World → α0 → α1 → Prop) (main:(∀ b F x0 x1,Fa b F x0 x1 → G b F x0 x1) → Gt) (k:∀ b F x0 x1,Fa b F x0 x1 → G b F x0 x1):Gt:=main k
theorem cut7_4 {α0 α1 α2 α3:Type} {Gt:Prop} (G:Nat → World → α0 → α1 → α2 → α3 → Prop) (Fa:Nat → World → α0 → α1 → α2 → α3 → Prop) (main:(∀ b F x0 x1 x2 x3,Fa b F x0 x1 x2 x3 → G b F x0 x1 x2 x3) → Gt) (k:∀ b F x0 x1 x2 x3,Fa b F x0 x1 x2 x3 → G b F x0 x1 x2 x3):Gt:=main k
theorem cut7_6 {α0 α1 α2 α3 α4 α5:Type} {Gt:Prop} (G:Nat → World → α0 → α1 → α2 → α3 → α4 → α5 → Prop) (Fa:Nat → World → α0 → α1 → α2 → α3 → α4 → α5 → Prop) (main:(∀ b F x0 x1 x2 x3 x4 x5,Fa b F x0 x1 x2 x3 x4 x5 → G b F x0 x1 x2 x3 x4 x5) → Gt) (k:∀ b F x0 x1 x2 x3 x4 x5,Fa b F x0 x1 x2 x3 x4 x5 → G b F x0 x1 x2 x3 x4 x5):Gt:=main k
theorem cut7_8 {α0 α1 α2 α3 α4 α5 α6 α7:Type} {Gt:Prop} (G:Nat → World → α0 → α1 → α2 → α3 → α4 → α5 → α6 → α7 → Prop) (Fa:Nat → World → α0 → α1 → α2 → α3 → α4 → α5 → α6 → α7 → Prop) (main:(∀ b F x0 x1 x2 x3 x4 x5 x6 x7,Fa b F x0 x1 x2 x3 x4 x5 x6 x7 → G b F x0 x1 x2 x3 x4 x5 x6 x7) → Gt) (k:∀ b F x0 x1 x2 x3 x4 x5 x6 x7,Fa b F x0 x1 x2 x3 x4 x5 x6 x7 → G b F x0 x1 x2 x3 x4 x5 x6 x7):Gt:=main k
theorem dsV_len (l:List Fld) (num:Int):(dsV l num).length ≤ l.length:=by
 unfold dsV allV
 rw [List.length_map]
 exact List.length_filter_le _ _
theorem Rb.small {β:Type} {z:β} {R:List Int → β → Prop} {g:Nat} {w:World} {q:Option Addr} {d:Nat} {L:List FA} {num:Int} {xs:List β} (h:Rb z R (dsV (L.map FA.f) num) xs) (m:MsIn g w q d L):xs.length ≤ 4194304:=by
 have h1:=h.1
 have h2:=dsV_len (L.map FA.f) num
 rw [List.length_map] at h2
 have:=m.small.1
 omega
theorem Rx.wst {g:Nat} {w0 v:World} (h:Rx g w0 v):WstE g v:=by obtain ⟨f,h⟩:=h; exact h.2
theorem Rx.ms {g:Nat} {w0 v:World} {q:Option Addr} {d:Nat} {L:List FA} (h:Rx g w0 v) (m:MsIn g w0 q d L):MsIn g v q d L:=by obtain ⟨f,h⟩:=h; exact m.stay h.1.1
theorem crow1Stm_any (g gm gb:Nat) (q0:Option Addr) (n0 d0:Nat) (K:FuncId) (hK:Ent K) (P:Value) (R:Str → Prop) (F:F3) (a:FA) (w:World) (hw:WstE g w) (hm:Box w gm #[.slice q0 n0 d0,.pointer (some ⟨g,0,none⟩)] 58) (hb:Box w gb #[.func (.func K) #[P] #[]] 215) (ha:FaIn w a) (ho:Off g a.q a.d.length)
  (H:∀ v,Stay g w v → WstE g v → Ints .u8 v a.q a.c a.d → Calls Tryz.prog K #[P,.slice a.q a.d.length a.c] v fun e w' => Made (fun w x => isB x) (fun x => strV x) g R F v e w') :
  Calls Tryz.prog 225 #[faV a,.pointer (some ⟨gm,0,none⟩),.pointer (some ⟨gb,0,none⟩)] w fun e w' => Made (fun w x => isB x) (fun x => strV x) g R (f3 (bad3 (a.wr != 2)) F) w e w':=by
 have hk:∀ (args:Array Value) (v:World),(callFunc K args).run Tryz.prog v = .ok (.enter K args) v:=hK
 have HH:=hide H
 have HW:=hide hw
 have gl:=hw.lt
 have ngm:=wst_ne hw hm (by decide)
 have ngb:=wst_ne hw hb (by decide)
 have BM:=hide hm
 have BF:=hide hb
 have HA:=hide ha
 have HO:=hide ho
 have C1:=hide (fun v (hv:WstE g v) => cnote_bad g q0 n0 d0 (a.wr != 2) v hv)
 clear hK H hm hb ha ho hw
 obtain ⟨an,awr,ax,ad,aq,ac⟩:=a
 simp only at HH HA HO C1 ⊢
 obtain ⟨DD,hD⟩:∃ DD,(awr != 2) = DD:=⟨_,rfl⟩
 rw [hD] at C1 ⊢
 unfold faV
 unfold msV at C1
 simp only
 have x1:=((uh BM).below (show Below w.heap.size w (w.alloc (Obj.cells #[.int .i64 an,.int .i64 awr,.int .u64 ax,.slice aq ad.length ac] 148)) from (al1p _ _))).cell
 go_enter Tryz.func225,Tryz.ntmps225
 go_wp2_with fail
 try rw [hD]
 refine (uh C1 _ ((uh HW).below (al1p _ _))).mono ?_
 rintro e w2 ⟨rfl,hr⟩
 have r2:=(RE.below (show Below w.heap.size w (w.alloc (Obj.cells #[.int .i64 an,.int .i64 awr,.int .u64 ax,.slice aq ad.length ac] 148)) from (al1p _ _)) (uh HW)).trans hr
 rw [no_f3] at r2
 have R2':=hide r2
 have x2:=(hr.1.box ((uh BF).below (show Below w.heap.size w (w.alloc (Obj.cells #[.int .i64 an,.int .i64 awr,.int .u64 ax,.slice aq ad.length ac] 148)) from (al1p _ _))) ngb).cell
 have x3:=(hr.1.box (Box.new w #[.int .i64 an,.int .i64 awr,.int .u64 ax,.slice aq ad.length ac] 148) (by omega)).cell
 have HI:=hide (((uh HA).below (show Below w.heap.size w (w.alloc (Obj.cells #[.int .i64 an,.int .i64 awr,.int .u64 ax,.slice aq ad.length ac] 148)) from (al1p _ _))).stay (uh HO) hr.1)
 clear hr r2 x1
 go_wp2_with fail
 refine (uh HH _ (uh R2').1 ((uh R2').wst (uh HW)) (uh HI).2.2.2).mono ?_
 rintro e w3 ⟨x,rfl,hq⟩
 obtain ⟨g1,g2,hr2⟩:=uh hq
 have G1:=hide (And.intro g1 g2)
 have R4:=hide ((uh R2').trans hr2)
 clear hq g1 g2 hr2
 unfold strV
 go_wp2_with fail
 go_ret
 exact ⟨x,rfl,hide ⟨(uh G1).1,(uh G1).2,uh R4⟩⟩
theorem crowsStm_any (g:Nat) (q:Option Addr) (d:Nat) (L:List FA) (num:Int) (K:FuncId) (hK:Ent K) (P:Value) (R:List Int → Str → Prop) (F:List Int → F3) (w:World) (hw:WstE g w) (h:MsIn g w q d L)
  (H:∀ v,Stay g w v → WstE g v → ∀ p c b,Ints .u8 v p c b → Off g p b.length → b.length ≤ 4194304 → Calls Tryz.prog K #[P,.slice p b.length c] v fun e w' => Made (fun w x => isB x) (fun x => strV x) g (R b) (F b) v e w') :
  Calls Tryz.prog 175 #[msV q L.length d g,.int .i64 num,.func (.func K) #[P] #[]] w fun e w' => ∃ b xs,e = .returned (.slice (some ⟨b,0,none⟩) xs.length xs.length) ∧ Hid (Rb ([]:Str) R (dsV (L.map FA.f) num) xs ∧ (∀ x ∈ xs,isB x) ∧ Mrow 9 strC w' b xs ∧ w.heap.size ≤ b ∧ RE g (f3 (bad3 ((allV (L.map FA.f) num).any fun f => f.2.1 != 2)) (fAll ((dsV (L.map FA.f) num).map F))) w w'):=by
 obtain ⟨s1,s2,s3⟩:=h.small
 have C1:=hide (fun v (hv:Below w.heap.size w v) => call_any q d L num v (h.1.below hv) (by omega) (fun a ha => by have:=s3 a ha; omega))
 have HS:=hide (fun LA => all_sum (L:=L) (num:=num) (LA:=LA) h.2.2.2)
 have HK:=hide hK
 have HH:=hide H
 have HW:=hide hw
 have gl:=hw.lt
 clear hw h s3 hK H
 unfold msV
 go_enter Tryz.func175,Tryz.ntmps175
 go_wp2_with fail
 refine (uh C1 _ (al2p _ _ _)).mono ?_
 rintro e w1 ⟨v1,LA,rfl,hL,hO⟩
 obtain ⟨q1,d1,rfl,hm⟩:=ownL_ms (g:=g) (uh hO) (by simp; omega) (uh HS LA (uh hL))
 have B1:=hide (bl_tr (al2p w (Obj.cells #[.slice q L.length d,.pointer (some ⟨g,0,none⟩)] 58) (Obj.cells #[.func (.func K) #[P] #[]] 215)) (uh hO).1.2)
 have X1:=hide (Box.below (Box.alloc (Box.new w #[.slice q L.length d,.pointer (some ⟨g,0,none⟩)] 58) (Obj.cells #[.func (.func K) #[P] #[]] 215)) (uh hO).1.2)
 have Y1:Hid (Box w1 (w.heap.size + 1) #[.func (.func K) #[P] #[]] 215):=hide (by have h:=Box.below (Box.new (w.alloc (Obj.cells #[.slice q L.length d,.pointer (some ⟨g,0,none⟩)] 58)) #[.func (.func K) #[P] #[]] 215) (uh hO).1.2; rw [alloc_size6] at h; exact h)
 have W1:=hide ((uh HW).below (uh B1))
 have C2:=hide (cchStr_any g 225 (ent_of Tryz.func225 (by kernel_rfl) rfl) #[.pointer (some ⟨w.heap.size,0,none⟩),.pointer (some ⟨w.heap.size + 1,0,none⟩)] (fun a x => R a.d x) (fun a => f3 (bad3 (a.wr != 2)) (F a.d)) q1 d1 LA w1 (uh W1) hm (fun v sv wv a ha fa fo => crow1Stm_any g w.heap.size (w.heap.size + 1) q L.length d K (uh HK) P (R a.d) (F a.d) a v wv (sv.box (uh X1) (by omega)) (sv.box (uh Y1) (by omega)) fa fo (fun u su wu hu => uh HH u ((Stay.below (uh B1) (by omega)).trans (sv.trans su)) wu a.q a.c a.d hu fo (by have:=sumD_mem ha; have:=uh HS LA (uh hL); omega))))
 have HL:=hL
 clear hO hm C1 hL
 go_wp2_with fail
 refine (uh C2).mono ?_
 rintro e w2 ⟨b,xs,rfl,hq⟩
 obtain ⟨g1,g2,g3,g4,g5⟩:=uh hq
 have G:=hide (rows_end (uh HL) g1)
 have GX:=hide g2
 have GM:=hide g3
 have R2:=hide (((RE.below (uh B1) (uh HW)).trans g5).eq (rows_lev (uh HL) F))
 have hb:w.heap.size ≤ b:=Nat.le_trans (uh B1).size g4
 clear hq g1 g2 g3 g5 C2
 go_wp2_with fail
 go_ret
 exact ⟨b,xs,rfl,hide ⟨uh G,uh GX,uh GM,hb,uh R2⟩⟩
end Go.Proofs.YtmdlaahdgjegcaaGreat
