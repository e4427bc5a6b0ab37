import Derived.Test.YtmdlaahdgjegcaaGreatV25
set_option maxRecDepth 100000
set_option maxHeartbeats 8000000
namespace Go.Proofs.YtmdlaahdgjegcaaGreat
open Go.RowKit
set_option linter.unusedVariables false
theorem Tryz.infoEValue:(Tryz.prog.info? 52).map (fun i => (i.zero,i.size,i.bytes)) = some (some (.agg #[.string { data:=#[] },.int .i64 0,.slice none 0 0]),3,48):=by kernel_rfl
theorem cchValue_any (g:Nat) (K:FuncId) (hK:Ent K) (caps:Array Value) (R:FA → VaA → Prop) (F:FA → F3) (q:Option Addr) (d:Nat) (L:List FA) (w:World) (hw:WstE g w) (h:MsIn g w q d L)
  (H:∀ v,Stay g w v → WstE g v → ∀ a ∈ L,FaIn v a → Off g a.q a.d.length → Calls Tryz.prog K (#[faV a] ++ caps) v fun e w' => Made (fun w x => VaIn 0 w x) (fun x => .agg (vaCells x).toArray) g (R a) (F a) v e w') :
  Calls Tryz.prog 238 #[.slice q L.length d,.func (.func K) #[] caps] w fun e w' => ∃ b xs,e = .returned (.slice (some ⟨b,0,none⟩) xs.length xs.length) ∧ Hid (Rl noVaA R L xs ∧ (∀ x ∈ xs,VaIn 0 w' x) ∧ Mrow 52 vaCells w' b xs ∧ w.heap.size ≤ b ∧ RE g (fAll (L.map F)) w w'):=by
 obtain ⟨i1,hi1,y1,z1,b1⟩:=info_parts Tryz.infoEValue
 have hk:∀ (args:Array Value) (v:World),(callFunc K args).run Tryz.prog v = .ok (.enter K args) v:=hK
 have A1:=hide h
 have HH:=hide H
 obtain ⟨s1,_,_⟩:=h.small
 have HW:=hide hw
 have gl:=hw.lt
 clear h H hK hw
 go_enter Tryz.func238,Tryz.ntmps238
 go_wp2_with (at_make; (refine wpList_make_full _ rfl _ _ 27 rfl w.heap.size 52 i1 _ 3 Tryz.underlying27 hi1 y1 z1 _ _ _ _ L.length rfl rfl (by omega) (by omega) (by rw [b1]; omega) (by unfold maxLen; omega) (Nat.le_refl _) ?_; intro w0 hown hgrow; have HM:=hide (Mrow.made vaWd noVaA rfl hown); have HB:=hide ((Below.refl w.heap.size w).grown hgrow (Nat.le_refl _) (fun k hk => by cases hk)); clear hown hgrow))
 go_loopw [13] (fun iv wr => ∃ n:Nat,∃ ys:List VaA,iv = .int .i64 n ∧ n ≤ L.length ∧ Hid (ys.length = n ∧ (∀ i,i < n → R (L.getD i noFA) (ys.getD i noVaA)) ∧ (∀ x ∈ ys,VaIn 0 wr x) ∧ Mrow 52 vaCells wr w.heap.size (ys ++ List.replicate (L.length - n) noVaA) ∧ RE g (fAll ((L.take n).map F)) w wr)) (fun iv _ => L.length - (intOf iv).toNat)
 case atStart => exact ⟨0,[],rfl,by omega,hide ⟨rfl,(fun i hi => by omega),(fun x hx => by cases hx),(by rw [List.nil_append]; exact uh HM),RE.below (uh HB) (uh HW)⟩⟩
 case round =>
  obtain ⟨n,ys,rfl,hn,HI⟩:=hrel
  obtain ⟨p1,p2,p3,p4,p5⟩:=uh HI
  have P2:=hide p2
  have P3:=hide p3
  have P4:=hide p4
  have P5:=hide p5
  have hsz:=lt_of_block p4
  clear HI p2 p3 p4 p5
  by_cases hlt:n < L.length
  ·have hi:(n:Int) < (L.length:Int):=by omega
   have MA:=hide ((uh A1).stay (uh P5).1)
   obtain ⟨b,o,rfl,hb,k0,k1,k2,k3⟩:=(uh MA).1.1.at hlt
   have hmem:=getD_memF hlt
   have HX:=hide (fun o => uh HH (wr.alloc o) ((uh P5).1.trans (Stay.below (al1p wr o) (by omega))) (((uh P5).wst (uh HW)).below (al1p wr o)) (L.getD n noFA) hmem (((uh MA).1.2 _ hmem).below (al1p wr o)) ((uh MA).2.2.1 _ hmem))
   have HT:=hide (map_take7 F noFA L n hlt)
   have P2':=hide (fun (x:VaA) (hx:R (L.getD n noFA) x) (i:Nat) (hi:i < n + 1) => ((if e:i = n then (by rw [getD_app,p1,if_pos e,e]; exact hx) else (by rw [getD_app,p1,if_neg e]; exact uh P2 i (by omega))):R (L.getD i noFA) ((ys ++ [x]).getD i noVaA)))
   generalize F (L.getD n noFA) = FX at HX HT
   generalize L.getD n noFA = a at k0 k1 k2 k3 HX P2'
   obtain ⟨an,awr,ax,ad,aq,ac⟩:=a
   unfold faV at HX
   simp only at k0 k1 k2 k3 HX
   clear hmem
   go_wp2_with fail
   refine (uh HX _).mono ?_
   rintro e w1 ⟨x,rfl,hq⟩
   obtain ⟨g1,g2,g3⟩:=uh hq
   have G1:=hide (uh P2' x g1)
   obtain ⟨m,hm⟩:∃ m,L.length - n = m + 1:=⟨L.length - n - 1,by omega⟩
   rw [hm] at P4
   have hne:¬ w.heap.size = g:=by omega
   have M1:=hide (((uh P4).below (al1p wr _)).stay g3.1 hne)
   have hl:(ys ++ List.replicate (m + 1) noVaA).length = L.length:=by rw [List.length_append,p1,List.length_replicate]; omega
   have HZ:Hid ((ys ++ List.replicate (m + 1) noVaA).getD n noVaA = noVaA):=hide (by rw [← p1]; exact getD_rep ys m noVaA)
   have s1':w.heap.size < w1.heap.size:=lt_of_block (uh M1)
   have c0:w1.cell? ⟨w.heap.size,n * 3,none⟩ = some (.string { data:=#[] }):=by
    have:=Mrow.at vaWd (z:=noVaA) (uh M1) (i:=n) (j:=0) (u:=.string { data:=#[] }) (by omega) (by rw [uh HZ]; rfl)
    exact this
   have c1:w1.cell? ⟨w.heap.size,n * 3 + 1,none⟩ = some (.int .i64 0):=by
    have:=Mrow.at vaWd (z:=noVaA) (uh M1) (i:=n) (j:=1) (u:=.int .i64 0) (by omega) (by rw [uh HZ]; rfl)
    exact this
   have c2:w1.cell? ⟨w.heap.size,n * 3 + 2,none⟩ = some (.slice none 0 0):=by
    have:=Mrow.at vaWd (z:=noVaA) (uh M1) (i:=n) (j:=2) (u:=.slice none 0 0) (by omega) (by rw [uh HZ]; rfl)
    exact this
   have f1:=(uh M1).frozen
   have M2:=hide (Mrow.set vaWd (uh M1) x (i:=n) (by omega))
   have e1:(ys ++ List.replicate (m + 1) noVaA).set n x = (ys ++ [x]) ++ List.replicate m noVaA:=by rw [← p1]; exact set_mid ys m noVaA x
   rw [e1] at M2
   have R1:=hide ((((uh P5).trans (RE.below (al1p wr _) ((uh P5).wst (uh HW)))).trans g3).setMany (Nat.le_refl _) gl (vaCells x) (n * 3))
   rw [f3_no] at R1
   have X1:Hid (∀ y ∈ ys ++ [x],VaIn 0 (setMany w1 w.heap.size (n * 3) (vaCells x)) y):=hide (fun y hy => by
    have kk:Kept [3] 0 w1 (setMany w1 w.heap.size (n * 3) (vaCells x)):=Kept.setMany (uh M1) (by decide) (by omega) _
    rcases List.mem_append.1 hy with hy | hy
    ·exact (uh P3 y hy).kept (by simp) (((Kept.below (TS:=[3]) (B:=0) (al1p wr _)).trans (g3.1.keptT (Nat.zero_le _) (((uh P5).wst (uh HW)).below (al1p wr _)) (by decide))).trans kk)
    ·simp at hy; subst hy
     exact g2.kept (by simp) (kk))
   have RF:Hid (fAll ((L.take (n + 1)).map F) = f3 (fAll ((L.take n).map F)) FX):=hide (by rw [uh HT,fAll_append]; simp [fAll,no_f3])
   rw [← uh RF] at R1
   have hyl:(ys ++ [x]).length = n + 1:=by rw [List.length_append,p1]; rfl
   clear hq g1 g2 g3 e1 HT HX P2' P2 P3 P4 P5 RF hl M1 HZ
   try simp only [Nat.mul_one] at M2 R1 X1
   unfold vaCells strV at M2 R1 X1 ⊢
   go_wp2_with fail
   go_roundw
   case rel => exact ⟨n + 1,ys ++ [x],by go_num,by omega,hide ⟨hyl,uh G1,uh X1,by rw [show L.length - (n + 1) = m by omega]; exact uh M2,uh R1⟩⟩
   case measure => simp [intOf]; omega
  ·have hi:¬ (n:Int) < (L.length:Int):=by omega
   have en:n = L.length:=by omega
   subst en
   rw [Nat.sub_self,List.replicate_zero,List.append_nil] at P4
   rw [List.take_of_length_le (Nat.le_refl _)] at P5
   have HE:=hide p1
   clear p1
   go_wp2_with fail
   go_ret
   exact ⟨w.heap.size,ys,by rw [uh HE]; rfl,hide ⟨⟨uh HE,uh P2⟩,uh P3,uh P4,Nat.le_refl _,uh P5⟩⟩
theorem crow1Value_any (g gm gb:Nat) (q0:Option Addr) (n0 d0:Nat) (K:FuncId) (hK:Ent K) (caps:Array Value) (R:VaA → Prop) (F:F3) (a:FA) (w:World) (hw:WstE g w) (hm:Box w gm #[.slice q0 n0 d0,.pointer (some ⟨g,0,none⟩)] 58) (hb:Box w gb #[.func (.func K) #[] caps] 189) (ha:FaIn w a) (ho:Off g a.q a.d.length)
  (H:∀ v,Stay g w v → WstE g v → Ints .u8 v a.q a.c a.d → Calls Tryz.prog K (#[.slice a.q a.d.length a.c] ++ caps) v fun e w' => Made (fun w x => VaIn 0 w x) (fun x => .agg (vaCells x).toArray) g R F v e w') :
  Calls Tryz.prog 239 #[faV a,.pointer (some ⟨gm,0,none⟩),.pointer (some ⟨gb,0,none⟩)] w fun e w' => Made (fun w x => VaIn 0 w x) (fun x => .agg (vaCells x).toArray) g R (f3 (bad3 (a.wr != 2)) F) w e w':=by
 have hk:∀ (args:Array Value) (v:World),(callFunc K args).run Tryz.prog v = .ok (.enter K args) v:=hK
 have HH:=hide H
 have HW:=hide hw
 have gl:=hw.lt
 have ngm:=wst_ne hw hm (by decide)
 have ngb:=wst_ne hw hb (by decide)
 have BM:=hide hm
 have BF:=hide hb
 have HA:=hide ha
 have HO:=hide ho
 have C1:=hide (fun v (hv:WstE g v) => cnote_bad g q0 n0 d0 (a.wr != 2) v hv)
 clear hK H hm hb ha ho hw
 obtain ⟨an,awr,ax,ad,aq,ac⟩:=a
 simp only at HH HA HO C1 ⊢
 obtain ⟨DD,hD⟩:∃ DD,(awr != 2) = DD:=⟨_,rfl⟩
 rw [hD] at C1 ⊢
 unfold faV
 unfold msV at C1
 simp only
 have Y0:Hid (Box ((w.alloc (Obj.cells #[.int .i64 an,.int .i64 awr,.int .u64 ax,.slice aq ad.length ac] 148)).alloc (Obj.cells #[.string { data:=#[] },.int .i64 0,.slice none 0 0] 52)) (w.heap.size + 1) #[.string { data:=#[] },.int .i64 0,.slice none 0 0] 52):=hide (by have h:=Box.new (w.alloc (Obj.cells #[.int .i64 an,.int .i64 awr,.int .u64 ax,.slice aq ad.length ac] 148)) #[.string { data:=#[] },.int .i64 0,.slice none 0 0] 52; rw [alloc_size6] at h; exact h)
 have x1:=((uh BM).below (show Below w.heap.size w ((w.alloc (Obj.cells #[.int .i64 an,.int .i64 awr,.int .u64 ax,.slice aq ad.length ac] 148)).alloc (Obj.cells #[.string { data:=#[] },.int .i64 0,.slice none 0 0] 52)) from (al2p _ _ _))).cell
 go_enter Tryz.func239,Tryz.ntmps239
 go_wp2_with fail
 try rw [hD]
 refine (uh C1 _ ((uh HW).below (al2p _ _ _))).mono ?_
 rintro e w2 ⟨rfl,hr⟩
 have r2:=(RE.below (show Below w.heap.size w ((w.alloc (Obj.cells #[.int .i64 an,.int .i64 awr,.int .u64 ax,.slice aq ad.length ac] 148)).alloc (Obj.cells #[.string { data:=#[] },.int .i64 0,.slice none 0 0] 52)) from (al2p _ _ _)) (uh HW)).trans hr
 rw [no_f3] at r2
 have R2':=hide r2
 have x2:=(hr.1.box ((uh BF).below (show Below w.heap.size w ((w.alloc (Obj.cells #[.int .i64 an,.int .i64 awr,.int .u64 ax,.slice aq ad.length ac] 148)).alloc (Obj.cells #[.string { data:=#[] },.int .i64 0,.slice none 0 0] 52)) from (al2p _ _ _))) ngb).cell
 have x3:=(hr.1.box ((Box.new w #[.int .i64 an,.int .i64 awr,.int .u64 ax,.slice aq ad.length ac] 148).alloc (Obj.cells #[.string { data:=#[] },.int .i64 0,.slice none 0 0] 52)) (by omega)).cell
 have Y1:=hide (hr.1.box (uh Y0) (by omega))
 have HI:=hide (((uh HA).below (show Below w.heap.size w ((w.alloc (Obj.cells #[.int .i64 an,.int .i64 awr,.int .u64 ax,.slice aq ad.length ac] 148)).alloc (Obj.cells #[.string { data:=#[] },.int .i64 0,.slice none 0 0] 52)) from (al2p _ _ _))).stay (uh HO) hr.1)
 clear hr r2 x1
 go_wp2_with fail
 refine (uh HH _ (uh R2').1 ((uh R2').wst (uh HW)) (uh HI).2.2.2).mono ?_
 rintro e w3 ⟨x,rfl,hq⟩
 obtain ⟨g1,g2,hr2⟩:=uh hq
 have Y2:=hide (hr2.1.box (uh Y1) (by omega))
 have y2:=(uh Y2).cell
 have z2:=(uh Y2).frozen
 have kk:Kept [3] 0 w3 (setMany w3 (w.heap.size + 1) 0 (vaCells x)):=Kept.setMany (uh Y2) (by decide) (by omega) _
 have G2:Hid (VaIn 0 (setMany w3 (w.heap.size + 1) 0 (vaCells x)) x):=hide (g2.kept (by simp) (kk))
 have R4:=hide (((uh R2').trans hr2).setMany (show w.heap.size ≤ w.heap.size + 1 by omega) gl (vaCells x) 0)
 have Y3:=hide ((uh Y2).set3 (.string (strOfNums x.nm)) (.int .i64 x.ty) (.slice x.q x.ds.length x.c))
 have G1:=hide g1
 clear hq g1 g2 hr2 kk
 unfold vaCells strV at G2 R4 ⊢
 go_wp2_with fail
 refine bodyPost_ret ?_ rfl ⟨x,rfl,hide ⟨uh G1,uh G2,uh R4⟩⟩
 simp [results,Tryz.results239,go_sem,(uh Y3).cell,vaCells,strV]
theorem crowsValue_any (g:Nat) (q:Option Addr) (d:Nat) (L:List FA) (num:Int) (K:FuncId) (hK:Ent K) (caps:Array Value) (R:List Int → VaA → Prop) (F:List Int → F3) (w:World) (hw:WstE g w) (h:MsIn g w q d L)
  (H:∀ v,Stay g w v → WstE g v → ∀ p c b,Ints .u8 v p c b → Off g p b.length → b.length ≤ 4194304 → Calls Tryz.prog K (#[.slice p b.length c] ++ caps) v fun e w' => Made (fun w x => VaIn 0 w x) (fun x => .agg (vaCells x).toArray) g (R b) (F b) v e w') :
  Calls Tryz.prog 186 #[msV q L.length d g,.int .i64 num,.func (.func K) #[] caps] w fun e w' => ∃ b xs,e = .returned (.slice (some ⟨b,0,none⟩) xs.length xs.length) ∧ Hid (Rb noVaA R (dsV (L.map FA.f) num) xs ∧ (∀ x ∈ xs,VaIn 0 w' x) ∧ Mrow 52 vaCells w' b xs ∧ w.heap.size ≤ b ∧ RE g (f3 (bad3 ((allV (L.map FA.f) num).any fun f => f.2.1 != 2)) (fAll ((dsV (L.map FA.f) num).map F))) w w'):=by
 obtain ⟨s1,s2,s3⟩:=h.small
 have C1:=hide (fun v (hv:Below w.heap.size w v) => call_any q d L num v (h.1.below hv) (by omega) (fun a ha => by have:=s3 a ha; omega))
 have HS:=hide (fun LA => all_sum (L:=L) (num:=num) (LA:=LA) h.2.2.2)
 have HK:=hide hK
 have HH:=hide H
 have HW:=hide hw
 have gl:=hw.lt
 clear hw h s3 hK H
 unfold msV
 go_enter Tryz.func186,Tryz.ntmps186
 go_wp2_with fail
 refine (uh C1 _ (al2p _ _ _)).mono ?_
 rintro e w1 ⟨v1,LA,rfl,hL,hO⟩
 obtain ⟨q1,d1,rfl,hm⟩:=ownL_ms (g:=g) (uh hO) (by simp; omega) (uh HS LA (uh hL))
 have B1:=hide (bl_tr (al2p w (Obj.cells #[.slice q L.length d,.pointer (some ⟨g,0,none⟩)] 58) (Obj.cells #[.func (.func K) #[] caps] 189)) (uh hO).1.2)
 have X1:=hide (Box.below (Box.alloc (Box.new w #[.slice q L.length d,.pointer (some ⟨g,0,none⟩)] 58) (Obj.cells #[.func (.func K) #[] caps] 189)) (uh hO).1.2)
 have Y1:Hid (Box w1 (w.heap.size + 1) #[.func (.func K) #[] caps] 189):=hide (by have h:=Box.below (Box.new (w.alloc (Obj.cells #[.slice q L.length d,.pointer (some ⟨g,0,none⟩)] 58)) #[.func (.func K) #[] caps] 189) (uh hO).1.2; rw [alloc_size6] at h; exact h)
 have W1:=hide ((uh HW).below (uh B1))
 have C2:=hide (cchValue_any g 239 (ent_of Tryz.func239 (by kernel_rfl) rfl) #[.pointer (some ⟨w.heap.size,0,none⟩),.pointer (some ⟨w.heap.size + 1,0,none⟩)] (fun a x => R a.d x) (fun a => f3 (bad3 (a.wr != 2)) (F a.d)) q1 d1 LA w1 (uh W1) hm (fun v sv wv a ha fa fo => crow1Value_any g w.heap.size (w.heap.size + 1) q L.length d K (uh HK) caps (R a.d) (F a.d) a v wv (sv.box (uh X1) (by omega)) (sv.box (uh Y1) (by omega)) fa fo (fun u su wu hu => uh HH u ((Stay.below (uh B1) (by omega)).trans (sv.trans su)) wu a.q a.c a.d hu fo (by have:=sumD_mem ha; have:=uh HS LA (uh hL); omega))))
 have HL:=hL
 clear hO hm C1 hL
 go_wp2_with fail
 refine (uh C2).mono ?_
 rintro e w2 ⟨b,xs,rfl,hq⟩
 obtain ⟨g1,g2,g3,g4,g5⟩:=uh hq
 have G:=hide (rows_end (uh HL) g1)
 have GX:=hide g2
 have GM:=hide g3
 have R2:=hide (((RE.below (uh B1) (uh HW)).trans g5).eq (rows_lev (uh HL) F))
 have hb:w.heap.size ≤ b:=Nat.le_trans (uh B1).size g4
 clear hq g1 g2 g3 g5 C2
 go_wp2_with fail
 go_ret
 exact ⟨b,xs,rfl,hide ⟨uh G,uh GX,uh GM,hb,uh R2⟩⟩
theorem cmsg1Value_any (g gm gb:Nat) (q0:Option Addr) (n0 d0:Nat) (R:VaA → Prop) (F:F3) (p:Option Addr) (c:Nat) (b:List Int) (w:World) (hw:WstE g w) (hm:Box w gm #[.slice q0 n0 d0,.pointer (some ⟨g,0,none⟩)] 58) (hb:Box w gb #[.func (.func 123) #[] #[]] 177) (hp:Ints .u8 w p c b) (ho:Off g p b.length) (hl:b.length ≤ 4194304)
  (H:∀ v,Stay g w v → WstE g v → ∀ q d L,MsIn g v q d L → L.map FA.f = (fieldsP b).1 → Calls Tryz.prog 123 #[msV q L.length d g] v fun e w' => Made (fun w x => VaIn 0 w x) (fun x => .agg (vaCells x).toArray) g R F v e w') :
  Calls Tryz.prog 187 #[.slice p b.length c,.pointer (some ⟨gb,0,none⟩),.pointer (some ⟨gm,0,none⟩)] w fun e w' => Made (fun w x => VaIn 0 w x) (fun x => .agg (vaCells x).toArray) g R (f3 (fieldsP b).2 F) w e w':=by
 have HH:=hide H
 have HW:=hide hw
 have gl:=hw.lt
 have ngm:=wst_ne hw hm (by decide)
 have ngb:=wst_ne hw hb (by decide)
 have BM:=hide hm
 have BF:=hide hb
 have HP:=hide hp
 have C1:=hide (fun v (hv:WstE g v) (hi:Ints .u8 v p c b) => copened_any g q0 n0 d0 p c b v hv hi hl)
 obtain ⟨FF,hFF⟩:∃ F,fieldsP b = F:=⟨_,rfl⟩
 rw [hFF] at C1 HH ⊢
 clear H hm hb hp hw ho hFF
 unfold msV at C1 HH
 unfold Made at HH
 simp only at HH
 unfold vaCells strV at HH
 have Y0:=hide (Box.new w #[.string { data:=#[] },.int .i64 0,.slice none 0 0] 52)
 have hneb:gb ≠ w.heap.size:=by have:=(uh BF).lt; omega
 have hnem:gm ≠ w.heap.size:=by have:=(uh BM).lt; omega
 have x1:=((uh BF).alloc (Obj.cells #[.string { data:=#[] },.int .i64 0,.slice none 0 0] 52)).cell
 have x2:=((uh BM).alloc (Obj.cells #[.string { data:=#[] },.int .i64 0,.slice none 0 0] 52)).cell
 have x1d:=(((uh BF).alloc (Obj.cells #[.string { data:=#[] },.int .i64 0,.slice none 0 0] 52)).below (bdrewp _)).cell
 have x2d:=(((uh BM).alloc (Obj.cells #[.string { data:=#[] },.int .i64 0,.slice none 0 0] 52)).below (bdrewp _)).cell
 go_enter Tryz.func187,Tryz.ntmps187
 go_wp2_with fail
 go_region_held3 (fun v => (∀ j,v.cell? ⟨gb,j,none⟩ = (#[.func (.func 123) #[] #[]]:Array Value)[j]?) ∧ (∀ j,v.cell? ⟨gm,j,none⟩ = (#[.slice q0 n0 d0,.pointer (some ⟨g,0,none⟩)]:Array Value)[j]?)) (refine ⟨?_,?_⟩ <;> with_reducible assumption)
  (first
   | (go_at_call 123; (refine (uh HH _ (uh R1').1 ((uh R1').wst (uh HW)) _ _ _ (uh HM) (uh HL)).mono ?_; rintro e w3 ⟨x,rfl,hq⟩; obtain ⟨g1,g2,hr2⟩:=uh hq; have G1:=hide g1; have GI:=hide g2; have R3':=hide ((uh R1').trans hr2); have Y2:=hide (hr2.1.box (uh Y1) (by omega)); have y2:=(uh Y2).cell; have z2:=(uh Y2).frozen; have q3:=(hr2.1.box (uh BF1) ngb).cell; have q4:=(hr2.1.box (uh BM1) ngm).cell; have q5:=(Box.off3 (hr2.1.box (uh BF1) ngb) hneb (.string (strOfNums x.nm)) (.int .i64 x.ty) (.slice x.q x.ds.length x.c)).cell; have q6:=(Box.off3 (hr2.1.box (uh BM1) ngm) hnem (.string (strOfNums x.nm)) (.int .i64 x.ty) (.slice x.q x.ds.length x.c)).cell; clear hq g1 g2 hr2))
   | (go_at_call 27; (refine (uh C1 _ ((uh HW).below (bl_tr (al1p w (Obj.cells #[.string { data:=#[] },.int .i64 0,.slice none 0 0] 52)) (bdrewp _))) ((uh HP).below (bl_tr (al1p w (Obj.cells #[.string { data:=#[] },.int .i64 0,.slice none 0 0] 52)) (bdrewp _)))).mono ?_; rintro e w1 ⟨q1,d1,L1,rfl,hq⟩; obtain ⟨h1,h2,hr,h4⟩:=uh hq; have HL:=hide h1; have HM:=hide h2; have R1':=hide (((RE.below (bl_tr (al1p w (Obj.cells #[.string { data:=#[] },.int .i64 0,.slice none 0 0] 52)) (bdrewp _)) (uh HW)).trans hr).eq (by rw [no_f3])); have BF1:=hide (hr.1.box ((uh BF).below (bl_tr (al1p w (Obj.cells #[.string { data:=#[] },.int .i64 0,.slice none 0 0] 52)) (bdrewp _))) ngb); have BM1:=hide (hr.1.box ((uh BM).below (bl_tr (al1p w (Obj.cells #[.string { data:=#[] },.int .i64 0,.slice none 0 0] 52)) (bdrewp _))) ngm); have q1':=(uh BF1).cell; have q2':=(uh BM1).cell; have Y1:=hide (hr.1.box ((uh Y0).below (bdrewp _)) (by omega)); have y1:=(uh Y1).cell; have z1:=(uh Y1).frozen; clear hq h1 h2 hr h4)))
 go_wp2_with fail
 have kk:Kept [3] 0 w3 (setMany w3 w.heap.size 0 (vaCells x)):=Kept.setMany (uh Y2) (by decide) (by omega) _
 have G2:Hid (VaIn 0 (setMany w3 w.heap.size 0 (vaCells x)) x):=hide ((uh GI).kept (by simp) (kk))
 have R4:=hide (((uh R3').setMany (Nat.le_refl w.heap.size) gl (vaCells x) 0))
 have Y3:=hide ((uh Y2).set3 (.string (strOfNums x.nm)) (.int .i64 x.ty) (.slice x.q x.ds.length x.c))
 unfold vaCells strV at G2 R4
 refine bodyPost_ret ?_ rfl ⟨x,rfl,hide ⟨uh G1,uh G2,uh R4⟩⟩
 simp [results,Tryz.results187,go_sem,(uh Y3).cell,vaCells,strV]
theorem cmsgsValue_any (g:Nat) (q:Option Addr) (d:Nat) (L:List FA) (num:Int) (R:List Int → VaA → Prop) (F:List Int → F3) (w:World) (hw:WstE g w) (h:MsIn g w q d L)
  (H:∀ v,Stay g w v → WstE g v → ∀ b q d L,MsIn g v q d L → L.map FA.f = (fieldsP b).1 → Calls Tryz.prog 123 #[msV q L.length d g] v fun e w' => Made (fun w x => VaIn 0 w x) (fun x => .agg (vaCells x).toArray) g (R b) (F b) v e w') :
  Calls Tryz.prog 122 #[msV q L.length d g,.int .i64 num,.func (.func 123) #[] #[]] w fun e w' => ∃ b xs,e = .returned (.slice (some ⟨b,0,none⟩) xs.length xs.length) ∧ Hid (Rb noVaA R (dsV (L.map FA.f) num) xs ∧ (∀ x ∈ xs,VaIn 0 w' x) ∧ Mrow 52 vaCells w' b xs ∧ w.heap.size ≤ b ∧ RE g (f3 (bad3 ((allV (L.map FA.f) num).any fun f => f.2.1 != 2)) (fAll ((dsV (L.map FA.f) num).map fun b => f3 (fieldsP b).2 (F b)))) w w'):=by
 have HH:=hide H
 have HW:=hide hw
 have gl:=hw.lt
 have HM:=hide h
 have B0:=hide (al2p w (Obj.cells #[.slice q L.length d,.pointer (some ⟨g,0,none⟩)] 58) (Obj.cells #[.func (.func 123) #[] #[]] 177))
 have X1:=hide (Box.alloc (Box.new w #[.slice q L.length d,.pointer (some ⟨g,0,none⟩)] 58) (Obj.cells #[.func (.func 123) #[] #[]] 177))
 have Y1:Hid (Box ((w.alloc (Obj.cells #[.slice q L.length d,.pointer (some ⟨g,0,none⟩)] 58)).alloc (Obj.cells #[.func (.func 123) #[] #[]] 177)) (w.heap.size + 1) #[.func (.func 123) #[] #[]] 177):=hide (by have h:=Box.new (w.alloc (Obj.cells #[.slice q L.length d,.pointer (some ⟨g,0,none⟩)] 58)) #[.func (.func 123) #[] #[]] 177; rw [alloc_size6] at h; exact h)
 have C1:=hide (crowsValue_any g q d L num 187 (ent_of Tryz.func187 (by kernel_rfl) rfl) #[.pointer (some ⟨w.heap.size + 1,0,none⟩),.pointer (some ⟨w.heap.size,0,none⟩)] R (fun b => f3 (fieldsP b).2 (F b)) _ ((uh HW).below (uh B0)) ((uh HM).stay (Stay.below (uh B0) (by omega))) (fun v sv wv p c b hp ho hl => cmsg1Value_any g w.heap.size (w.heap.size + 1) q L.length d (R b) (F b) p c b v wv (sv.box (uh X1) (by omega)) (sv.box (uh Y1) (by omega)) hp ho hl (fun u su wu q' d' L' hm' hl' => uh HH u ((Stay.below (uh B0) (by omega)).trans (sv.trans su)) wu b q' d' L' hm' hl')))
 clear hw h H
 unfold msV at C1 ⊢
 go_enter Tryz.func122,Tryz.ntmps122
 go_wp2_with fail
 refine (uh C1).mono ?_
 rintro e w2 ⟨b,xs,rfl,hq⟩
 obtain ⟨g1,g2,g3,g4,g5⟩:=uh hq
 have G:=hide g1
 have GX:=hide g2
 have GM:=hide g3
 have R2:=hide (((RE.below (uh B0) (uh HW)).trans g5).eq (by rw [no_f3]))
 have hb:w.heap.size ≤ b:=Nat.le_trans (uh B0).size g4
 clear hq g1 g2 g3 g5 C1
 go_wp2_with fail
 go_ret
 exact ⟨b,xs,rfl,hide ⟨uh G,uh GX,uh GM,hb,uh R2⟩⟩
end Go.Proofs.YtmdlaahdgjegcaaGreat
