import Derived.Test.YtmdlaahdgjegcaaGreatV50
set_option maxRecDepth 100000
set_option maxHeartbeats 8000000
namespace Go.Proofs.YtmdlaahdgjegcaaGreat
open Go.RowKit
set_option linter.unusedVariables false
set_option linter.unusedSimpArgs false
def MoCt (a:MoA):Prop:=(a.nodes.length ≤ 1024 ∧ ∀ x ∈ a.nodes,NoCt x) ∧ a.inits.length ≤ 1024 ∧ (a.inp.length ≤ 64 ∧ ∀ x ∈ a.inp,x.ds.length ≤ 1000) ∧ a.out.length ≤ 64 ∧ ∀ x ∈ a.out,x.ds.length ≤ 1000
theorem muchNo_ct {a:NoA} (hm:muchNo a.d = false):NoCt a:=by
 unfold muchNo NoA.d at hm
 simp only [Bool.or_eq_false_iff,List.length_map,decide_eq_false_iff_not] at hm
 obtain ⟨_,_,m3,_,m5,_,m7,_⟩:=hm
 exact ⟨by omega,by omega,by omega⟩
theorem muchV_ct {a:VaA} (h:mayV a.d = true) (hm:muchV a.d = false):a.ds.length ≤ 1000:=by
 unfold muchV VaA.d at hm
 unfold mayV VaA.d at h
 simp only [Bool.or_eq_false_iff] at hm
 simp only [Bool.and_eq_true,bne_iff_ne] at h
 have hd:=hm.2
 unfold muchD at hd
 have hd2:(countV a.ds).2 ≠ 8:=by simpa using hd
 have h0:(countV a.ds).2 = 0:=by
  rcases count_cases a.ds with g | g | g
  ·exact g
  ·exact absurd g h.2
  ·exact absurd g hd2
 have:=count_dims h0
 omega
theorem check_ct {a:MoA} (h:checkM a.d = 0):MoCt a:=by
 rw [← check_code] at h
 have h1:mayM a.d = true:=by
  cases hm:mayM a.d
  ·rw [hm] at h; cases h
  ·rfl
 rw [h1] at h
 have h2:muchM a.d = false:=by
  cases hm:muchM a.d
  ·rfl
  ·rw [hm] at h; cases h
 unfold mayM MoA.d at h1
 unfold muchM MoA.d at h2
 simp only [Bool.and_eq_true,List.all_eq_true,List.mem_map,forall_exists_index,and_imp,forall_apply_eq_imp_iff₂] at h1
 simp only [Bool.or_eq_false_iff,List.length_map,decide_eq_false_iff_not] at h2
 obtain ⟨_,_,_,a3,a4⟩:=h1
 obtain ⟨_,c1,b1,c2,_,c3,b3,c4,b4⟩:=h2
 exact ⟨⟨by omega,fun x hx => muchNo_ct (any_no b1 _ (List.mem_map.2 ⟨x,hx,rfl⟩))⟩,by omega,⟨by omega,fun x hx => muchV_ct (a3 x hx) (any_no b3 _ (List.mem_map.2 ⟨x,hx,rfl⟩))⟩,by omega,fun x hx => muchV_ct (a4 x hx) (any_no b4 _ (List.mem_map.2 ⟨x,hx,rfl⟩))⟩
theorem val_len (a:VaA) (hn:a.nm.length ≤ 100000) (hd:a.ds.length ≤ 1000):(msgB (valF a.d)).length ≤ 200000:=by
 have e:msgB (valF a.d) = msgB (wordF 1 a.nm) ++ fieldB (blkF 2 (fieldB (blkF 1 (fieldB (numF 1 (u64w a.ty)) ++ fieldB (blkF 2 (msgB (shapeF a.ds))))))):=by
  unfold valF VaA.d; simp only; rw [msg_app,msg_one,msg_one]; simp [msgB]
 rw [e,List.length_append]
 have a1:=word_len 1 a.nm
 have a2:=shape_len a.ds
 have a3:=fblk_len 2 (msgB (shapeF a.ds))
 have a4:=fnum_len 1 (u64w a.ty)
 have a5:=fblk_len 1 (fieldB (numF 1 (u64w a.ty)) ++ fieldB (blkF 2 (msgB (shapeF a.ds))))
 rw [List.length_append] at a5
 have a6:=fblk_len 2 (fieldB (blkF 1 (fieldB (numF 1 (u64w a.ty)) ++ fieldB (blkF 2 (msgB (shapeF a.ds))))))
 omega
def nodB (x:NoA):List Int:=msgB (nodeF x.d)
def iniB (x:InA):List Int:=msgB (tensF x.nm x.T)
def valB (x:VaA):List Int:=msgB (valF x.d)
theorem graphB_eq (a:MoA):msgB (graphF a.d) = (((rowB 1 nodB a.nodes ++ msgB (wordF 2 a.nm)) ++ rowB 5 iniB a.inits) ++ rowB 11 valB a.inp) ++ rowB 12 valB a.out:=by
 unfold graphF MoA.d rowB
 simp only
 rw [msg_app,msg_app,msg_app,msg_app,List.map_map,List.map_map,List.map_map,List.map_map]
 rfl
theorem modelB_eq (a:MoA):msgB (modelF a.d) = (fieldB (numF 1 8) ++ fieldB (blkF 7 (msgB (graphF a.d)))) ++ fieldB (blkF 8 (fieldB (numF 2 17))):=by
 unfold modelF
 simp [msgB]
theorem row3v {v:World} {b o c:Nat} {l:List VaA} {n:Nat} (h:Rc 3 vaCells noVaA v (some ⟨b,o,none⟩) c l) (hn:n < l.length):∀ j u,(vaCells (l.getD n noVaA))[j]? = some u → v.cell? ⟨b,o + n * 3 + j,none⟩ = some u:=by
 obtain ⟨b',o',e,_,hc⟩:=h.lies (by omega)
 simp only [Option.some.injEq,Addr.mk.injEq] at e
 obtain ⟨rfl,rfl,_⟩:=e
 exact hc n hn
theorem rencode_any (a:MoA) {B:Nat} (w:World) (h:MoIn B w a) (hs:MoLt a) (hB:B ≤ w.heap.size) :
  Calls Tryz.prog 16 #[moV a] w fun e w' => ∃ v,e = .returned (.tuple #[v,.int .i64 (encodeV a.d).2]) ∧ OwnG 5 (Value.int .u8) w w' v (encodeV a.d).1:=by
 obtain ⟨i1,hi1,y1,z1,b1⟩:=info_parts Tryz.infoU8
 have CC:=hide (fun v (hv:Below w.heap.size w v) => rcheck7_any a v (h.below hv) (Nat.le_trans hB hv.size) hs)
 have HR:Hid (encodeV a.d = if checkM a.d = 0 then (if 4194304 < (msgB (modelF a.d)).length then ([],8) else (msgB (modelF a.d),0)) else ([],checkM a.d)):=hide rfl
 by_cases hck:checkM a.d = 0
 rotate_left
 ·have HE:encodeV a.d = ([],checkM a.d):=by have:=uh HR; rw [if_neg hck] at this; exact this
  rw [HE]
  simp only
  have tck:(checkM a.d != 0) = true:=by simp [hck]
  clear HR HE hck hs h
  generalize checkM a.d = CK at CC tck ⊢
  obtain ⟨ops,nm,nodes,qn,cn,inits,qi,ci,inp,qp,cp,out,qo,co⟩:=a
  unfold moV moCells strV at CC ⊢
  simp only at CC ⊢
  go_enter Tryz.func16,Tryz.ntmps16
  go_wp2_with fail
  refine (uh CC _ (al1p _ _)).mono ?_
  rintro e w1 ⟨rfl,hv⟩
  have B1:=hide (bl_tr (al1p _ _) hv)
  clear hv CC
  go_wp2_with fail
  go_ret2
  exact ⟨_,rfl,OwnG.nil _ _ _ (uh B1)⟩
 ·have hm:=check_small hck
  have hct:=check_ct hck
  have HE:Hid (encodeV a.d = if 4194304 < (msgB (modelF a.d)).length then ([],8) else (msgB (modelF a.d),0)):=hide (by have:=uh HR; rw [if_pos hck] at this; exact this)
  rw [hck] at CC
  clear HR hck
  rw [modelB_eq,graphB_eq] at HE
  obtain ⟨ER,hER⟩:∃ E,encodeV a.d = E:=⟨_,rfl⟩
  rw [hER] at HE ⊢
  clear hER
  have HA:=hide (fun v (hv:Below w.heap.size w v) => h.below hv)
  have hb2:isB a.nm:=h.2.1
  have n1:=h.2.2.1.2.1.len
  have n2:=h.2.2.2.1.2.1.len
  have n3:=h.2.2.2.2.1.2.1.len
  have n4:=h.2.2.2.2.2.2.1.len
  clear h hs
  obtain ⟨ops,nm,nodes,qn,cn,inits,qi,ci,inp,qp,cp,out,qo,co⟩:=a
  obtain ⟨m1,m2,m3,m4,m5⟩:=hm
  obtain ⟨⟨k1,k2⟩,k3,⟨k4,k5⟩,k6,k7⟩:=hct
  simp only at m1 m2 m3 m4 m5 k1 k2 k3 k4 k5 k6 k7 n1 n2 n3 n4 HE hb2
  have LL0:Hid (∀ x ∈ nodes,(nodB x).length ≤ 13000000000):=hide (fun x hx => node_len x (m2 x hx) (k2 x hx))
  have LL1:Hid (∀ x ∈ inits,(iniB x).length ≤ 160000000):=hide (fun x hx => tensn_len x.nm x.T (m3 x hx).1 (m3 x hx).2)
  have LL2:Hid (∀ x ∈ inp,(valB x).length ≤ 200000):=hide (fun x hx => val_len x (m4 x hx) (k5 x hx))
  have LL3:Hid (∀ x ∈ out,(valB x).length ≤ 200000):=hide (fun x hx => val_len x (m5 x hx) (k7 x hx))
  have T0:=hide (rowB_take 1 nodB 13000000000 nodes (uh LL0))
  have T1:=hide (rowB_take 5 iniB 160000000 inits (uh LL1))
  have T2:=hide (rowB_take 11 valB 200000 inp (uh LL2))
  have T3:=hide (rowB_take 12 valB 200000 out (uh LL3))
  have r0:=rowB_len 1 nodB 13000000000 nodes (uh LL0)
  have r1:=rowB_len 5 iniB 160000000 inits (uh LL1)
  have r2:=rowB_len 11 valB 200000 inp (uh LL2)
  have r3:=rowB_len 12 valB 200000 out (uh LL3)
  have D0:Hid (∀ x ∈ nodes,∀ v,Below w.heap.size w v → Calls Tryz.prog 37 #[.agg (noCells x).toArray] v fun e w' => ∃ u,e = .returned u ∧ OwnG 5 (Value.int .u8) v w' u (nodB x)):=hide (fun x hx v hv => rnodeOf_any x v ((uh HA v hv).2.2.1.1 x hx) (m2 x hx) (k2 x hx))
  have D1:Hid (∀ x ∈ inits,∀ v,Below w.heap.size w v → Calls Tryz.prog 39 #[strV x.nm,tenV x.T x.A] v fun e w' => ∃ u,e = .returned u ∧ OwnG 5 (Value.int .u8) v w' u (iniB x)):=hide (fun x hx v hv => rtensorOf_any x.nm x.T x.A v ((uh HA v hv).2.2.2.1.1 x hx).1 ((uh HA v hv).2.2.2.1.1 x hx).2.1 (m3 x hx).1 (m3 x hx).2.1 (m3 x hx).2.2.1 (m3 x hx).2.2.2.1 (m3 x hx).2.2.2.2)
  have D2:Hid (∀ x ∈ inp,∀ v,Below w.heap.size w v → Calls Tryz.prog 40 #[.agg (vaCells x).toArray] v fun e w' => ∃ u,e = .returned u ∧ OwnG 5 (Value.int .u8) v w' u (valB x)):=hide (fun x hx v hv => rvalueOf_any x.nm x.ty x.ds x.q x.c v ((uh HA v hv).2.2.2.2.1.1 x hx).1 ((uh HA v hv).2.2.2.2.1.1 x hx).2.2.1 (m4 x hx) (k5 x hx))
  have D3:Hid (∀ x ∈ out,∀ v,Below w.heap.size w v → Calls Tryz.prog 40 #[.agg (vaCells x).toArray] v fun e w' => ∃ u,e = .returned u ∧ OwnG 5 (Value.int .u8) v w' u (valB x)):=hide (fun x hx v hv => rvalueOf_any x.nm x.ty x.ds x.q x.c v ((uh HA v hv).2.2.2.2.2.1 x hx).1 ((uh HA v hv).2.2.2.2.2.1 x hx).2.2.1 (m5 x hx) (k7 x hx))
  clear m2 m3 m4 m5 k2 k5 k7
  have HW:=hide (fun v => rword_any 2 nm v hb2 (by decide) (by decide) (by omega))
  have wl:=word_len 2 nm
  have HB1:=hide (fun p c b w hh hs => rblock_any 1 p c b w hh (by decide) (by decide) hs)
  have HB5:=hide (fun p c b w hh hs => rblock_any 5 p c b w hh (by decide) (by decide) hs)
  have HB7:=hide (fun p c b w hh hs => rblock_any 7 p c b w hh (by decide) (by decide) hs)
  have HB8:=hide (fun p c b w hh hs => rblock_any 8 p c b w hh (by decide) (by decide) hs)
  have HB11:=hide (fun p c b w hh hs => rblock_any 11 p c b w hh (by decide) (by decide) hs)
  have HB12:=hide (fun p c b w hh hs => rblock_any 12 p c b w hh (by decide) (by decide) hs)
  have HN1:=hide (fun v => rnumber_any 1 8 v (by decide) (by decide) (by decide) (by decide))
  have HN2:=hide (fun v => rnumber_any 2 17 v (by decide) (by decide) (by decide) (by decide))
  have s1:=fnum_len 1 8
  have s2:=fnum_len 2 17
  obtain ⟨R0,hR0⟩:∃ R,rowB 1 nodB nodes = R:=⟨_,rfl⟩
  obtain ⟨VW,hVW⟩:∃ R,msgB (wordF 2 nm) = R:=⟨_,rfl⟩
  rw [hVW] at wl HW HE
  rw [hR0] at r0 HE
  obtain ⟨R1,hR1⟩:∃ R,R0 ++ VW = R:=⟨_,rfl⟩
  have l1:R1.length = R0.length + VW.length:=by rw [← hR1,List.length_append]
  obtain ⟨R2,hR2⟩:∃ R,R1 ++ rowB 5 iniB inits = R:=⟨_,rfl⟩
  have l2:R2.length = R1.length + (rowB 5 iniB inits).length:=by rw [← hR2,List.length_append]
  obtain ⟨R3,hR3⟩:∃ R,R2 ++ rowB 11 valB inp = R:=⟨_,rfl⟩
  have l3:R3.length = R2.length + (rowB 11 valB inp).length:=by rw [← hR3,List.length_append]
  obtain ⟨R4,hR4⟩:∃ R,R3 ++ rowB 12 valB out = R:=⟨_,rfl⟩
  have l4:R4.length = R3.length + (rowB 12 valB out).length:=by rw [← hR4,List.length_append]
  rw [hR1,hR2,hR3,hR4] at HE
  have g0:R0.length ≤ 14000000000000:=by omega
  have g1:R1.length ≤ 14000000200000:=by omega
  have g2:R2.length ≤ 15000000000000:=by omega
  have g3:R3.length ≤ 15000100000000:=by omega
  have g4:R4.length ≤ 15000200000000:=by omega
  have bl7:=fblk_len 7 R4
  obtain ⟨N1,hN1⟩:∃ R,fieldB (numF 1 8) = R:=⟨_,rfl⟩
  obtain ⟨N2,hN2⟩:∃ R,fieldB (numF 2 17) = R:=⟨_,rfl⟩
  rw [hN1] at s1 HN1 HE
  rw [hN2] at s2 HN2 HE
  have bl8:=fblk_len 8 N2
  obtain ⟨B7,hB7⟩:∃ R,fieldB (blkF 7 R4) = R:=⟨_,rfl⟩
  obtain ⟨B8,hB8⟩:∃ R,fieldB (blkF 8 N2) = R:=⟨_,rfl⟩
  rw [hB7] at bl7 HE
  rw [hB8] at bl8 HE
  obtain ⟨R5,hR5⟩:∃ R,N1 ++ B7 = R:=⟨_,rfl⟩
  have l5:R5.length = N1.length + B7.length:=by rw [← hR5,List.length_append]
  obtain ⟨R6,hR6⟩:∃ R,R5 ++ B8 = R:=⟨_,rfl⟩
  have l6:R6.length = R5.length + B8.length:=by rw [← hR6,List.length_append]
  rw [hR5,hR6] at HE
  have g5:R5.length ≤ 15000300000000:=by omega
  have g6:R6.length ≤ 15000400000000:=by omega
  have g7:B7.length ≤ 15000200000100:=by omega
  have g8:N1.length ≤ 20:=by omega
  have g9:B8.length ≤ 40:=by omega
  have H0:=hide hR0
  have H1:=hide hR1
  have H2:=hide hR2
  have H3:=hide hR3
  have H4:=hide hR4
  have H5:=hide hR5
  have H6:=hide hR6
  have H7:=hide hB7
  have H8:=hide hB8
  clear hR0 hR1 hR2 hR3 hR4 hR5 hR6 hB7 hB8 hN1 hN2 hVW l1 l2 l3 l4 l5 l6 r0 r1 r2 r3 bl7 bl8 s1
  unfold moV moCells strV at CC ⊢
  unfold strV at HW
  simp only at CC ⊢
  go_enter Tryz.func16,Tryz.ntmps16
  go_wp2_with fail
  obtain ⟨W,hWe⟩:∃ W,(w.alloc (Obj.cells #[.int .i64 ops,.string (strOfNums nm),.slice qn nodes.length cn,.slice qi inits.length ci,.slice qp inp.length cp,.slice qo out.length co] 29)) = W:=⟨_,rfl⟩
  have BX:Hid (Box W w.heap.size #[.int .i64 ops,.string (strOfNums nm),.slice qn nodes.length cn,.slice qi inits.length ci,.slice qp inp.length cp,.slice qo out.length co] 29):=hide (by rw [← hWe]; exact Box.new w _ _)
  have BW:Hid (Below w.heap.size w W):=hide (by rw [← hWe]; exact al1p _ _)
  rw [hWe]
  clear hWe
  refine (uh CC _ (uh BW)).mono ?_
  rintro e w1 ⟨rfl,hv⟩
  have B1:=hide hv
  have x0:=((uh BX).below hv).cell
  clear hv CC
  go_wp2_with fail
  clear x0
  go_loopw [5,6] (fun v iv wr => ∃ n:Nat,iv = .int .i64 n ∧ n ≤ nodes.length ∧ Hid (OwnG 5 (Value.int .u8) W wr v (rowB 1 nodB (nodes.take n)))) (fun _ iv _ => nodes.length - (intOf iv).toNat)
  case atStart => exact ⟨0,rfl,by omega,hide (OwnG.nil _ _ _ (uh B1))⟩
  case round =>
   obtain ⟨n,rfl,hn,O⟩:=hrel
   have x1:=((uh BX).below (uh O).2).cell
   by_cases hlt:n < nodes.length
   ·have hi:(n:Int) < (nodes.length:Int):=by omega
    have hLs:=(uh HA _ (bl_tr (uh BW) (uh O).2)).2.2.1.2.1
    obtain ⟨b,o,rfl,hb,hx9⟩:=hLs.lies (show 0 < nodes.length by omega); clear hx9
    have hc:=row5 hLs hlt
    have HT:=hide ((rowB_next 1 nodB noNoA hlt))
    have tl:=uh T0 n hn
    have C1:=hide (uh D0 _ (getD_mem7 (z:=noNoA) hlt) wr (bl_tr (uh BW) (uh O).2))
    have al:=uh LL0 _ (getD_mem7 (z:=noNoA) hlt)
    generalize nodes.getD n noNoA = x at C1 hc HT al
    generalize nodB x = V at C1 HT al
    have lb:=fblk_len 1 V
    obtain ⟨xop,xnm,xins,xqi,xci,xouts,xqo,xco,xat,xqa,xca⟩:=x
    have c0:=hc 0 _ rfl
    have c1:=hc 1 _ rfl
    have c2:=hc 2 _ rfl
    have c3:=hc 3 _ rfl
    have c4:=hc 4 _ rfl
    simp only [strV,tenV,tenCells,noCells,inCells,vaCells,List.cons_append,List.nil_append,Nat.add_zero] at C1 c0 c1 c2 c3 c4
    obtain ⟨P,hP⟩:∃ P,rowB 1 nodB (nodes.take n) = P:=⟨_,rfl⟩
    rw [hP] at O HT tl
    have pl2:P.length ≤ 14000000000000:=by omega
    clear tl
    clear hP hLs hc
    go_wp2_with fail
    refine (uh C1).mono ?_
    rintro e w1 ⟨v1,rfl,hO⟩
    obtain ⟨q1,d1,rfl,hl1,_⟩:=hO.form
    have L1:=hide hl1
    have O1:=hide ((uh O).below hO.2)
    clear hO hl1 C1 x1 c0 c1 c2 c3 c4
    go_wp2_with fail
    refine (uh HB1 q1 d1 V w1 (uh L1) (by omega)).mono ?_
    rintro e w2 ⟨v2,rfl,hO⟩
    obtain ⟨q2,d2,rfl,hl2,_⟩:=hO.form
    have L2:=hide hl2
    have O2:=hide ((uh O1).below hO.2)
    clear hO hl2 O1 L1
    generalize fieldB (blkF 1 V) = VX at HT L2 lb
    go_wp2_with (at_builtin; (refine wpList_append_ls rfl _ _ 22 rfl W 5 i1 (.int .u8 0) 1 Tryz.underlying22 hi1 y1 z1 b1 rfl (int_one .u8) _ P rfl (uh O2) q2 d2 VX rfl (uh L2) (by unfold maxLen; omega) (by omega) ?_; intro v3 w3 O3; have HO3:=hide O3; clear O3))
    go_roundw
    case rel => exact ⟨n + 1,by go_num,by omega,hide (by rw [uh HT]; exact uh HO3)⟩
    case measure => simp [intOf]; omega
   ·have hi:¬ (n:Int) < (nodes.length:Int):=by omega
    have Q0:Hid (OwnG 5 (Value.int .u8) W wr _ R0):=hide (by have:=uh O; rw [List.take_of_length_le (by omega),uh H0] at this; exact this)
    clear O
    go_wp2_with fail
    clear hi hlt hn
    refine (uh HW _).mono ?_
    rintro e w1 ⟨v1,rfl,hO⟩
    obtain ⟨q1,d1,rfl,hl1,_⟩:=hO.form
    have L9:=hide hl1
    have O1:=hide ((uh Q0).below hO.2)
    clear hO hl1 HW Q0 x1
    go_wp2_with (at_builtin; (refine wpList_append_ls rfl _ _ 22 rfl W 5 i1 (.int .u8 0) 1 Tryz.underlying22 hi1 y1 z1 b1 rfl (int_one .u8) _ R0 rfl (uh O1) q1 d1 VW rfl (uh L9) (by unfold maxLen; omega) (by omega) ?_; intro v3 w3 O3; rw [uh H1] at O3; have HO3:=hide O3; clear O3))
    have HO9:=HO3
    clear O1 L9 HO3
    go_loopw [5,7] (fun v iv wr => ∃ n:Nat,iv = .int .i64 n ∧ n ≤ inits.length ∧ Hid (OwnG 5 (Value.int .u8) W wr v (R1 ++ rowB 5 iniB (inits.take n)))) (fun _ iv _ => inits.length - (intOf iv).toNat)
    case atStart => exact ⟨0,rfl,by omega,hide (by rw [List.take_zero,rowB_nil,List.append_nil]; exact uh HO9)⟩
    case round =>
     obtain ⟨n,rfl,hn,O⟩:=hrel
     have x1:=((uh BX).below (uh O).2).cell
     by_cases hlt:n < inits.length
     ·have hi:(n:Int) < (inits.length:Int):=by omega
      have hLs:=(uh HA _ (bl_tr (uh BW) (uh O).2)).2.2.2.1.2.1
      obtain ⟨b,o,rfl,hb,hx9⟩:=hLs.lies (show 0 < inits.length by omega); clear hx9
      have HC:=hide (fun v (hv:Below W.heap.size W v) => row6 (uh HA v (bl_tr (uh BW) hv)).2.2.2.1.2.1 hlt)
      have HT:=hide (congrArg (R1 ++ ·) (rowB_next 5 iniB noInA hlt))
      have tl:=uh T1 n hn
      have C1:=hide (fun v (hv:Below W.heap.size W v) => uh D1 _ (getD_mem7 (z:=noInA) hlt) v (bl_tr (uh BW) hv))
      have al:=uh LL1 _ (getD_mem7 (z:=noInA) hlt)
      simp only [← List.append_assoc] at HT
      generalize inits.getD n noInA = x at C1 HC HT al
      generalize iniB x = V at C1 HT al
      have lb:=fblk_len 5 V
      obtain ⟨xnm,⟨ty,ds,fs,is,bs⟩,⟨pd,cd,pf,cf,pi,cii,pb,cb⟩⟩:=x
      simp only [strV,tenV,tenCells,noCells,inCells,vaCells,List.cons_append,List.nil_append,Nat.add_zero] at C1 
      obtain ⟨P,hP⟩:∃ P,R1 ++ rowB 5 iniB (inits.take n) = P:=⟨_,rfl⟩
      have pl:P.length = R1.length + (rowB 5 iniB (inits.take n)).length:=by rw [← hP,List.length_append]
      have pl2:P.length ≤ 15000000000000:=by omega
      rw [hP] at O HT
      clear pl tl
      clear hP hLs
      have KA:=hide (fun (v:World) (hv:Below W.heap.size W v) => show (∀ j,v.cell? ⟨w.heap.size,j,none⟩ = #[.int .i64 ops,.string (strOfNums nm),.slice qn nodes.length cn,.slice (some ⟨b,o,none⟩) inits.length ci,.slice qp inp.length cp,.slice qo out.length co][j]?) ∧ v.cell? ⟨b,o + n * 6,none⟩ = some (.string (strOfNums xnm)) ∧ v.cell? ⟨b,o + n * 6 + 1,none⟩ = some (.int .i64 ty) ∧ v.cell? ⟨b,o + n * 6 + 2,none⟩ = some (.slice pd ds.length cd) ∧ v.cell? ⟨b,o + n * 6 + 3,none⟩ = some (.slice pf fs.length cf) ∧ v.cell? ⟨b,o + n * 6 + 4,none⟩ = some (.slice pi is.length cii) ∧ v.cell? ⟨b,o + n * 6 + 5,none⟩ = some (.slice pb bs.length cb) from ⟨((uh BX).below hv).cell,uh HC v hv 0 _ rfl,uh HC v hv 1 _ rfl,uh HC v hv 2 _ rfl,uh HC v hv 3 _ rfl,uh HC v hv 4 _ rfl,uh HC v hv 5 _ rfl⟩)
      have BD:=hide (bl_tr (uh O).2 (bdrewp _))
      have OD:=hide ((uh O).below (bdrewp _))
      have DB0:=hide (uh KA _ (uh BD))
      clear HC
      go_wp2_with fail
      go_region_held3 (fun v => (∀ j,v.cell? ⟨w.heap.size,j,none⟩ = #[.int .i64 ops,.string (strOfNums nm),.slice qn nodes.length cn,.slice (some ⟨b,o,none⟩) inits.length ci,.slice qp inp.length cp,.slice qo out.length co][j]?) ∧ v.cell? ⟨b,o + n * 6,none⟩ = some (.string (strOfNums xnm)) ∧ v.cell? ⟨b,o + n * 6 + 1,none⟩ = some (.int .i64 ty) ∧ v.cell? ⟨b,o + n * 6 + 2,none⟩ = some (.slice pd ds.length cd) ∧ v.cell? ⟨b,o + n * 6 + 3,none⟩ = some (.slice pf fs.length cf) ∧ v.cell? ⟨b,o + n * 6 + 4,none⟩ = some (.slice pi is.length cii) ∧ v.cell? ⟨b,o + n * 6 + 5,none⟩ = some (.slice pb bs.length cb)) (first | with_reducible exact uh DB3 | with_reducible exact uh DB2 | with_reducible exact uh DB1 | with_reducible exact uh DB0)
       (first
        | (refine step_append_ls rfl (.tmp 44) (.tmp 58) 22 rfl W 5 i1 (.int .u8 0) 1 Tryz.underlying22 hi1 y1 z1 b1 rfl (int_one .u8) _ P (by simp [Act.eval]) (uh O2) q2 d2 (fieldB (blkF 5 V)) (by simp [Act.eval]) (uh L2) (by unfold maxLen; omega) (by omega) ?_; intro v3 w3 O3 G3; have HO3:=hide O3; have DB3:=hide (uh KA _ O3.2); clear O3 G3)
        | (go_at_call 36; (refine (uh HB5 q1 d1 V w1 (uh L1) (by omega)).mono ?_; rintro e w2 ⟨v2,rfl,hO⟩; obtain ⟨q2,d2,rfl,hl2,_⟩:=hO.form; have L2:=hide hl2; have O2:=hide ((uh O1).below hO.2); have DB2:=hide (uh KA _ (uh O2).2); clear hO hl2))
        | (go_at_call 39; (refine (uh C1 _ (uh BD)).mono ?_; rintro e w1 ⟨v1,rfl,hO⟩; obtain ⟨q1,d1,rfl,hl1,_⟩:=hO.form; have L1:=hide hl1; have O1:=hide ((uh OD).below hO.2); have DB1:=hide (uh KA _ (uh O1).2); clear hO hl1)))
      go_wp2_with fail
      go_roundw
      case rel => exact ⟨n + 1,by go_num,by omega,hide (by rw [uh HT]; exact uh HO3)⟩
      case measure => simp [intOf]; omega
     ·have hi:¬ (n:Int) < (inits.length:Int):=by omega
      have Q1:Hid (OwnG 5 (Value.int .u8) W wr _ R2):=hide (by have:=uh O; rw [List.take_of_length_le (by omega),uh H2] at this; exact this)
      clear O
      go_wp2_with fail
      clear hi hlt hn x1 HO9
      go_loopw [5,8] (fun v iv wr => ∃ n:Nat,iv = .int .i64 n ∧ n ≤ inp.length ∧ Hid (OwnG 5 (Value.int .u8) W wr v (R2 ++ rowB 11 valB (inp.take n)))) (fun _ iv _ => inp.length - (intOf iv).toNat)
      case atStart => exact ⟨0,rfl,by omega,hide (by rw [List.take_zero,rowB_nil,List.append_nil]; exact uh Q1)⟩
      case round =>
       obtain ⟨n,rfl,hn,O⟩:=hrel
       have x1:=((uh BX).below (uh O).2).cell
       by_cases hlt:n < inp.length
       ·have hi:(n:Int) < (inp.length:Int):=by omega
        have hLs:=(uh HA _ (bl_tr (uh BW) (uh O).2)).2.2.2.2.1.2.1
        obtain ⟨b,o,rfl,hb,hx9⟩:=hLs.lies (show 0 < inp.length by omega); clear hx9
        have hc:=row3v hLs hlt
        have HT:=hide (congrArg (R2 ++ ·) (rowB_next 11 valB noVaA hlt))
        have tl:=uh T2 n hn
        have C1:=hide (uh D2 _ (getD_mem7 (z:=noVaA) hlt) wr (bl_tr (uh BW) (uh O).2))
        have al:=uh LL2 _ (getD_mem7 (z:=noVaA) hlt)
        simp only [← List.append_assoc] at HT
        generalize inp.getD n noVaA = x at C1 hc HT al
        generalize valB x = V at C1 HT al
        have lb:=fblk_len 11 V
        obtain ⟨xnm,xty,xds,xq,xc⟩:=x
        have c0:=hc 0 _ rfl
        have c1:=hc 1 _ rfl
        have c2:=hc 2 _ rfl
        simp only [strV,tenV,tenCells,noCells,inCells,vaCells,List.cons_append,List.nil_append,Nat.add_zero] at C1 c0 c1 c2
        obtain ⟨P,hP⟩:∃ P,R2 ++ rowB 11 valB (inp.take n) = P:=⟨_,rfl⟩
        have pl:P.length = R2.length + (rowB 11 valB (inp.take n)).length:=by rw [← hP,List.length_append]
        have pl2:P.length ≤ 15000100000000:=by omega
        rw [hP] at O HT
        clear pl tl
        clear hP hLs hc
        go_wp2_with fail
        refine (uh C1).mono ?_
        rintro e w1 ⟨v1,rfl,hO⟩
        obtain ⟨q1,d1,rfl,hl1,_⟩:=hO.form
        have L1:=hide hl1
        have O1:=hide ((uh O).below hO.2)
        clear hO hl1 C1 x1 c0 c1 c2
        go_wp2_with fail
        refine (uh HB11 q1 d1 V w1 (uh L1) (by omega)).mono ?_
        rintro e w2 ⟨v2,rfl,hO⟩
        obtain ⟨q2,d2,rfl,hl2,_⟩:=hO.form
        have L2:=hide hl2
        have O2:=hide ((uh O1).below hO.2)
        clear hO hl2 O1 L1
        generalize fieldB (blkF 11 V) = VX at HT L2 lb
        go_wp2_with (at_builtin; (refine wpList_append_ls rfl _ _ 22 rfl W 5 i1 (.int .u8 0) 1 Tryz.underlying22 hi1 y1 z1 b1 rfl (int_one .u8) _ P rfl (uh O2) q2 d2 VX rfl (uh L2) (by unfold maxLen; omega) (by omega) ?_; intro v3 w3 O3; have HO3:=hide O3; clear O3))
        go_roundw
        case rel => exact ⟨n + 1,by go_num,by omega,hide (by rw [uh HT]; exact uh HO3)⟩
        case measure => simp [intOf]; omega
       ·have hi:¬ (n:Int) < (inp.length:Int):=by omega
        have Q2:Hid (OwnG 5 (Value.int .u8) W wr _ R3):=hide (by have:=uh O; rw [List.take_of_length_le (by omega),uh H3] at this; exact this)
        clear O
        go_wp2_with fail
        clear hi hlt hn x1 Q1
        go_loopw [5,9] (fun v iv wr => ∃ n:Nat,iv = .int .i64 n ∧ n ≤ out.length ∧ Hid (OwnG 5 (Value.int .u8) W wr v (R3 ++ rowB 12 valB (out.take n)))) (fun _ iv _ => out.length - (intOf iv).toNat)
        case atStart => exact ⟨0,rfl,by omega,hide (by rw [List.take_zero,rowB_nil,List.append_nil]; exact uh Q2)⟩
        case round =>
         obtain ⟨n,rfl,hn,O⟩:=hrel
         have x1:=((uh BX).below (uh O).2).cell
         by_cases hlt:n < out.length
         ·have hi:(n:Int) < (out.length:Int):=by omega
          have hLs:=(uh HA _ (bl_tr (uh BW) (uh O).2)).2.2.2.2.2.2.1
          obtain ⟨b,o,rfl,hb,hx9⟩:=hLs.lies (show 0 < out.length by omega); clear hx9
          have hc:=row3v hLs hlt
          have HT:=hide (congrArg (R3 ++ ·) (rowB_next 12 valB noVaA hlt))
          have tl:=uh T3 n hn
          have C1:=hide (uh D3 _ (getD_mem7 (z:=noVaA) hlt) wr (bl_tr (uh BW) (uh O).2))
          have al:=uh LL3 _ (getD_mem7 (z:=noVaA) hlt)
          simp only [← List.append_assoc] at HT
          generalize out.getD n noVaA = x at C1 hc HT al
          generalize valB x = V at C1 HT al
          have lb:=fblk_len 12 V
          obtain ⟨xnm,xty,xds,xq,xc⟩:=x
          have c0:=hc 0 _ rfl
          have c1:=hc 1 _ rfl
          have c2:=hc 2 _ rfl
          simp only [strV,tenV,tenCells,noCells,inCells,vaCells,List.cons_append,List.nil_append,Nat.add_zero] at C1 c0 c1 c2
          obtain ⟨P,hP⟩:∃ P,R3 ++ rowB 12 valB (out.take n) = P:=⟨_,rfl⟩
          have pl:P.length = R3.length + (rowB 12 valB (out.take n)).length:=by rw [← hP,List.length_append]
          have pl2:P.length ≤ 15000200000000:=by omega
          rw [hP] at O HT
          clear pl tl
          clear hP hLs hc
          go_wp2_with fail
          refine (uh C1).mono ?_
          rintro e w1 ⟨v1,rfl,hO⟩
          obtain ⟨q1,d1,rfl,hl1,_⟩:=hO.form
          have L1:=hide hl1
          have O1:=hide ((uh O).below hO.2)
          clear hO hl1 C1 x1 c0 c1 c2
          go_wp2_with fail
          refine (uh HB12 q1 d1 V w1 (uh L1) (by omega)).mono ?_
          rintro e w2 ⟨v2,rfl,hO⟩
          obtain ⟨q2,d2,rfl,hl2,_⟩:=hO.form
          have L2:=hide hl2
          have O2:=hide ((uh O1).below hO.2)
          clear hO hl2 O1 L1
          generalize fieldB (blkF 12 V) = VX at HT L2 lb
          go_wp2_with (at_builtin; (refine wpList_append_ls rfl _ _ 22 rfl W 5 i1 (.int .u8 0) 1 Tryz.underlying22 hi1 y1 z1 b1 rfl (int_one .u8) _ P rfl (uh O2) q2 d2 VX rfl (uh L2) (by unfold maxLen; omega) (by omega) ?_; intro v3 w3 O3; have HO3:=hide O3; clear O3))
          go_roundw
          case rel => exact ⟨n + 1,by go_num,by omega,hide (by rw [uh HT]; exact uh HO3)⟩
          case measure => simp [intOf]; omega
         ·have hi:¬ (n:Int) < (out.length:Int):=by omega
          have Q3:Hid (OwnG 5 (Value.int .u8) W wr _ R4):=hide (by have:=uh O; rw [List.take_of_length_le (by omega),uh H4] at this; exact this)
          clear O
          go_wp2_with fail
          clear hi hlt hn x1 Q2
          refine (uh HN1 _).mono ?_
          rintro e w1 ⟨v1,rfl,hO⟩
          obtain ⟨q0,d0,hq0,hL0,_⟩:=(uh Q3).form
          subst hq0
          have G1:=hide (hL0.below hO.2)
          have O1:=hide (OwnG.onto (uh Q3).2 hO)
          clear hO HN1 Q3 hL0
          go_wp2_with fail
          refine (uh HB7 q0 d0 R4 w1 (uh G1) (by omega)).mono ?_
          rintro e w2 ⟨v2,rfl,hO⟩
          rw [uh H7] at hO
          obtain ⟨q2,d2,rfl,hl2,_⟩:=hO.form
          have L5:=hide hl2
          have O2:=hide ((uh O1).below hO.2)
          clear hO hl2 O1 G1
          go_wp2_with (at_builtin; (refine wpList_append_ls rfl _ _ 22 rfl W 5 i1 (.int .u8 0) 1 Tryz.underlying22 hi1 y1 z1 b1 rfl (int_one .u8) _ N1 rfl (uh O2) q2 d2 B7 rfl (uh L5) (by unfold maxLen; omega) (by omega) ?_; intro v3 w3 O3; rw [uh H5] at O3; have HO3:=hide O3; clear O3))
          refine (uh HN2 _).mono ?_
          rintro e w4 ⟨v4,rfl,hO⟩
          obtain ⟨q4,d4,rfl,hl4,_⟩:=hO.form
          have L6:=hide hl4
          have O4:=hide ((uh HO3).below hO.2)
          clear hO hl4 HN2 HO3 O2 L5
          go_wp2_with fail
          refine (uh HB8 q4 d4 N2 w4 (uh L6) (by omega)).mono ?_
          rintro e w5 ⟨v5,rfl,hO⟩
          rw [uh H8] at hO
          obtain ⟨q5,d5,rfl,hl5,_⟩:=hO.form
          have L7:=hide hl5
          have O5:=hide ((uh O4).below hO.2)
          clear hO hl5 O4 L6
          by_cases h9:4194304 < R6.length
          ·have h9i:(4194304:Int) < (R6.length:Int):=by omega
           have HE2:ER = ([],8):=by have:=uh HE; rw [if_pos h9] at this; exact this
           subst HE2
           clear HE h9
           simp only
           go_wp2_with (at_builtin; (refine wpList_append_ls rfl _ _ 22 rfl W 5 i1 (.int .u8 0) 1 Tryz.underlying22 hi1 y1 z1 b1 rfl (int_one .u8) _ R5 rfl (uh O5) q5 d5 B8 rfl (uh L7) (by unfold maxLen; omega) (by omega) ?_; intro v3 w3 O3; rw [uh H6] at O3; obtain ⟨q6,d6,hq6,_,_⟩:=O3.form; subst hq6; have HO3:=hide O3; clear O3))
           go_ret2
           exact ⟨_,rfl,OwnG.nil _ _ _ (bl_tr (uh BW) (uh HO3).2)⟩
          ·have h9i:¬ (4194304:Int) < (R6.length:Int):=by omega
           have HE2:ER = (R6,0):=by have:=uh HE; rw [if_neg h9] at this; exact this
           subst HE2
           clear HE h9
           simp only
           go_wp2_with (at_builtin; (refine wpList_append_ls rfl _ _ 22 rfl W 5 i1 (.int .u8 0) 1 Tryz.underlying22 hi1 y1 z1 b1 rfl (int_one .u8) _ R5 rfl (uh O5) q5 d5 B8 rfl (uh L7) (by unfold maxLen; omega) (by omega) ?_; intro v3 w3 O3; rw [uh H6] at O3; obtain ⟨q6,d6,hq6,_,_⟩:=O3.form; subst hq6; have HO3:=hide O3; clear O3))
           go_ret2
           exact ⟨_,rfl,OwnG.onto (uh BW) (uh HO3)⟩
end Go.Proofs.YtmdlaahdgjegcaaGreat
