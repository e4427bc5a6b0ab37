import Derived.Test.YtmdlaahdgjegcaaGreatV20
import Derived.Test.YtmdlaahdgjegcaaGreatV21
import Derived.Test.YtmdlaahdgjegcaaGreatV22
set_option maxRecDepth 100000
set_option maxHeartbeats 8000000
namespace Go.Proofs.YtmdlaahdgjegcaaGreat
open Go.RowKit
set_option linter.unusedVariables false
theorem fill_pack (num:Int) (l:List Int):fillF num (l.flatMap fun x => varV (u64w x)) = packF num l:=by
 unfold fillF packF
 cases l with
 | nil => rfl
 | cons a r =>
   have:=(varV_len (u64w a)).1
   rw [if_neg (by rw [List.flatMap_cons,List.length_append]; omega),if_neg (by simp)]
theorem fill_fx (num:Int) (l:List Int):fillF num (l.flatMap fun x => fxL x 4) = if l.length = 0 then [] else [blkF num (l.flatMap fun x => fxL x 4)]:=by
 unfold fillF
 cases l with
 | nil => rfl
 | cons a r =>
   rw [if_neg (by rw [List.flatMap_cons,List.length_append,fxL_length]; omega),if_neg (by simp)]
theorem flat_bit (l:List Bool):(l.flatMap fun x => [bit7 x]) = l.map bit7:=by
 induction l with
 | nil => rfl
 | cons a r ih => rw [List.flatMap_cons,List.map_cons,ih]; rfl
theorem isB_flat {α:Type} {F:α → List Int} {l:List α} (h:∀ x ∈ l,isB (F x)):isB (l.flatMap F):=fun c hc => by
 obtain ⟨x,hx,hc⟩:=List.mem_flatMap.1 hc
 exact h x hx c hc
theorem rawB_isB (T:Ten):isB (rawB T):=by
 rw [raw_parts]
 refine isB_append (isB_append (isB_flat fun x _ => fxL_isB _ _) (isB_flat fun x _ => fxL_isB _ _)) ?_
 rw [← flat_bit]
 exact isB_flat fun x _ c hc => by simp at hc; subst hc; cases x <;> decide
def TenWr (T:Ten):Prop:=T.2.1.length ≤ 1000 ∧ T.2.2.1.length ≤ 10000000 ∧ T.2.2.2.1.length ≤ 10000000 ∧ T.2.2.2.2.length ≤ 10000000
theorem craw_any (T:Ten) (A:TA) (w:World) (h:TenIn w T A) (hs:TenWr T) :
  Calls Tryz.prog 157 #[tenV T A] w fun e w' => ∃ v,e = .returned v ∧ OwnG 5 (Value.int .u8) w w' v (rawB T):=by
 obtain ⟨i1,hi1,y1,z1,b1⟩:=info_parts Tryz.infoU8
 have HV:=hide (raw_parts T)
 have HF:Hid (∀ x ∈ T.2.2.1,0 ≤ x ∧ x < 4294967296):=hide (fun x hx => wf_u32_iff (h.2.2.1.2.2.1 x hx))
 obtain ⟨ty,ds,fs,is,bs⟩:=T
 obtain ⟨pd,cd,pf,cf,pi,ci,pb,cb⟩:=A
 obtain ⟨s1,s2,s3,s4⟩:=hs
 simp only at s1 s2 s3 s4 HV HF
 have C1:=hide (fun v (hv:Below w.heap.size w v) => claiduint32_any 211 (ent_of Tryz.func211 (by kernel_rfl) rfl) (fun x => fxL (id x) 4) (fun x => by rw [fxL_length]; omega) pf cf fs v (h.2.2.1.below hv).ls (by omega) (fun u x hx => cfloatB_any x u (uh HF x hx).1 (uh HF x hx).2))
 have C2:=hide (fun v (hv:Below w.heap.size w v) => claidint64_any 215 (ent_of Tryz.func215 (by kernel_rfl) rfl) (fun x => fxL (u64w x) 8) (fun x => by rw [fxL_length]; omega) pi ci is v (h.2.2.2.1.below hv).ls (by omega) (fun u x hx => cintB_any x u))
 have C3:=hide (fun v (hv:Below w.heap.size w v) => claidbool_any 218 (ent_of Tryz.func218 (by kernel_rfl) rfl) (fun x => [bit7 x]) (fun x => by simp) pb cb bs v (h.2.2.2.2.below hv) (by omega) (fun u x hx => ctruthB_any x u))
 rw [flat_bit] at C3
 have l1:(fs.flatMap fun x => fxL (id x) 4).length ≤ 40000000:=by rw [fx_flat id 4 fs]; omega
 have l2:(is.flatMap fun x => fxL (u64w x) 8).length ≤ 80000000:=by rw [fx_flat u64w 8 is]; omega
 have l3:(bs.map bit7).length ≤ 10000000:=by rw [List.length_map]; omega
 rw [uh HV]
 clear HV h HF
 generalize (fs.flatMap fun x => fxL (id x) 4) = V1 at C1 l1 ⊢
 generalize (is.flatMap fun x => fxL (u64w x) 8) = V2 at C2 l2 ⊢
 generalize bs.map bit7 = V3 at C3 l3 ⊢
 obtain ⟨V4,hV4⟩:∃ V,V1 ++ V2 = V:=⟨_,rfl⟩
 have l4:V4.length = V1.length + V2.length:=by rw [← hV4,List.length_append]
 rw [hV4]
 have H4:=hide hV4
 clear hV4
 have HF4:V4.length ≤ 200000000:=by omega
 clear l4
 unfold tenV tenCells
 simp only
 go_enter Tryz.func157,Tryz.ntmps157
 go_wp2_with fail
 obtain ⟨W,hW⟩:∃ W,(w.alloc (Obj.cells #[.int .i64 ty,.slice pd ds.length cd,.slice pf fs.length cf,.slice pi is.length ci,.slice pb bs.length cb] 80)) = W:=⟨_,rfl⟩
 have BX:Hid (Box W w.heap.size #[.int .i64 ty,.slice pd ds.length cd,.slice pf fs.length cf,.slice pi is.length ci,.slice pb bs.length cb] 80):=hide (by rw [← hW]; exact Box.new w _ _)
 have BW:Hid (Below w.heap.size w W):=hide (by rw [← hW]; exact al1p _ _)
 rw [hW]
 clear hW
 refine (uh C1 _ (uh BW)).mono ?_
 rintro e w1 ⟨r1,rfl,hO⟩
 have O1:=hide hO
 have x1:=((uh BX).below hO.2).cell
 clear hO C1
 go_wp2_with fail
 refine (uh C2 _ (bl_tr (uh BW) (uh O1).2)).mono ?_
 rintro e w2 ⟨r2,rfl,hO⟩
 obtain ⟨q2,d2,rfl,hl2,_⟩:=hO.form
 have L2:=hide hl2
 have O2:=hide ((uh O1).below hO.2)
 clear hO hl2 C2
 go_wp2_with (at_builtin; (refine wpList_append_ls rfl _ _ 22 rfl W 5 i1 (.int .u8 0) 1 Tryz.underlying22 hi1 y1 z1 b1 rfl (int_one .u8) _ V1 rfl (uh O2) q2 d2 V2 rfl (uh L2) (by unfold maxLen; omega) (by omega) ?_; intro v3 w3 O; rw [uh H4] at O; have x3:=((uh BX).below O.2).cell; have O3:=hide O; clear O))
 refine (uh C3 _ (bl_tr (uh BW) (uh O3).2)).mono ?_
 rintro e w4 ⟨r4,rfl,hO⟩
 obtain ⟨q4,d4,rfl,hl4,_⟩:=hO.form
 have L4:=hide hl4
 have O4:=hide ((uh O3).below hO.2)
 clear hO hl4 C3
 go_wp2_with (at_builtin; (refine wpList_append_ls rfl _ _ 22 rfl W 5 i1 (.int .u8 0) 1 Tryz.underlying22 hi1 y1 z1 b1 rfl (int_one .u8) _ V4 rfl (uh O4) q4 d4 V3 rfl (uh L4) (by unfold maxLen; omega) (by omega) ?_; intro v5 w5 O; have O5:=hide O; clear O))
 go_ret
 exact ⟨_,rfl,OwnG.onto (uh BW) (uh O5)⟩
theorem modelTS_u8:¬ 5 ∈ modelTS:=by decide
theorem modelTS_wr:¬ 93 ∈ modelTS:=by decide
theorem tenTS_in:∀ t ∈ tenTS,t ∈ modelTS:=by decide
theorem nodeTS_in:∀ t ∈ nodeTS,t ∈ modelTS:=by decide
theorem KeptW.model {B g:Nat} {w w':World} (h:KeptW g w w') (hB:B ≤ g):Kept modelTS B w w':=h.kept hB modelTS_u8 modelTS_wr
theorem cinit_any (g:Nat) (fs0:List Fld) (a:InA) {B:Nat} (w:World) (hW:WrIn g w fs0) (h:InIn B w a) (hB:B ≤ g) (hl:a.nm.length ≤ 100000) (hs:TenWr a.T) :
  Calls Tryz.prog 100 #[.pointer (some ⟨g,0,none⟩),.agg (inCells a).toArray] w fun e w' => WEnd g w (fs0 ++ tensF a.nm a.T) e w':=by
 have HI:=hide (fun v (hv:KeptW g w v) => h.kept tenTS_in (hv.model hB))
 have HW:=hide hW
 have gl:=hW.lt
 have s1:=hs.1
 have HS:=hide hs
 have HN:=hide h.1
 have C1:=hide (fun v (hv:KeptW g w v) => claidint_any 156 (ent_of Tryz.func156 (by kernel_rfl) rfl) (fun x => varV (u64w x)) (fun x => (varV_len _).2) a.A.pd a.A.cd a.T.2.1 v (uh HI v hv).2.1.2.1.ls (by omega) (fun u x hx => cvarIint_any x u))
 have C2:=hide (fun v fs p c (hv:WrIn g v fs) (hb:Ls (Value.int .u8) v p c (a.T.2.1.flatMap fun x => varV (u64w x))) => cfilled_any g fs 1 p c _ v hv (hb.ints (isB_wf (isB_flat fun x _ => varV_range (u64w_rng x).1 (u64w_rng x).2))) (by decide) (by decide) (by have:=var_flat a.T.2.1; omega))
 rw [fill_pack] at C2
 have C3:=hide (fun v fs (hv:WrIn g v fs) => cnumber_any g fs 2 a.T.1 v hv (by decide) (by decide))
 have C4:=hide (fun v fs (hv:WrIn g v fs) => cname_any g fs 8 a.nm v hv (uh HN) (by decide) (by decide) (by omega))
 have C5:=hide (fun v (hv:KeptW g w v) => craw_any a.T a.A v (uh HI v hv).2.1 (uh HS))
 have lr:(rawB a.T).length ≤ 200000000:=by
  rw [raw_parts,List.length_append,List.length_append,fx_flat,fx_flat,List.length_map]
  have:=hs.2.1; have:=hs.2.2.1; have:=hs.2.2.2; omega
 have C6:=hide (fun v fs p c (hv:WrIn g v fs) (hb:Ls (Value.int .u8) v p c (rawB a.T)) => cdata_any g fs 9 p c _ v hv (hb.ints (isB_wf (rawB_isB a.T))) (by decide) (by decide) (by omega))
 have HV:Hid (fs0 ++ tensF a.nm a.T = fs0 ++ packF 1 a.T.2.1 ++ [numF 2 (u64w a.T.1)] ++ wordF 8 a.nm ++ [blkF 9 (rawB a.T)]):=hide (by unfold tensF; simp only [List.append_assoc])
 rw [uh HV]
 clear HV hW h hs HI HN
 obtain ⟨nm,⟨ty,ds,fs,is,bs⟩,⟨pd,cd,pf,cf,pi,ci,pb,cb⟩⟩:=a
 simp only at C1 C2 C3 C4 C5 C6 lr s1 ⊢
 generalize (ds.flatMap fun x => varV (u64w x)) = DV at C1 C2
 generalize packF 1 ds = F1 at C2 ⊢
 generalize numF 2 (u64w ty) = F2 at C3 ⊢
 generalize wordF 8 nm = F3' at C4 ⊢
 generalize rawB (ty,ds,fs,is,bs) = RW at C5 C6 lr ⊢
 unfold tenV tenCells at C5
 unfold strV at C4
 unfold inCells tenCells strV
 simp only at C5 ⊢
 go_enter Tryz.func100,Tryz.ntmps100
 go_wp2_with fail
 obtain ⟨W,hWe⟩:∃ W,(w.alloc (Obj.cells #[.string (strOfNums nm),.int .i64 ty,.slice pd ds.length cd,.slice pf fs.length cf,.slice pi is.length ci,.slice pb bs.length cb] 82)) = W:=⟨_,rfl⟩
 have BX:Hid (Box W w.heap.size #[.string (strOfNums nm),.int .i64 ty,.slice pd ds.length cd,.slice pf fs.length cf,.slice pi is.length ci,.slice pb bs.length cb] 82):=hide (by rw [← hWe]; exact Box.new w _ _)
 have K0:Hid (KeptW g w W):=hide (by rw [← hWe]; exact KeptW.below (al1p _ _) (by omega))
 have V0:Hid (WrIn g W fs0):=hide (by rw [← hWe]; exact (uh HW).below (al1p _ _))
 have X0:Hid (KeptW g W W):=hide (KeptW.refl _ _)
 rw [hWe]
 clear hWe HW
 refine (uh C1 _ (uh K0)).mono ?_
 rintro e w1 ⟨r1,rfl,hO⟩
 obtain ⟨q1,d1,rfl,hl,_⟩:=hO.form
 have L1:=hide hl
 have V1:=hide ((uh V0).below hO.2)
 have X1:=hide ((uh X0).trans (KeptW.below hO.2 (Nat.le_of_lt (uh V0).lt)))
 have K1:=hide ((uh K0).trans (uh X1))
 have x1:=((uh X1).box (by decide) (by decide) (uh BX)).cell
 clear hO hl
 go_wp2_with fail
 refine (uh C2 _ _ q1 d1 (uh V1) (uh L1)).mono ?_
 rintro e w2 ⟨rfl,hv1,hv2⟩
 have V2:=hide hv1
 have X2:=hide ((uh X1).trans hv2)
 have K2:=hide ((uh K0).trans (uh X2))
 have x2:=((uh X2).box (by decide) (by decide) (uh BX)).cell
 clear hv1 hv2
 go_wp2_with fail
 refine (uh C3 _ _ (uh V2)).mono ?_
 rintro e w3 ⟨rfl,hv1,hv2⟩
 have V3:=hide hv1
 have X3:=hide ((uh X2).trans hv2)
 have K3:=hide ((uh K0).trans (uh X3))
 have x3:=((uh X3).box (by decide) (by decide) (uh BX)).cell
 clear hv1 hv2
 go_wp2_with fail
 refine (uh C4 _ _ (uh V3)).mono ?_
 rintro e w4 ⟨rfl,hv1,hv2⟩
 have V4:=hide hv1
 have X4:=hide ((uh X3).trans hv2)
 have K4:=hide ((uh K0).trans (uh X4))
 have x4:=((uh X4).box (by decide) (by decide) (uh BX)).cell
 clear hv1 hv2
 go_wp2_with fail
 refine (uh C5 _ (uh K4)).mono ?_
 rintro e w5 ⟨r5,rfl,hO⟩
 obtain ⟨q5,d5,rfl,hl,_⟩:=hO.form
 have L5:=hide hl
 have V5:=hide ((uh V4).below hO.2)
 have X5:=hide ((uh X4).trans (KeptW.below hO.2 (Nat.le_of_lt (uh V4).lt)))
 have K5:=hide ((uh K0).trans (uh X5))
 have x5:=((uh X5).box (by decide) (by decide) (uh BX)).cell
 clear hO hl
 go_wp2_with fail
 refine (uh C6 _ _ q5 d5 (uh V5) (uh L5)).mono ?_
 rintro e w6 ⟨rfl,hv1,hv2⟩
 have V6:=hide hv1
 have X6:=hide ((uh X5).trans hv2)
 have K6:=hide ((uh K0).trans (uh X6))
 have x6:=((uh X6).box (by decide) (by decide) (uh BX)).cell
 clear hv1 hv2
 go_wp2_with fail
 go_end0
 exact ⟨rfl,uh V6,uh K6⟩
theorem cdim_any (g:Nat) (fs:List Fld) (x:Int) (w:World) (hW:WrIn g w fs) :
  Calls Tryz.prog 163 #[.pointer (some ⟨g,0,none⟩),.int .i64 x] w fun e w' => WEnd g w (fs ++ [numF 1 (u64w x)]) e w':=by
 have C1:=hide (cnumber_any g fs 1 x w hW (by decide) (by decide))
 generalize numF 1 (u64w x) = F at C1 ⊢
 clear hW
 go_enter Tryz.func163,Tryz.ntmps163
 go_wp2_with fail
 refine (uh C1).mono ?_
 rintro e v ⟨rfl,hv1,hv2⟩
 have H1:=hide hv1
 have H2:=hide hv2
 clear hv1 hv2
 go_wp2_with fail
 go_end0
 exact ⟨rfl,uh H1,uh H2⟩
theorem cval3_any (gin gv B:Nat) (a:VaA) (w:World) (hW:WrIn gin w []) (hb:Box w gv (vaCells a).toArray 52) (hi:Ints .i64 w a.q a.c a.ds) (ht:Tag 3 B w a.q a.ds.length) (hB:B ≤ gin) :
  Calls Tryz.prog 161 #[.pointer (some ⟨gin,0,none⟩),.pointer (some ⟨gv,0,none⟩)] w fun e w' => WEnd gin w (shapeF a.ds) e w':=by
 have C1:=hide (ceachint_any gin B [] 1 163 (ent_of Tryz.func163 (by kernel_rfl) rfl) (fun x => [numF 1 (u64w x)]) a.q a.c a.ds w hW hi.ls ht hB (by decide) (by decide) (fun v gi _ _ hg x _ => cdim_any gi [] x v hg))
 rw [List.nil_append,show (a.ds.map fun x => blkF 1 (msgB [numF 1 (u64w x)])) = shapeF a.ds from rfl] at C1
 generalize shapeF a.ds = F at C1 ⊢
 have x0:=hb.cell
 obtain ⟨nm,ty,ds,q,c⟩:=a
 unfold vaCells at x0
 simp only at C1 x0
 clear hW hb hi ht
 go_enter Tryz.func161,Tryz.ntmps161
 go_wp2_with fail
 refine (uh C1).mono ?_
 rintro e v ⟨rfl,hv1,hv2⟩
 have H1:=hide hv1
 have H2:=hide hv2
 clear hv1 hv2
 go_wp2_with fail
 go_end0
 exact ⟨rfl,uh H1,uh H2⟩
theorem cval2_any (gin gv B:Nat) (a:VaA) (w:World) (hW:WrIn gin w []) (hb:Box w gv (vaCells a).toArray 52) (hi:Ints .i64 w a.q a.c a.ds) (ht:Tag 3 B w a.q a.ds.length) (hB:B ≤ gin) :
  Calls Tryz.prog 160 #[.pointer (some ⟨gin,0,none⟩),.pointer (some ⟨gv,0,none⟩)] w fun e w' => WEnd gin w ([numF 1 (u64w a.ty)] ++ [blkF 2 (msgB (shapeF a.ds))]) e w':=by
 have C1:=hide (cnumber_any gin [] 1 a.ty w hW (by decide) (by decide))
 have C2:=hide (fun v (hv:KeptW gin w v) fs (hw:WrIn gin v fs) => cinner_any gin fs (shapeF a.ds) 2 161 (ent_of Tryz.func161 (by kernel_rfl) rfl) #[.pointer (some ⟨gv,0,none⟩)] v hw (fun u gi hu hg hwi => cval3_any gi gv B a u hwi ((hv.box (by decide) (by decide) hb).below hu) ((hi.keptT (TS:=[3]) ht (by simp) (hv.kept hB (by decide) (by decide))).below hu) ((ht.kept (TS:=[3]) (by simp) (hv.kept hB (by decide) (by decide))).kept (TS:=[3]) (by simp) (Kept.below hu)) (by have:=hw.lt; omega)) (by decide) (by decide))
 rw [List.nil_append] at C1
 generalize shapeF a.ds = F at C2 ⊢
 have BX:=hide hb
 have x0:=hb.cell
 obtain ⟨nm,ty,ds,q,c⟩:=a
 unfold vaCells at x0
 simp only at C1 C2 x0 ⊢
 generalize numF 1 (u64w ty) = F1 at C1 ⊢
 clear hW hb hi ht
 go_enter Tryz.func160,Tryz.ntmps160
 go_wp2_with fail
 refine (uh C1).mono ?_
 rintro e v ⟨rfl,hv1,hv2⟩
 have H1:=hide hv1
 have H2:=hide hv2
 clear hv1 hv2
 go_wp2_with fail
 refine (uh C2 _ (uh H2) _ (uh H1)).mono ?_
 rintro e v2 ⟨rfl,hv1,hv2⟩
 have H3:=hide hv1
 have H4:=hide ((uh H2).trans hv2)
 clear hv1 hv2
 go_wp2_with fail
 go_end0
 exact ⟨rfl,uh H3,uh H4⟩
theorem cval1_any (gin gv B:Nat) (a:VaA) (w:World) (hW:WrIn gin w []) (hb:Box w gv (vaCells a).toArray 52) (hi:Ints .i64 w a.q a.c a.ds) (ht:Tag 3 B w a.q a.ds.length) (hB:B ≤ gin) :
  Calls Tryz.prog 159 #[.pointer (some ⟨gin,0,none⟩),.pointer (some ⟨gv,0,none⟩)] w fun e w' => WEnd gin w [blkF 1 (msgB ([numF 1 (u64w a.ty)] ++ [blkF 2 (msgB (shapeF a.ds))]))] e w':=by
 have gl:=hW.lt
 have C2:=hide (cinner_any gin [] ([numF 1 (u64w a.ty)] ++ [blkF 2 (msgB (shapeF a.ds))]) 1 160 (ent_of Tryz.func160 (by kernel_rfl) rfl) #[.pointer (some ⟨gv,0,none⟩)] w hW (fun u gi hu hg hwi => cval2_any gi gv B a u hwi (hb.below hu) (hi.below hu) (ht.kept (TS:=[3]) (by simp) (Kept.below hu)) (by omega)) (by decide) (by decide))
 rw [List.nil_append] at C2
 generalize [blkF 1 (msgB ([numF 1 (u64w a.ty)] ++ [blkF 2 (msgB (shapeF a.ds))]))] = F at C2 ⊢
 clear hW hb hi ht
 go_enter Tryz.func159,Tryz.ntmps159
 go_wp2_with fail
 refine (uh C2).mono ?_
 rintro e v2 ⟨rfl,hv1,hv2⟩
 have H3:=hide hv1
 have H4:=hide hv2
 clear hv1 hv2
 go_wp2_with fail
 go_end0
 exact ⟨rfl,uh H3,uh H4⟩
theorem cvalue_any (g:Nat) (fs0:List Fld) (a:VaA) {B:Nat} (w:World) (hW:WrIn g w fs0) (h:VaIn B w a) (hB:B ≤ g) (hl:a.nm.length ≤ 100000) :
  Calls Tryz.prog 102 #[.pointer (some ⟨g,0,none⟩),.agg (vaCells a).toArray] w fun e w' => WEnd g w (fs0 ++ valF a.d) e w':=by
 have HW:=hide hW
 have gl:=hW.lt
 have HI:=hide (fun v (hv:KeptW g w v) => h.kept (TS:=modelTS) (by decide) (hv.model hB))
 have C1:=hide (fun v fs (hv:WrIn g v fs) => cname_any g fs 1 a.nm v hv h.1 (by decide) (by decide) (by omega))
 have C2:=hide (fun v (hv:KeptW g w v) fs gv (hb:Box v gv (vaCells a).toArray 52) (hw:WrIn g v fs) => cinner_any g fs [blkF 1 (msgB ([numF 1 (u64w a.ty)] ++ [blkF 2 (msgB (shapeF a.ds))]))] 2 159 (ent_of Tryz.func159 (by kernel_rfl) rfl) #[.pointer (some ⟨gv,0,none⟩)] v hw (fun u gi hu hg hwi => cval1_any gi gv B a u hwi (hb.below hu) ((uh HI v hv).2.2.1.below hu) ((uh HI v hv).2.2.2.kept (TS:=[3]) (by simp) (Kept.below hu)) (by have:=hw.lt; omega)) (by decide) (by decide))
 have HV:Hid (fs0 ++ valF a.d = fs0 ++ wordF 1 a.nm ++ [blkF 2 (msgB [blkF 1 (msgB ([numF 1 (u64w a.ty)] ++ [blkF 2 (msgB (shapeF a.ds))]))])]):=hide (by unfold valF VaA.d; simp only [List.append_assoc,List.cons_append,List.nil_append])
 rw [uh HV]
 clear HV hW h HI
 obtain ⟨nm,ty,ds,q,c⟩:=a
 simp only at C1 C2 ⊢
 generalize wordF 1 nm = F1 at C1 ⊢
 generalize blkF 2 (msgB [blkF 1 (msgB ([numF 1 (u64w ty)] ++ [blkF 2 (msgB (shapeF ds))]))]) = F2 at C2 ⊢
 unfold strV at C1
 unfold vaCells strV at C2 ⊢
 simp only at C2 ⊢
 go_enter Tryz.func102,Tryz.ntmps102
 go_wp2_with fail
 obtain ⟨W,hWe⟩:∃ W,(w.alloc (Obj.cells #[.string (strOfNums nm),.int .i64 ty,.slice q ds.length c] 52)) = W:=⟨_,rfl⟩
 have BX:Hid (Box W w.heap.size #[.string (strOfNums nm),.int .i64 ty,.slice q ds.length c] 52):=hide (by rw [← hWe]; exact Box.new w _ _)
 have K0:Hid (KeptW g w W):=hide (by rw [← hWe]; exact KeptW.below (al1p _ _) (by omega))
 have V0:Hid (WrIn g W fs0):=hide (by rw [← hWe]; exact (uh HW).below (al1p _ _))
 have X0:Hid (KeptW g W W):=hide (KeptW.refl _ _)
 rw [hWe]
 clear hWe HW
 refine (uh C1 _ _ (uh V0)).mono ?_
 rintro e w1 ⟨rfl,hv1,hv2⟩
 have V1:=hide hv1
 have X1:=hide ((uh X0).trans hv2)
 have K1:=hide ((uh K0).trans (uh X1))
 have x1:=((uh X1).box (by decide) (by decide) (uh BX)).cell
 clear hv1 hv2
 go_wp2_with fail
 refine (uh C2 _ (uh K1) _ _ ((uh X1).box (by decide) (by decide) (uh BX)) (uh V1)).mono ?_
 rintro e w2 ⟨rfl,hv1,hv2⟩
 have V2:=hide hv1
 have X2:=hide ((uh X1).trans hv2)
 have K2:=hide ((uh K0).trans (uh X2))
 have x2:=((uh X2).box (by decide) (by decide) (uh BX)).cell
 clear hv1 hv2
 go_wp2_with fail
 go_end0
 exact ⟨rfl,uh V2,uh K2⟩
theorem rattrOf_3 (a:AtA) {B:Nat} (w:World) (h:AtIn B w a) (hm:AtSm a) (hk:a.kd = 3) :
  Calls Tryz.prog 76 #[.agg (atCells a).toArray] w fun e w' => ∃ v,e = .returned v ∧ OwnG 5 (Value.int .u8) w w' v (msgB (attrF a.d)):=by
 obtain ⟨i1,hi1,y1,z1,b1⟩:=info_parts Tryz.infoU8
 obtain ⟨nm,kd,f,i,s,⟨ty,ds,fs,is,bs⟩,⟨pd,cd,pf,cf,pi,ci,pb,cb⟩,fl,qf,cf',li,qi,ci'⟩:=a
 obtain ⟨g1,g2,g3,g4,g5,g6,⟨g7,g8⟩,g9,g10⟩:=h
 obtain ⟨m1,m2,m3,m4,m5,m6,m7,m8⟩:=hm
 simp only at hk g1 g3 g4 g5 g6 g7 g9 m1 m2 m3 m4 m5 m6 m7 m8
 subst hk
 have TI:=hide g6.1
 have IF:=hide g7
 have II:=hide g9
 have HS5:=hide g5
 have CT0:=hide (fun v => rword_any 1 nm v g1 (by decide) (by decide) (by omega))
 have lv0:=word_len 1 nm
 have CTa:=hide (fun v => rvarint_any 160 v (by decide) (by decide))
 have lva:=(varV_len 160).2
 have CTb:=hide (fun v => rvarint_any 3 v (by decide) (by decide))
 have lvb:=(varV_len 3).2
 have kc:=fun (w:World) (b:ByteArray) => Go.Lib.run_convert_string_bytes (P:=Tryz.prog) w 9 22 5 b Tryz.underlying9 Tryz.underlying22 Tryz.underlying5
 have hsz:(strOfNums s).size = s.length:=str_len s
 have CTk:=hide (fun p c b v hh hs => rblock_any 4 p c b v hh (by decide) (by decide) hs)
 have lv1:=fblk_len 4 s
 have HV:Hid (msgB (attrF (AtA.d ⟨nm,3,f,i,s,(ty,ds,fs,is,bs),⟨pd,cd,pf,cf,pi,ci,pb,cb⟩,fl,qf,cf',li,qi,ci'⟩)) = ((msgB (wordF 1 nm) ++ fieldB (blkF 4 s)) ++ varV 160) ++ varV 3):=hide (by
  rw [show attrF (AtA.d ⟨nm,3,f,i,s,(ty,ds,fs,is,bs),⟨pd,cd,pf,cf,pi,ci,pb,cb⟩,fl,qf,cf',li,qi,ci'⟩) = wordF 1 nm ++ [blkF 4 s] ++ [numF 20 3] from rfl,msg_app,msg_app,msg_one,msg_one,field_num 20 3]
  simp only [List.append_assoc]; rfl)
 obtain ⟨V1,hV1⟩:∃ V,fieldB (blkF 4 s) = V:=⟨_,rfl⟩
 rw [hV1] at lv1 HV
 have HV1:=hide hV1
 clear hV1
 generalize varV 160 = Va at CTa lva HV
 generalize varV 3 = Vb at CTb lvb HV
 generalize msgB (wordF 1 nm) = V0 at CT0 lv0 HV
 rw [uh HV]
 obtain ⟨Q1,hQ1⟩:∃ Q,V0 ++ V1 = Q:=⟨_,rfl⟩
 have lQ1:Q1.length ≤ 200000 + 1 * 200000000:=by rw [← hQ1,List.length_append]; omega
 rw [hQ1]
 have HQ1:=hide hQ1
 clear hQ1
 obtain ⟨Q2,hQ2⟩:∃ Q,Q1 ++ Va = Q:=⟨_,rfl⟩
 have lQ2:Q2.length ≤ 200000 + 2 * 200000000:=by rw [← hQ2,List.length_append]; omega
 rw [hQ2]
 have HQ2:=hide hQ2
 clear hQ2
 unfold strV at CT0
 unfold atCells tenCells strV
 simp only [List.cons_append,List.nil_append]
 clear HV g1 g2 g5 g6 g7 g8 g9 g10
 go_enter Tryz.func76,Tryz.ntmps76
 go_wp2_with fail
 obtain ⟨W,hW⟩:∃ W,(w.alloc (Obj.cells #[.string (strOfNums nm),.int .i64 3,.int .u32 f,.int .i64 i,.string (strOfNums s),.int .i64 ty,.slice pd ds.length cd,.slice pf fs.length cf,.slice pi is.length ci,.slice pb bs.length cb,.slice qf fl.length cf',.slice qi li.length ci'] 86)) = W:=⟨_,rfl⟩
 have BX:Hid (Box W w.heap.size #[.string (strOfNums nm),.int .i64 3,.int .u32 f,.int .i64 i,.string (strOfNums s),.int .i64 ty,.slice pd ds.length cd,.slice pf fs.length cf,.slice pi is.length ci,.slice pb bs.length cb,.slice qf fl.length cf',.slice qi li.length ci'] 86):=hide (by rw [← hW]; exact Box.new w _ _)
 have BW:Hid (Below w.heap.size w W):=hide (by rw [← hW]; exact al1p _ _)
 rw [hW]
 clear hW
 refine (uh CT0 _).mono ?_
 rintro e w1 ⟨v1,rfl,hO⟩
 obtain ⟨q1,d1,rfl,hl1,_⟩:=hO.form
 have L1:=hide hl1
 have O1:=hide hO.2
 clear hO hl1 CT0
 go_wp2_with (at_builtin; (refine wpList_append_ls rfl _ _ 22 rfl W 5 i1 (.int .u8 0) 1 Tryz.underlying22 hi1 y1 z1 b1 rfl (int_one .u8) _ [] rfl (OwnG.nil _ _ _ (uh O1)) q1 d1 V0 rfl (uh L1) (by simp only [List.length_nil]; unfold maxLen; omega) (by simp only [List.length_nil]; omega) ?_; intro vo wo O; rw [List.nil_append] at O; have xo:=((uh BX).below O.2).cell; have HO:=hide O; clear O))
 have HB3:=hide (below_bytes wo 5 (strOfNums s))
 refine (uh CTk _ _ s (Go.Lib.bytesWorld wo 5 (strOfNums s)) (ls_bytes (uh HS5) (by omega)) (by omega)).mono ?_
 rintro e w2 ⟨v2,rfl,hO⟩
 rw [uh HV1] at hO
 obtain ⟨q2,d2,rfl,hl2,_⟩:=hO.form
 have L2:=hide hl2
 replace HO:=hide ((uh HO).below (bl_tr (uh HB3) hO.2))
 clear hO hl2
 go_wp2_with (at_builtin; (refine wpList_append_ls rfl _ _ 22 rfl W 5 i1 (.int .u8 0) 1 Tryz.underlying22 hi1 y1 z1 b1 rfl (int_one .u8) _ V0 rfl (uh HO) q2 d2 V1 rfl (uh L2) (by unfold maxLen; omega) (by omega) ?_; intro vo2 wo2 O; rw [uh HQ1] at O; have xo2:=((uh BX).below O.2).cell; replace HO:=hide O; clear O))
 refine (uh CTa _).mono ?_
 rintro e wa ⟨va,rfl,hO⟩
 obtain ⟨qa,da,rfl,hla,_⟩:=hO.form
 have La:=hide hla
 replace HO:=hide ((uh HO).below hO.2)
 clear hO hla
 go_wp2_with (at_builtin; (refine wpList_append_ls rfl _ _ 22 rfl W 5 i1 (.int .u8 0) 1 Tryz.underlying22 hi1 y1 z1 b1 rfl (int_one .u8) _ Q1 rfl (uh HO) qa da Va rfl (uh La) (by unfold maxLen; omega) (by omega) ?_; intro voa woa O; rw [uh HQ2] at O; have xoa:=((uh BX).below O.2).cell; replace HO:=hide O; clear O))
 try rw [show IntKind.u64.wrap 3 = 3 from rfl]
 refine (uh CTb _).mono ?_
 rintro e wb ⟨vb,rfl,hO⟩
 obtain ⟨qb,db,rfl,hlb,_⟩:=hO.form
 have Lb:=hide hlb
 replace HO:=hide ((uh HO).below hO.2)
 clear hO hlb
 go_wp2_with (at_builtin; (refine wpList_append_ls rfl _ _ 22 rfl W 5 i1 (.int .u8 0) 1 Tryz.underlying22 hi1 y1 z1 b1 rfl (int_one .u8) _ Q2 rfl (uh HO) qb db Vb rfl (uh Lb) (by unfold maxLen; omega) (by omega) ?_; intro vob wob O; have xob:=((uh BX).below O.2).cell; replace HO:=hide O; clear O))
 go_ret
 exact ⟨_,rfl,OwnG.onto (uh BW) (uh HO)⟩
theorem rattrOf_6 (a:AtA) {B:Nat} (w:World) (h:AtIn B w a) (hm:AtSm a) (hk:a.kd = 6) (hz:0 < a.fl.length) :
  Calls Tryz.prog 76 #[.agg (atCells a).toArray] w fun e w' => ∃ v,e = .returned v ∧ OwnG 5 (Value.int .u8) w w' v (msgB (attrF a.d)):=by
 obtain ⟨i1,hi1,y1,z1,b1⟩:=info_parts Tryz.infoU8
 obtain ⟨nm,kd,f,i,s,⟨ty,ds,fs,is,bs⟩,⟨pd,cd,pf,cf,pi,ci,pb,cb⟩,fl,qf,cf',li,qi,ci'⟩:=a
 obtain ⟨g1,g2,g3,g4,g5,g6,⟨g7,g8⟩,g9,g10⟩:=h
 obtain ⟨m1,m2,m3,m4,m5,m6,m7,m8⟩:=hm
 simp only at hk g1 g3 g4 g5 g6 g7 g9 m1 m2 m3 m4 m5 m6 m7 m8
 subst hk
 have TI:=hide g6.1
 have IF:=hide g7
 have II:=hide g9
 have HS5:=hide g5
 have CT0:=hide (fun v => rword_any 1 nm v g1 (by decide) (by decide) (by omega))
 have lv0:=word_len 1 nm
 have CTa:=hide (fun v => rvarint_any 160 v (by decide) (by decide))
 have lva:=(varV_len 160).2
 have CTb:=hide (fun v => rvarint_any 6 v (by decide) (by decide))
 have lvb:=(varV_len 6).2
 simp only at hz
 have hvf:(fl.flatMap fun x => fxL (id x) 4).length = fl.length * 4:=fx_flat id 4 fl
 have HV:Hid (msgB (attrF (AtA.d ⟨nm,6,f,i,s,(ty,ds,fs,is,bs),⟨pd,cd,pf,cf,pi,ci,pb,cb⟩,fl,qf,cf',li,qi,ci'⟩)) = ((msgB (wordF 1 nm) ++ fieldB (blkF 7 (fl.flatMap fun x => fxL (id x) 4))) ++ varV 160) ++ varV 6):=hide (by
  rw [show attrF (AtA.d ⟨nm,6,f,i,s,(ty,ds,fs,is,bs),⟨pd,cd,pf,cf,pi,ci,pb,cb⟩,fl,qf,cf',li,qi,ci'⟩) = wordF 1 nm ++ (if fl.length = 0 then [] else [blkF 7 (fl.flatMap fun y => fxL y 4)]) ++ [numF 20 6] from rfl,if_neg (by omega),msg_app,msg_app,msg_one,msg_one,field_num 20 6]
  simp only [List.append_assoc]; rfl)
 obtain ⟨VF,hVF⟩:∃ V,(fl.flatMap fun x => fxL (id x) 4) = V:=⟨_,rfl⟩
 rw [hVF] at hvf HV
 have HF:=hide hVF
 clear hVF
 have pz:(0:Int) < (VF.length:Int):=by omega
 have lf:VF.length ≤ 400000:=by omega
 clear hvf
 have CTk:=hide (fun p c b v hh hs => rblock_any 7 p c b v hh (by decide) (by decide) hs)
 have lv1:=fblk_len 7 VF
 obtain ⟨V1,hV1⟩:∃ V,fieldB (blkF 7 VF) = V:=⟨_,rfl⟩
 rw [hV1] at lv1 HV
 have HV1:=hide hV1
 clear hV1
 generalize varV 160 = Va at CTa lva HV
 generalize varV 6 = Vb at CTb lvb HV
 generalize msgB (wordF 1 nm) = V0 at CT0 lv0 HV
 rw [uh HV]
 obtain ⟨Q1,hQ1⟩:∃ Q,V0 ++ V1 = Q:=⟨_,rfl⟩
 have lQ1:Q1.length ≤ 200000 + 1 * 200000000:=by rw [← hQ1,List.length_append]; omega
 rw [hQ1]
 have HQ1:=hide hQ1
 clear hQ1
 obtain ⟨Q2,hQ2⟩:∃ Q,Q1 ++ Va = Q:=⟨_,rfl⟩
 have lQ2:Q2.length ≤ 200000 + 2 * 200000000:=by rw [← hQ2,List.length_append]; omega
 rw [hQ2]
 have HQ2:=hide hQ2
 clear hQ2
 unfold strV at CT0
 unfold atCells tenCells strV
 simp only [List.cons_append,List.nil_append]
 clear HV g1 g2 g5 g6 g7 g8 g9 g10
 go_enter Tryz.func76,Tryz.ntmps76
 go_wp2_with fail
 obtain ⟨W,hW⟩:∃ W,(w.alloc (Obj.cells #[.string (strOfNums nm),.int .i64 6,.int .u32 f,.int .i64 i,.string (strOfNums s),.int .i64 ty,.slice pd ds.length cd,.slice pf fs.length cf,.slice pi is.length ci,.slice pb bs.length cb,.slice qf fl.length cf',.slice qi li.length ci'] 86)) = W:=⟨_,rfl⟩
 have BX:Hid (Box W w.heap.size #[.string (strOfNums nm),.int .i64 6,.int .u32 f,.int .i64 i,.string (strOfNums s),.int .i64 ty,.slice pd ds.length cd,.slice pf fs.length cf,.slice pi is.length ci,.slice pb bs.length cb,.slice qf fl.length cf',.slice qi li.length ci'] 86):=hide (by rw [← hW]; exact Box.new w _ _)
 have BW:Hid (Below w.heap.size w W):=hide (by rw [← hW]; exact al1p _ _)
 rw [hW]
 clear hW
 refine (uh CT0 _).mono ?_
 rintro e w1 ⟨v1,rfl,hO⟩
 obtain ⟨q1,d1,rfl,hl1,_⟩:=hO.form
 have L1:=hide hl1
 have O1:=hide hO.2
 clear hO hl1 CT0
 go_wp2_with (at_builtin; (refine wpList_append_ls rfl _ _ 22 rfl W 5 i1 (.int .u8 0) 1 Tryz.underlying22 hi1 y1 z1 b1 rfl (int_one .u8) _ [] rfl (OwnG.nil _ _ _ (uh O1)) q1 d1 V0 rfl (uh L1) (by simp only [List.length_nil]; unfold maxLen; omega) (by simp only [List.length_nil]; omega) ?_; intro vo wo O; rw [List.nil_append] at O; have xo:=((uh BX).below O.2).cell; have HO:=hide O; clear O))
 have BX7:=hide ((uh BX).below (uh HO).2)
 have B7:=hide (bl_tr (uh BW) (uh HO).2)
 clear xo
 go_loopw [4,5] (fun v iv wr => ∃ n:Nat,iv = .int .i64 n ∧ n ≤ fl.length ∧ Hid (OwnG 5 (Value.int .u8) wo wr v ((fl.take n).flatMap fun x => fxL (id x) 4))) (fun _ iv _ => fl.length - (intOf iv).toNat)
 case atStart => exact ⟨0,rfl,by omega,hide (OwnG.nil _ _ _ (Below.refl _ _))⟩
 case round =>
  obtain ⟨n,rfl,hn',O⟩:=hrel
  have x1:=((uh BX7).below (uh O).2).cell
  by_cases hlt:n < fl.length
  ·have hi:(n:Int) < (fl.length:Int):=by omega
   have wfx:=(uh IF).wf n hlt
   obtain ⟨b,o,rfl,hb,hc⟩:=((uh IF).below (bl_tr (uh B7) (uh O).2)).lies (by omega)
   have k1:=hc n hlt
   have HT:=hide (fx_next id 4 hlt)
   have hfl:((fl.take n).flatMap fun x => fxL (id x) 4).length ≤ n * 4:=by rw [fx_flat id 4,List.length_take,Nat.min_eq_left (by omega)]; exact Nat.le_refl _
   have hw:=wf_u32_iff wfx
   have u0:0 ≤ id (fl.getD n 0):=hw.1
   have u1:id (fl.getD n 0) < 18446744073709551616:=by have:=hw.2; simp only [id]; omega
   have hx:IntKind.u64.wrap (fl.getD n 0) = id (fl.getD n 0):=by rw [IntKind.wrap_u64]; simp only [id] at u0 u1 ⊢; omega
   clear hw
   have lv:(fxL (id (fl.getD n 0)) 4).length = 4:=fxL_length _ _
   have VX:=hide (fun v => rbytesOf_any (id (fl.getD n 0)) 4 v u0 u1 (by decide))
   generalize fl.getD n 0 = x at k1 HT VX lv hx
   generalize fxL (id x) 4 = V at HT VX lv
   generalize ((fl.take n).flatMap fun x => fxL (id x) 4) = Q at O HT hfl
   clear hc u0 u1 wfx
   have HLV:=hide lv
   clear lv
   go_wp2_with fail
   try rw [hx]
   refine (uh VX _).mono ?_
   rintro e w8 ⟨v8,rfl,hO⟩
   obtain ⟨q8,d8,rfl,hl8,_⟩:=hO.form
   have L8:=hide hl8
   have O8:=hide ((uh O).below hO.2)
   clear hO hl8 VX
   go_wp2_with (at_builtin; (refine wpList_append_ls rfl _ _ 22 rfl wo 5 i1 (.int .u8 0) 1 Tryz.underlying22 hi1 y1 z1 b1 rfl (int_one .u8) _ Q rfl (uh O8) q8 d8 V rfl (uh L8) (by rw [uh HLV]; unfold maxLen; omega) (by rw [uh HLV]; omega) ?_; intro v9 w9 O9; have HO9:=hide O9; clear O9))
   go_roundw
   case rel => exact ⟨n + 1,by go_num,by omega,hide (by rw [uh HT]; exact uh HO9)⟩
   case measure => simp [intOf]; omega
  ·have hi:¬ (n:Int) < (fl.length:Int):=by omega
   have HE:Hid (fl.take n = fl):=hide (List.take_of_length_le (by omega))
   obtain ⟨q8,d8,hv,hl8,_⟩:=(uh O).form
   rw [uh HE,uh HF] at hv hl8
   subst hv
   have L8:=hide hl8
   replace HO:=hide ((uh HO).below (uh O).2)
   clear hl8 O HE x1
   have xe:=((uh BX).below (uh HO).2).cell
   go_wp2_with fail
   refine (uh CTk q8 d8 VF _ (uh L8) (by omega)).mono ?_
   rintro e w2 ⟨v2,rfl,hO⟩
   rw [uh HV1] at hO
   obtain ⟨q2,d2,rfl,hl2,_⟩:=hO.form
   have L2:=hide hl2
   replace HO:=hide ((uh HO).below hO.2)
   clear hO hl2
   go_wp2_with (at_builtin; (refine wpList_append_ls rfl _ _ 22 rfl W 5 i1 (.int .u8 0) 1 Tryz.underlying22 hi1 y1 z1 b1 rfl (int_one .u8) _ V0 rfl (uh HO) q2 d2 V1 rfl (uh L2) (by unfold maxLen; omega) (by omega) ?_; intro vo2 wo2 O; rw [uh HQ1] at O; have xo2:=((uh BX).below O.2).cell; replace HO:=hide O; clear O))
   refine (uh CTa _).mono ?_
   rintro e wa ⟨va,rfl,hO⟩
   obtain ⟨qa,da,rfl,hla,_⟩:=hO.form
   have La:=hide hla
   replace HO:=hide ((uh HO).below hO.2)
   clear hO hla
   go_wp2_with (at_builtin; (refine wpList_append_ls rfl _ _ 22 rfl W 5 i1 (.int .u8 0) 1 Tryz.underlying22 hi1 y1 z1 b1 rfl (int_one .u8) _ Q1 rfl (uh HO) qa da Va rfl (uh La) (by unfold maxLen; omega) (by omega) ?_; intro voa woa O; rw [uh HQ2] at O; have xoa:=((uh BX).below O.2).cell; replace HO:=hide O; clear O))
   try rw [show IntKind.u64.wrap 6 = 6 from rfl]
   refine (uh CTb _).mono ?_
   rintro e wb ⟨vb,rfl,hO⟩
   obtain ⟨qb,db,rfl,hlb,_⟩:=hO.form
   have Lb:=hide hlb
   replace HO:=hide ((uh HO).below hO.2)
   clear hO hlb
   go_wp2_with (at_builtin; (refine wpList_append_ls rfl _ _ 22 rfl W 5 i1 (.int .u8 0) 1 Tryz.underlying22 hi1 y1 z1 b1 rfl (int_one .u8) _ Q2 rfl (uh HO) qb db Vb rfl (uh Lb) (by unfold maxLen; omega) (by omega) ?_; intro vob wob O; have xob:=((uh BX).below O.2).cell; replace HO:=hide O; clear O))
   go_ret
   exact ⟨_,rfl,OwnG.onto (uh BW) (uh HO)⟩
theorem rattrOf_6e (a:AtA) {B:Nat} (w:World) (h:AtIn B w a) (hm:AtSm a) (hk:a.kd = 6) (hz:a.fl.length = 0) :
  Calls Tryz.prog 76 #[.agg (atCells a).toArray] w fun e w' => ∃ v,e = .returned v ∧ OwnG 5 (Value.int .u8) w w' v (msgB (attrF a.d)):=by
 obtain ⟨i1,hi1,y1,z1,b1⟩:=info_parts Tryz.infoU8
 obtain ⟨nm,kd,f,i,s,⟨ty,ds,fs,is,bs⟩,⟨pd,cd,pf,cf,pi,ci,pb,cb⟩,fl,qf,cf',li,qi,ci'⟩:=a
 obtain ⟨g1,g2,g3,g4,g5,g6,⟨g7,g8⟩,g9,g10⟩:=h
 obtain ⟨m1,m2,m3,m4,m5,m6,m7,m8⟩:=hm
 simp only at hk g1 g3 g4 g5 g6 g7 g9 m1 m2 m3 m4 m5 m6 m7 m8
 subst hk
 have TI:=hide g6.1
 have IF:=hide g7
 have II:=hide g9
 have HS5:=hide g5
 have CT0:=hide (fun v => rword_any 1 nm v g1 (by decide) (by decide) (by omega))
 have lv0:=word_len 1 nm
 have CTa:=hide (fun v => rvarint_any 160 v (by decide) (by decide))
 have lva:=(varV_len 160).2
 have CTb:=hide (fun v => rvarint_any 6 v (by decide) (by decide))
 have lvb:=(varV_len 6).2
 simp only at hz
 have hvf:(fl.flatMap fun x => fxL (id x) 4).length = fl.length * 4:=fx_flat id 4 fl
 have HV:Hid (msgB (attrF (AtA.d ⟨nm,6,f,i,s,(ty,ds,fs,is,bs),⟨pd,cd,pf,cf,pi,ci,pb,cb⟩,fl,qf,cf',li,qi,ci'⟩)) = (msgB (wordF 1 nm) ++ varV 160) ++ varV 6):=hide (by
  rw [show attrF (AtA.d ⟨nm,6,f,i,s,(ty,ds,fs,is,bs),⟨pd,cd,pf,cf,pi,ci,pb,cb⟩,fl,qf,cf',li,qi,ci'⟩) = wordF 1 nm ++ (if fl.length = 0 then [] else [blkF 7 (fl.flatMap fun y => fxL y 4)]) ++ [numF 20 6] from rfl,if_pos hz,msg_app,msg_app,msg_one,field_num 20 6]
  simp only [List.append_assoc]; rfl)
 obtain ⟨VF,hVF⟩:∃ V,(fl.flatMap fun x => fxL (id x) 4) = V:=⟨_,rfl⟩
 rw [hVF] at hvf
 have HF:=hide hVF
 clear hVF
 have pz:¬ (0:Int) < (VF.length:Int):=by rw [hvf]; omega
 have hz':fl.length ≤ 0:=by omega
 clear hvf hz
 generalize varV 160 = Va at CTa lva HV
 generalize varV 6 = Vb at CTb lvb HV
 generalize msgB (wordF 1 nm) = V0 at CT0 lv0 HV
 rw [uh HV]
 obtain ⟨Q1,hQ1⟩:∃ Q,V0 ++ Va = Q:=⟨_,rfl⟩
 have lQ1:Q1.length ≤ 200000 + 1 * 200000000:=by rw [← hQ1,List.length_append]; omega
 rw [hQ1]
 have HQ1:=hide hQ1
 clear hQ1
 unfold strV at CT0
 unfold atCells tenCells strV
 simp only [List.cons_append,List.nil_append]
 clear HV g1 g2 g5 g6 g7 g8 g9 g10
 go_enter Tryz.func76,Tryz.ntmps76
 go_wp2_with fail
 obtain ⟨W,hW⟩:∃ W,(w.alloc (Obj.cells #[.string (strOfNums nm),.int .i64 6,.int .u32 f,.int .i64 i,.string (strOfNums s),.int .i64 ty,.slice pd ds.length cd,.slice pf fs.length cf,.slice pi is.length ci,.slice pb bs.length cb,.slice qf fl.length cf',.slice qi li.length ci'] 86)) = W:=⟨_,rfl⟩
 have BX:Hid (Box W w.heap.size #[.string (strOfNums nm),.int .i64 6,.int .u32 f,.int .i64 i,.string (strOfNums s),.int .i64 ty,.slice pd ds.length cd,.slice pf fs.length cf,.slice pi is.length ci,.slice pb bs.length cb,.slice qf fl.length cf',.slice qi li.length ci'] 86):=hide (by rw [← hW]; exact Box.new w _ _)
 have BW:Hid (Below w.heap.size w W):=hide (by rw [← hW]; exact al1p _ _)
 rw [hW]
 clear hW
 refine (uh CT0 _).mono ?_
 rintro e w1 ⟨v1,rfl,hO⟩
 obtain ⟨q1,d1,rfl,hl1,_⟩:=hO.form
 have L1:=hide hl1
 have O1:=hide hO.2
 clear hO hl1 CT0
 go_wp2_with (at_builtin; (refine wpList_append_ls rfl _ _ 22 rfl W 5 i1 (.int .u8 0) 1 Tryz.underlying22 hi1 y1 z1 b1 rfl (int_one .u8) _ [] rfl (OwnG.nil _ _ _ (uh O1)) q1 d1 V0 rfl (uh L1) (by simp only [List.length_nil]; unfold maxLen; omega) (by simp only [List.length_nil]; omega) ?_; intro vo wo O; rw [List.nil_append] at O; have xo:=((uh BX).below O.2).cell; have HO:=hide O; clear O))
 have BX7:=hide ((uh BX).below (uh HO).2)
 have B7:=hide (bl_tr (uh BW) (uh HO).2)
 clear xo
 go_loopw [4,5] (fun v iv wr => ∃ n:Nat,iv = .int .i64 n ∧ n ≤ fl.length ∧ Hid (OwnG 5 (Value.int .u8) wo wr v ((fl.take n).flatMap fun x => fxL (id x) 4))) (fun _ iv _ => fl.length - (intOf iv).toNat)
 case atStart => exact ⟨0,rfl,by omega,hide (OwnG.nil _ _ _ (Below.refl _ _))⟩
 case round =>
  obtain ⟨n,rfl,hn',O⟩:=hrel
  have x1:=((uh BX7).below (uh O).2).cell
  by_cases hlt:n < fl.length
  ·exact absurd hlt (by omega)
  ·have hi:¬ (n:Int) < (fl.length:Int):=by omega
   have HE:Hid (fl.take n = fl):=hide (List.take_of_length_le (by omega))
   obtain ⟨q8,d8,hv,hl8,_⟩:=(uh O).form
   rw [uh HE,uh HF] at hv hl8
   subst hv
   have L8:=hide hl8
   replace HO:=hide ((uh HO).below (uh O).2)
   clear hl8 O HE x1
   have xe:=((uh BX).below (uh HO).2).cell
   go_wp2_with fail
   refine (uh CTa _).mono ?_
   rintro e wa ⟨va,rfl,hO⟩
   obtain ⟨qa,da,rfl,hla,_⟩:=hO.form
   have La:=hide hla
   replace HO:=hide ((uh HO).below hO.2)
   clear hO hla
   go_wp2_with (at_builtin; (refine wpList_append_ls rfl _ _ 22 rfl W 5 i1 (.int .u8 0) 1 Tryz.underlying22 hi1 y1 z1 b1 rfl (int_one .u8) _ V0 rfl (uh HO) qa da Va rfl (uh La) (by unfold maxLen; omega) (by omega) ?_; intro voa woa O; rw [uh HQ1] at O; have xoa:=((uh BX).below O.2).cell; replace HO:=hide O; clear O))
   try rw [show IntKind.u64.wrap 6 = 6 from rfl]
   refine (uh CTb _).mono ?_
   rintro e wb ⟨vb,rfl,hO⟩
   obtain ⟨qb,db,rfl,hlb,_⟩:=hO.form
   have Lb:=hide hlb
   replace HO:=hide ((uh HO).below hO.2)
   clear hO hlb
   go_wp2_with (at_builtin; (refine wpList_append_ls rfl _ _ 22 rfl W 5 i1 (.int .u8 0) 1 Tryz.underlying22 hi1 y1 z1 b1 rfl (int_one .u8) _ Q1 rfl (uh HO) qb db Vb rfl (uh Lb) (by unfold maxLen; omega) (by omega) ?_; intro vob wob O; have xob:=((uh BX).below O.2).cell; replace HO:=hide O; clear O))
   go_ret
   exact ⟨_,rfl,OwnG.onto (uh BW) (uh HO)⟩
theorem rattrOf_any (a:AtA) {B:Nat} (w:World) (h:AtIn B w a) (hm:AtSm a) (hk:a.kd = 1 ∨ a.kd = 2 ∨ a.kd = 3 ∨ a.kd = 4 ∨ a.kd = 6 ∨ a.kd = 7) :
  Calls Tryz.prog 76 #[.agg (atCells a).toArray] w fun e w' => ∃ v,e = .returned v ∧ OwnG 5 (Value.int .u8) w w' v (msgB (attrF a.d)):=by
 rcases hk with hk | hk | hk | hk | hk | hk
 ·exact rattrOf_1 a w h hm hk
 ·exact rattrOf_2 a w h hm hk
 ·exact rattrOf_3 a w h hm hk
 ·exact rattrOf_4 a w h hm hk
 ·by_cases hz:a.fl.length = 0
  ·exact rattrOf_6e a w h hm hk hz
  ·exact rattrOf_6 a w h hm hk (by omega)
 ·exact rattrOf_7 a w h hm hk
theorem cattr1_any (gin ga B:Nat) (a:AtA) (w:World) (hW:WrIn gin w []) (hb:Box w ga (atCells a).toArray 86) (hi:TenT B w a.T a.A) (hB:B ≤ gin) (hs:TenWr a.T) :
  Calls Tryz.prog 209 #[.pointer (some ⟨gin,0,none⟩),.pointer (some ⟨ga,0,none⟩)] w fun e w' => WEnd gin w (tensF [] a.T) e w':=by
 have C1:=hide (cinit_any gin [] ⟨[],a.T,a.A⟩ w hW (B:=B) ⟨(fun c hc => by cases hc),hi⟩ hB (by simp) hs)
 rw [List.nil_append] at C1
 simp only at C1
 have x0:=hb.cell
 generalize tensF [] a.T = F at C1 ⊢
 clear hW hb hi hs
 obtain ⟨nm,kd,f,i,s,⟨ty,ds,fs,is,bs⟩,⟨pd,cd,pf,cf,pi,ci,pb,cb⟩,fl,qf,cf',li,qi,ci'⟩:=a
 unfold inCells tenCells strV at C1
 unfold atCells tenCells strV at x0
 simp only [List.cons_append,List.nil_append,str_nil7] at C1 x0
 go_enter Tryz.func209,Tryz.ntmps209
 go_wp2_with fail
 refine (uh C1).mono ?_
 rintro e v ⟨rfl,hv1,hv2⟩
 have H1:=hide hv1
 have H2:=hide hv2
 clear hv1 hv2
 go_wp2_with fail
 go_end0
 exact ⟨rfl,uh H1,uh H2⟩
theorem atsm_wr {a:AtA} (h:AtSm a):TenWr a.T:=⟨h.2.2.2.2.1,h.2.2.2.2.2.1,h.2.2.2.2.2.2.1,h.2.2.2.2.2.2.2⟩
theorem cattr_1 (g:Nat) (fs0:List Fld) (a:AtA) {B:Nat} (w:World) (hW:WrIn g w fs0) (h:AtIn B w a) (hB:B ≤ g) (hm:AtSm a) (hk:a.kd = 1) :
  Calls Tryz.prog 152 #[.pointer (some ⟨g,0,none⟩),.agg (atCells a).toArray] w fun e w' => WEnd g w (fs0 ++ attrF a.d) e w':=by
 have HI:=hide (fun v (hv:KeptW g w v) => h.kept tenTS_in (hv.model hB))
 have HW:=hide hW
 have gl:=hW.lt
 have C1:=hide (fun v fs (hv:WrIn g v fs) => cname_any g fs 1 a.nm v hv h.1 (by decide) (by decide) (by have:=hm.1; omega))
 have CZ:=hide (fun v fs (hv:WrIn g v fs) => cnumber_any g fs 20 1 v hv (by decide) (by decide))
 have C2:=hide (fun v fs (hv:WrIn g v fs) => cfloat_any g fs 2 a.f v hv (by decide) (by decide) (wf_u32_iff h.2.2.1).1 (wf_u32_iff h.2.2.1).2)
 have HV:Hid (fs0 ++ attrF a.d = fs0 ++ wordF 1 a.nm ++ [((2:Int),(5:Int),a.f,[])] ++ [numF 20 (u64w 1)]):=hide (by unfold attrF AtA.d; simp only [hk]; simp only [List.append_assoc]; rfl)
 rw [uh HV]
 clear HV hW h hm HI
 obtain ⟨nm,kd,f,i,s,⟨ty,ds,fs,is,bs⟩,⟨pd,cd,pf,cf,pi,ci,pb,cb⟩,fl,qf,cf',li,qi,ci'⟩:=a
 simp only at hk
 subst hk
 simp only at C1 CZ C2 ⊢
 generalize [((2:Int),(5:Int),f,[])] = F2 at C2 ⊢
 generalize wordF 1 nm = F1 at C1 ⊢
 generalize numF 20 (u64w 1) = F3' at CZ ⊢
 unfold strV at C1
 unfold atCells tenCells strV
 simp only [List.cons_append,List.nil_append]
 go_enter Tryz.func152,Tryz.ntmps152
 go_wp2_with fail
 obtain ⟨W,hWe⟩:∃ W,(w.alloc (Obj.cells #[.string (strOfNums nm),.int .i64 1,.int .u32 f,.int .i64 i,.string (strOfNums s),.int .i64 ty,.slice pd ds.length cd,.slice pf fs.length cf,.slice pi is.length ci,.slice pb bs.length cb,.slice qf fl.length cf',.slice qi li.length ci'] 86)) = W:=⟨_,rfl⟩
 have BX:Hid (Box W w.heap.size #[.string (strOfNums nm),.int .i64 1,.int .u32 f,.int .i64 i,.string (strOfNums s),.int .i64 ty,.slice pd ds.length cd,.slice pf fs.length cf,.slice pi is.length ci,.slice pb bs.length cb,.slice qf fl.length cf',.slice qi li.length ci'] 86):=hide (by rw [← hWe]; exact Box.new w _ _)
 have K0:Hid (KeptW g w W):=hide (by rw [← hWe]; exact KeptW.below (al1p _ _) (by omega))
 have V0:Hid (WrIn g W fs0):=hide (by rw [← hWe]; exact (uh HW).below (al1p _ _))
 have X0:Hid (KeptW g W W):=hide (KeptW.refl _ _)
 rw [hWe]
 clear hWe HW
 refine (uh C1 _ _ (uh V0)).mono ?_
 rintro e w1 ⟨rfl,hv1,hv2⟩
 have V1:=hide hv1
 have X1:=hide ((uh X0).trans hv2)
 have K1:=hide ((uh K0).trans (uh X1))
 have x1:=((uh X1).box (by decide) (by decide) (uh BX)).cell
 clear hv1 hv2
 go_wp2_with fail
 refine (uh C2 _ _ (uh V1)).mono ?_
 rintro e w2 ⟨rfl,hv1,hv2⟩
 have V2:=hide hv1
 have X2:=hide ((uh X1).trans hv2)
 have K2:=hide ((uh K0).trans (uh X2))
 have x2:=((uh X2).box (by decide) (by decide) (uh BX)).cell
 clear hv1 hv2
 go_wp2_with fail
 refine (uh CZ _ _ (uh V2)).mono ?_
 rintro e w3 ⟨rfl,hv1,hv2⟩
 have V3:=hide hv1
 have X3:=hide ((uh X2).trans hv2)
 have K3:=hide ((uh K0).trans (uh X3))
 have x3:=((uh X3).box (by decide) (by decide) (uh BX)).cell
 clear hv1 hv2
 go_wp2_with fail
 go_end0
 exact ⟨rfl,uh V3,uh K3⟩
theorem cattr_2 (g:Nat) (fs0:List Fld) (a:AtA) {B:Nat} (w:World) (hW:WrIn g w fs0) (h:AtIn B w a) (hB:B ≤ g) (hm:AtSm a) (hk:a.kd = 2) :
  Calls Tryz.prog 152 #[.pointer (some ⟨g,0,none⟩),.agg (atCells a).toArray] w fun e w' => WEnd g w (fs0 ++ attrF a.d) e w':=by
 have HI:=hide (fun v (hv:KeptW g w v) => h.kept tenTS_in (hv.model hB))
 have HW:=hide hW
 have gl:=hW.lt
 have C1:=hide (fun v fs (hv:WrIn g v fs) => cname_any g fs 1 a.nm v hv h.1 (by decide) (by decide) (by have:=hm.1; omega))
 have CZ:=hide (fun v fs (hv:WrIn g v fs) => cnumber_any g fs 20 2 v hv (by decide) (by decide))
 have C2:=hide (fun v fs (hv:WrIn g v fs) => cnumber_any g fs 3 a.i v hv (by decide) (by decide))
 have HV:Hid (fs0 ++ attrF a.d = fs0 ++ wordF 1 a.nm ++ [numF 3 (u64w a.i)] ++ [numF 20 (u64w 2)]):=hide (by unfold attrF AtA.d; simp only [hk]; simp only [List.append_assoc]; rfl)
 rw [uh HV]
 clear HV hW h hm HI
 obtain ⟨nm,kd,f,i,s,⟨ty,ds,fs,is,bs⟩,⟨pd,cd,pf,cf,pi,ci,pb,cb⟩,fl,qf,cf',li,qi,ci'⟩:=a
 simp only at hk
 subst hk
 simp only at C1 CZ C2 ⊢
 generalize [numF 3 (u64w i)] = F2 at C2 ⊢
 generalize wordF 1 nm = F1 at C1 ⊢
 generalize numF 20 (u64w 2) = F3' at CZ ⊢
 unfold strV at C1
 unfold atCells tenCells strV
 simp only [List.cons_append,List.nil_append]
 go_enter Tryz.func152,Tryz.ntmps152
 go_wp2_with fail
 obtain ⟨W,hWe⟩:∃ W,(w.alloc (Obj.cells #[.string (strOfNums nm),.int .i64 2,.int .u32 f,.int .i64 i,.string (strOfNums s),.int .i64 ty,.slice pd ds.length cd,.slice pf fs.length cf,.slice pi is.length ci,.slice pb bs.length cb,.slice qf fl.length cf',.slice qi li.length ci'] 86)) = W:=⟨_,rfl⟩
 have BX:Hid (Box W w.heap.size #[.string (strOfNums nm),.int .i64 2,.int .u32 f,.int .i64 i,.string (strOfNums s),.int .i64 ty,.slice pd ds.length cd,.slice pf fs.length cf,.slice pi is.length ci,.slice pb bs.length cb,.slice qf fl.length cf',.slice qi li.length ci'] 86):=hide (by rw [← hWe]; exact Box.new w _ _)
 have K0:Hid (KeptW g w W):=hide (by rw [← hWe]; exact KeptW.below (al1p _ _) (by omega))
 have V0:Hid (WrIn g W fs0):=hide (by rw [← hWe]; exact (uh HW).below (al1p _ _))
 have X0:Hid (KeptW g W W):=hide (KeptW.refl _ _)
 rw [hWe]
 clear hWe HW
 refine (uh C1 _ _ (uh V0)).mono ?_
 rintro e w1 ⟨rfl,hv1,hv2⟩
 have V1:=hide hv1
 have X1:=hide ((uh X0).trans hv2)
 have K1:=hide ((uh K0).trans (uh X1))
 have x1:=((uh X1).box (by decide) (by decide) (uh BX)).cell
 clear hv1 hv2
 go_wp2_with fail
 refine (uh C2 _ _ (uh V1)).mono ?_
 rintro e w2 ⟨rfl,hv1,hv2⟩
 have V2:=hide hv1
 have X2:=hide ((uh X1).trans hv2)
 have K2:=hide ((uh K0).trans (uh X2))
 have x2:=((uh X2).box (by decide) (by decide) (uh BX)).cell
 clear hv1 hv2
 go_wp2_with fail
 refine (uh CZ _ _ (uh V2)).mono ?_
 rintro e w3 ⟨rfl,hv1,hv2⟩
 have V3:=hide hv1
 have X3:=hide ((uh X2).trans hv2)
 have K3:=hide ((uh K0).trans (uh X3))
 have x3:=((uh X3).box (by decide) (by decide) (uh BX)).cell
 clear hv1 hv2
 go_wp2_with fail
 go_end0
 exact ⟨rfl,uh V3,uh K3⟩
theorem cattr_3 (g:Nat) (fs0:List Fld) (a:AtA) {B:Nat} (w:World) (hW:WrIn g w fs0) (h:AtIn B w a) (hB:B ≤ g) (hm:AtSm a) (hk:a.kd = 3) :
  Calls Tryz.prog 152 #[.pointer (some ⟨g,0,none⟩),.agg (atCells a).toArray] w fun e w' => WEnd g w (fs0 ++ attrF a.d) e w':=by
 have HI:=hide (fun v (hv:KeptW g w v) => h.kept tenTS_in (hv.model hB))
 have HW:=hide hW
 have gl:=hW.lt
 have C1:=hide (fun v fs (hv:WrIn g v fs) => cname_any g fs 1 a.nm v hv h.1 (by decide) (by decide) (by have:=hm.1; omega))
 have CZ:=hide (fun v fs (hv:WrIn g v fs) => cnumber_any g fs 20 3 v hv (by decide) (by decide))
 have C2:=hide (fun v fs p c (hv:WrIn g v fs) (hb:Ls (Value.int .u8) v p c a.s) => cdata_any g fs 4 p c a.s v hv (hb.ints (isB_wf h.2.2.2.2.1)) (by decide) (by decide) (by have:=hm.2.1; omega))
 have kc:=fun (w:World) (b:ByteArray) => Go.Lib.run_convert_string_bytes (P:=Tryz.prog) w 9 22 5 b Tryz.underlying9 Tryz.underlying22 Tryz.underlying5
 have hB2:=hide (fun v => below_bytes v 5 (strOfNums a.s))
 have HL:=hide (fun v => ls_bytes (w:=v) (e:=5) h.2.2.2.2.1 (by have:=hm.2.1; omega))
 have hlen:=str_len a.s
 have HV:Hid (fs0 ++ attrF a.d = fs0 ++ wordF 1 a.nm ++ [blkF 4 a.s] ++ [numF 20 (u64w 3)]):=hide (by unfold attrF AtA.d; simp only [hk]; simp only [List.append_assoc]; rfl)
 rw [uh HV]
 clear HV hW h hm HI
 obtain ⟨nm,kd,f,i,s,⟨ty,ds,fs,is,bs⟩,⟨pd,cd,pf,cf,pi,ci,pb,cb⟩,fl,qf,cf',li,qi,ci'⟩:=a
 simp only at hk
 subst hk
 simp only at C1 CZ C2 ⊢
 generalize [blkF 4 s] = F2 at C2 ⊢
 generalize wordF 1 nm = F1 at C1 ⊢
 generalize numF 20 (u64w 3) = F3' at CZ ⊢
 unfold strV at C1
 unfold atCells tenCells strV
 simp only [List.cons_append,List.nil_append]
 go_enter Tryz.func152,Tryz.ntmps152
 go_wp2_with fail
 obtain ⟨W,hWe⟩:∃ W,(w.alloc (Obj.cells #[.string (strOfNums nm),.int .i64 3,.int .u32 f,.int .i64 i,.string (strOfNums s),.int .i64 ty,.slice pd ds.length cd,.slice pf fs.length cf,.slice pi is.length ci,.slice pb bs.length cb,.slice qf fl.length cf',.slice qi li.length ci'] 86)) = W:=⟨_,rfl⟩
 have BX:Hid (Box W w.heap.size #[.string (strOfNums nm),.int .i64 3,.int .u32 f,.int .i64 i,.string (strOfNums s),.int .i64 ty,.slice pd ds.length cd,.slice pf fs.length cf,.slice pi is.length ci,.slice pb bs.length cb,.slice qf fl.length cf',.slice qi li.length ci'] 86):=hide (by rw [← hWe]; exact Box.new w _ _)
 have K0:Hid (KeptW g w W):=hide (by rw [← hWe]; exact KeptW.below (al1p _ _) (by omega))
 have V0:Hid (WrIn g W fs0):=hide (by rw [← hWe]; exact (uh HW).below (al1p _ _))
 have X0:Hid (KeptW g W W):=hide (KeptW.refl _ _)
 rw [hWe]
 clear hWe HW
 refine (uh C1 _ _ (uh V0)).mono ?_
 rintro e w1 ⟨rfl,hv1,hv2⟩
 have V1:=hide hv1
 have X1:=hide ((uh X0).trans hv2)
 have K1:=hide ((uh K0).trans (uh X1))
 have x1:=((uh X1).box (by decide) (by decide) (uh BX)).cell
 clear hv1 hv2
 go_wp2_with fail
 have V2:=hide ((uh V1).below (uh hB2 w1))
 have X2:=hide ((uh X1).trans (KeptW.below (uh hB2 w1) (Nat.le_of_lt (uh V1).lt)))
 refine (uh C2 _ _ _ _ (uh V2) (uh HL w1)).mono ?_
 rintro e w3 ⟨rfl,hv1,hv2⟩
 have V3:=hide hv1
 have X3:=hide ((uh X2).trans hv2)
 have K3:=hide ((uh K0).trans (uh X3))
 have x3:=((uh X3).box (by decide) (by decide) (uh BX)).cell
 clear hv1 hv2
 go_wp2_with fail
 refine (uh CZ _ _ (uh V3)).mono ?_
 rintro e w4 ⟨rfl,hv1,hv2⟩
 have V4:=hide hv1
 have X4:=hide ((uh X3).trans hv2)
 have K4:=hide ((uh K0).trans (uh X4))
 have x4:=((uh X4).box (by decide) (by decide) (uh BX)).cell
 clear hv1 hv2
 go_wp2_with fail
 go_end0
 exact ⟨rfl,uh V4,uh K4⟩
theorem cattr_4 (g:Nat) (fs0:List Fld) (a:AtA) {B:Nat} (w:World) (hW:WrIn g w fs0) (h:AtIn B w a) (hB:B ≤ g) (hm:AtSm a) (hk:a.kd = 4) :
  Calls Tryz.prog 152 #[.pointer (some ⟨g,0,none⟩),.agg (atCells a).toArray] w fun e w' => WEnd g w (fs0 ++ attrF a.d) e w':=by
 have HI:=hide (fun v (hv:KeptW g w v) => h.kept tenTS_in (hv.model hB))
 have HW:=hide hW
 have gl:=hW.lt
 have C1:=hide (fun v fs (hv:WrIn g v fs) => cname_any g fs 1 a.nm v hv h.1 (by decide) (by decide) (by have:=hm.1; omega))
 have CZ:=hide (fun v fs (hv:WrIn g v fs) => cnumber_any g fs 20 4 v hv (by decide) (by decide))
 have C2:=hide (fun v (hv:KeptW g w v) fs ga (hb:Box v ga (atCells a).toArray 86) (hw:WrIn g v fs) => cinner_any g fs (tensF [] a.T) 5 209 (ent_of Tryz.func209 (by kernel_rfl) rfl) #[.pointer (some ⟨ga,0,none⟩)] v hw (fun u gi hu hg hwi => cattr1_any gi ga B a u hwi (hb.below hu) ((uh HI v hv).2.2.2.2.2.1.kept tenTS_in (Kept.below hu)) (by have:=hw.lt; omega) (atsm_wr hm)) (by decide) (by decide))
 have HV:Hid (fs0 ++ attrF a.d = fs0 ++ wordF 1 a.nm ++ [blkF 5 (msgB (tensF [] a.T))] ++ [numF 20 (u64w 4)]):=hide (by unfold attrF AtA.d; simp only [hk]; simp only [List.append_assoc]; rfl)
 rw [uh HV]
 clear HV hW h hm HI
 obtain ⟨nm,kd,f,i,s,⟨ty,ds,fs,is,bs⟩,⟨pd,cd,pf,cf,pi,ci,pb,cb⟩,fl,qf,cf',li,qi,ci'⟩:=a
 simp only at hk
 subst hk
 simp only at C1 CZ ⊢
 generalize [blkF 5 (msgB (tensF [] (ty,ds,fs,is,bs)))] = F2 at C2 ⊢
 unfold atCells tenCells strV at C2
 simp only [List.cons_append,List.nil_append] at C2
 generalize wordF 1 nm = F1 at C1 ⊢
 generalize numF 20 (u64w 4) = F3' at CZ ⊢
 unfold strV at C1
 unfold atCells tenCells strV
 simp only [List.cons_append,List.nil_append]
 go_enter Tryz.func152,Tryz.ntmps152
 go_wp2_with fail
 obtain ⟨W,hWe⟩:∃ W,(w.alloc (Obj.cells #[.string (strOfNums nm),.int .i64 4,.int .u32 f,.int .i64 i,.string (strOfNums s),.int .i64 ty,.slice pd ds.length cd,.slice pf fs.length cf,.slice pi is.length ci,.slice pb bs.length cb,.slice qf fl.length cf',.slice qi li.length ci'] 86)) = W:=⟨_,rfl⟩
 have BX:Hid (Box W w.heap.size #[.string (strOfNums nm),.int .i64 4,.int .u32 f,.int .i64 i,.string (strOfNums s),.int .i64 ty,.slice pd ds.length cd,.slice pf fs.length cf,.slice pi is.length ci,.slice pb bs.length cb,.slice qf fl.length cf',.slice qi li.length ci'] 86):=hide (by rw [← hWe]; exact Box.new w _ _)
 have K0:Hid (KeptW g w W):=hide (by rw [← hWe]; exact KeptW.below (al1p _ _) (by omega))
 have V0:Hid (WrIn g W fs0):=hide (by rw [← hWe]; exact (uh HW).below (al1p _ _))
 have X0:Hid (KeptW g W W):=hide (KeptW.refl _ _)
 rw [hWe]
 clear hWe HW
 refine (uh C1 _ _ (uh V0)).mono ?_
 rintro e w1 ⟨rfl,hv1,hv2⟩
 have V1:=hide hv1
 have X1:=hide ((uh X0).trans hv2)
 have K1:=hide ((uh K0).trans (uh X1))
 have x1:=((uh X1).box (by decide) (by decide) (uh BX)).cell
 clear hv1 hv2
 go_wp2_with fail
 refine (uh C2 _ (uh K1) _ _ ((uh X1).box (by decide) (by decide) (uh BX)) (uh V1)).mono ?_
 rintro e w2 ⟨rfl,hv1,hv2⟩
 have V2:=hide hv1
 have X2:=hide ((uh X1).trans hv2)
 have K2:=hide ((uh K0).trans (uh X2))
 have x2:=((uh X2).box (by decide) (by decide) (uh BX)).cell
 clear hv1 hv2
 go_wp2_with fail
 refine (uh CZ _ _ (uh V2)).mono ?_
 rintro e w3 ⟨rfl,hv1,hv2⟩
 have V3:=hide hv1
 have X3:=hide ((uh X2).trans hv2)
 have K3:=hide ((uh K0).trans (uh X3))
 have x3:=((uh X3).box (by decide) (by decide) (uh BX)).cell
 clear hv1 hv2
 go_wp2_with fail
 go_end0
 exact ⟨rfl,uh V3,uh K3⟩
theorem cattr_6 (g:Nat) (fs0:List Fld) (a:AtA) {B:Nat} (w:World) (hW:WrIn g w fs0) (h:AtIn B w a) (hB:B ≤ g) (hm:AtSm a) (hk:a.kd = 6) :
  Calls Tryz.prog 152 #[.pointer (some ⟨g,0,none⟩),.agg (atCells a).toArray] w fun e w' => WEnd g w (fs0 ++ attrF a.d) e w':=by
 have HI:=hide (fun v (hv:KeptW g w v) => h.kept tenTS_in (hv.model hB))
 have HW:=hide hW
 have gl:=hW.lt
 have C1:=hide (fun v fs (hv:WrIn g v fs) => cname_any g fs 1 a.nm v hv h.1 (by decide) (by decide) (by have:=hm.1; omega))
 have CZ:=hide (fun v fs (hv:WrIn g v fs) => cnumber_any g fs 20 6 v hv (by decide) (by decide))
 have C2:=hide (fun v (hv:KeptW g w v) => claiduint32_any 211 (ent_of Tryz.func211 (by kernel_rfl) rfl) (fun x => fxL x 4) (fun x => by rw [fxL_length]; omega) a.qf a.cf a.fl v (uh HI v hv).2.2.2.2.2.2.1.1.ls (by have:=hm.2.2.1; omega) (fun u x hx => cfloatB_any x u (wf_u32_iff (h.2.2.2.2.2.2.1.1.2.2.1 x hx)).1 (wf_u32_iff (h.2.2.2.2.2.2.1.1.2.2.1 x hx)).2))
 have C3:=hide (fun v fs p c (hv:WrIn g v fs) (hb:Ls (Value.int .u8) v p c (a.fl.flatMap fun x => fxL x 4)) => cfilled_any g fs 7 p c _ v hv (hb.ints (isB_wf (isB_flat fun x _ => fxL_isB _ _))) (by decide) (by decide) (by have:=fx_flat id 4 a.fl; have:=hm.2.2.1; simp only [id] at *; omega))
 rw [fill_fx] at C3
 have HV:Hid (fs0 ++ attrF a.d = fs0 ++ wordF 1 a.nm ++ (if a.fl.length = 0 then [] else [blkF 7 (a.fl.flatMap fun x => fxL x 4)]) ++ [numF 20 (u64w 6)]):=hide (by unfold attrF AtA.d; simp only [hk]; simp only [List.append_assoc]; rfl)
 rw [uh HV]
 clear HV hW h hm HI
 obtain ⟨nm,kd,f,i,s,⟨ty,ds,fs,is,bs⟩,⟨pd,cd,pf,cf,pi,ci,pb,cb⟩,fl,qf,cf',li,qi,ci'⟩:=a
 simp only at hk
 subst hk
 simp only at C1 CZ C2 C3 ⊢
 generalize (if fl.length = 0 then [] else [blkF 7 (fl.flatMap fun x => fxL x 4)]) = F2 at C3 ⊢
 generalize (fl.flatMap fun x => fxL x 4) = BV at C2 C3
 generalize wordF 1 nm = F1 at C1 ⊢
 generalize numF 20 (u64w 6) = F3' at CZ ⊢
 unfold strV at C1
 unfold atCells tenCells strV
 simp only [List.cons_append,List.nil_append]
 go_enter Tryz.func152,Tryz.ntmps152
 go_wp2_with fail
 obtain ⟨W,hWe⟩:∃ W,(w.alloc (Obj.cells #[.string (strOfNums nm),.int .i64 6,.int .u32 f,.int .i64 i,.string (strOfNums s),.int .i64 ty,.slice pd ds.length cd,.slice pf fs.length cf,.slice pi is.length ci,.slice pb bs.length cb,.slice qf fl.length cf',.slice qi li.length ci'] 86)) = W:=⟨_,rfl⟩
 have BX:Hid (Box W w.heap.size #[.string (strOfNums nm),.int .i64 6,.int .u32 f,.int .i64 i,.string (strOfNums s),.int .i64 ty,.slice pd ds.length cd,.slice pf fs.length cf,.slice pi is.length ci,.slice pb bs.length cb,.slice qf fl.length cf',.slice qi li.length ci'] 86):=hide (by rw [← hWe]; exact Box.new w _ _)
 have K0:Hid (KeptW g w W):=hide (by rw [← hWe]; exact KeptW.below (al1p _ _) (by omega))
 have V0:Hid (WrIn g W fs0):=hide (by rw [← hWe]; exact (uh HW).below (al1p _ _))
 have X0:Hid (KeptW g W W):=hide (KeptW.refl _ _)
 rw [hWe]
 clear hWe HW
 refine (uh C1 _ _ (uh V0)).mono ?_
 rintro e w1 ⟨rfl,hv1,hv2⟩
 have V1:=hide hv1
 have X1:=hide ((uh X0).trans hv2)
 have K1:=hide ((uh K0).trans (uh X1))
 have x1:=((uh X1).box (by decide) (by decide) (uh BX)).cell
 clear hv1 hv2
 go_wp2_with fail
 refine (uh C2 _ (uh K1)).mono ?_
 rintro e w2 ⟨r2,rfl,hO⟩
 obtain ⟨q2,d2,rfl,hl,_⟩:=hO.form
 have L2:=hide hl
 have V2:=hide ((uh V1).below hO.2)
 have X2:=hide ((uh X1).trans (KeptW.below hO.2 (Nat.le_of_lt (uh V1).lt)))
 have K2:=hide ((uh K0).trans (uh X2))
 have x2:=((uh X2).box (by decide) (by decide) (uh BX)).cell
 clear hO hl
 go_wp2_with fail
 refine (uh C3 _ _ q2 d2 (uh V2) (uh L2)).mono ?_
 rintro e w3 ⟨rfl,hv1,hv2⟩
 have V3:=hide hv1
 have X3:=hide ((uh X2).trans hv2)
 have K3:=hide ((uh K0).trans (uh X3))
 have x3:=((uh X3).box (by decide) (by decide) (uh BX)).cell
 clear hv1 hv2
 go_wp2_with fail
 refine (uh CZ _ _ (uh V3)).mono ?_
 rintro e w4 ⟨rfl,hv1,hv2⟩
 have V4:=hide hv1
 have X4:=hide ((uh X3).trans hv2)
 have K4:=hide ((uh K0).trans (uh X4))
 have x4:=((uh X4).box (by decide) (by decide) (uh BX)).cell
 clear hv1 hv2
 go_wp2_with fail
 go_end0
 exact ⟨rfl,uh V4,uh K4⟩
theorem cattr_7 (g:Nat) (fs0:List Fld) (a:AtA) {B:Nat} (w:World) (hW:WrIn g w fs0) (h:AtIn B w a) (hB:B ≤ g) (hm:AtSm a) (hk:a.kd = 7) :
  Calls Tryz.prog 152 #[.pointer (some ⟨g,0,none⟩),.agg (atCells a).toArray] w fun e w' => WEnd g w (fs0 ++ attrF a.d) e w':=by
 have HI:=hide (fun v (hv:KeptW g w v) => h.kept tenTS_in (hv.model hB))
 have HW:=hide hW
 have gl:=hW.lt
 have C1:=hide (fun v fs (hv:WrIn g v fs) => cname_any g fs 1 a.nm v hv h.1 (by decide) (by decide) (by have:=hm.1; omega))
 have CZ:=hide (fun v fs (hv:WrIn g v fs) => cnumber_any g fs 20 7 v hv (by decide) (by decide))
 have C2:=hide (fun v (hv:KeptW g w v) => claidint64_any 213 (ent_of Tryz.func213 (by kernel_rfl) rfl) (fun x => varV (u64w x)) (fun x => (varV_len _).2) a.qi a.ci a.is v (uh HI v hv).2.2.2.2.2.2.2.1.ls (by have:=hm.2.2.2.1; omega) (fun u x hx => cvarIint64_any x u))
 have C3:=hide (fun v fs p c (hv:WrIn g v fs) (hb:Ls (Value.int .u8) v p c (a.is.flatMap fun x => varV (u64w x))) => cfilled_any g fs 8 p c _ v hv (hb.ints (isB_wf (isB_flat fun x _ => varV_range (u64w_rng x).1 (u64w_rng x).2))) (by decide) (by decide) (by have:=var_flat a.is; have:=hm.2.2.2.1; omega))
 rw [fill_pack] at C3
 have HV:Hid (fs0 ++ attrF a.d = fs0 ++ wordF 1 a.nm ++ packF 8 a.is ++ [numF 20 (u64w 7)]):=hide (by unfold attrF AtA.d; simp only [hk]; simp only [List.append_assoc]; rfl)
 rw [uh HV]
 clear HV hW h hm HI
 obtain ⟨nm,kd,f,i,s,⟨ty,ds,fs,is,bs⟩,⟨pd,cd,pf,cf,pi,ci,pb,cb⟩,fl,qf,cf',li,qi,ci'⟩:=a
 simp only at hk
 subst hk
 simp only at C1 CZ C2 C3 ⊢
 generalize packF 8 li = F2 at C3 ⊢
 generalize (li.flatMap fun x => varV (u64w x)) = BV at C2 C3
 generalize wordF 1 nm = F1 at C1 ⊢
 generalize numF 20 (u64w 7) = F3' at CZ ⊢
 unfold strV at C1
 unfold atCells tenCells strV
 simp only [List.cons_append,List.nil_append]
 go_enter Tryz.func152,Tryz.ntmps152
 go_wp2_with fail
 obtain ⟨W,hWe⟩:∃ W,(w.alloc (Obj.cells #[.string (strOfNums nm),.int .i64 7,.int .u32 f,.int .i64 i,.string (strOfNums s),.int .i64 ty,.slice pd ds.length cd,.slice pf fs.length cf,.slice pi is.length ci,.slice pb bs.length cb,.slice qf fl.length cf',.slice qi li.length ci'] 86)) = W:=⟨_,rfl⟩
 have BX:Hid (Box W w.heap.size #[.string (strOfNums nm),.int .i64 7,.int .u32 f,.int .i64 i,.string (strOfNums s),.int .i64 ty,.slice pd ds.length cd,.slice pf fs.length cf,.slice pi is.length ci,.slice pb bs.length cb,.slice qf fl.length cf',.slice qi li.length ci'] 86):=hide (by rw [← hWe]; exact Box.new w _ _)
 have K0:Hid (KeptW g w W):=hide (by rw [← hWe]; exact KeptW.below (al1p _ _) (by omega))
 have V0:Hid (WrIn g W fs0):=hide (by rw [← hWe]; exact (uh HW).below (al1p _ _))
 have X0:Hid (KeptW g W W):=hide (KeptW.refl _ _)
 rw [hWe]
 clear hWe HW
 refine (uh C1 _ _ (uh V0)).mono ?_
 rintro e w1 ⟨rfl,hv1,hv2⟩
 have V1:=hide hv1
 have X1:=hide ((uh X0).trans hv2)
 have K1:=hide ((uh K0).trans (uh X1))
 have x1:=((uh X1).box (by decide) (by decide) (uh BX)).cell
 clear hv1 hv2
 go_wp2_with fail
 refine (uh C2 _ (uh K1)).mono ?_
 rintro e w2 ⟨r2,rfl,hO⟩
 obtain ⟨q2,d2,rfl,hl,_⟩:=hO.form
 have L2:=hide hl
 have V2:=hide ((uh V1).below hO.2)
 have X2:=hide ((uh X1).trans (KeptW.below hO.2 (Nat.le_of_lt (uh V1).lt)))
 have K2:=hide ((uh K0).trans (uh X2))
 have x2:=((uh X2).box (by decide) (by decide) (uh BX)).cell
 clear hO hl
 go_wp2_with fail
 refine (uh C3 _ _ q2 d2 (uh V2) (uh L2)).mono ?_
 rintro e w3 ⟨rfl,hv1,hv2⟩
 have V3:=hide hv1
 have X3:=hide ((uh X2).trans hv2)
 have K3:=hide ((uh K0).trans (uh X3))
 have x3:=((uh X3).box (by decide) (by decide) (uh BX)).cell
 clear hv1 hv2
 go_wp2_with fail
 refine (uh CZ _ _ (uh V3)).mono ?_
 rintro e w4 ⟨rfl,hv1,hv2⟩
 have V4:=hide hv1
 have X4:=hide ((uh X3).trans hv2)
 have K4:=hide ((uh K0).trans (uh X4))
 have x4:=((uh X4).box (by decide) (by decide) (uh BX)).cell
 clear hv1 hv2
 go_wp2_with fail
 go_end0
 exact ⟨rfl,uh V4,uh K4⟩
theorem cattr_any (g:Nat) (fs0:List Fld) (a:AtA) {B:Nat} (w:World) (hW:WrIn g w fs0) (h:AtIn B w a) (hB:B ≤ g) (hm:AtSm a) (hk:kindB a.kd = true) :
  Calls Tryz.prog 152 #[.pointer (some ⟨g,0,none⟩),.agg (atCells a).toArray] w fun e w' => WEnd g w (fs0 ++ attrF a.d) e w':=by
 unfold kindB at hk
 simp only [Bool.or_eq_true,beq_iff_eq] at hk
 rcases hk with ((((hk | hk) | hk) | hk) | hk) | hk
 ·exact cattr_1 g fs0 a w hW h hB hm hk
 ·exact cattr_2 g fs0 a w hW h hB hm hk
 ·exact cattr_3 g fs0 a w hW h hB hm hk
 ·exact cattr_4 g fs0 a w hW h hB hm hk
 ·exact cattr_6 g fs0 a w hW h hB hm hk
 ·exact cattr_7 g fs0 a w hW h hB hm hk
end Go.Proofs.YtmdlaahdgjegcaaGreat
