import Derived.BigQuiet
import Derived.Deep.CutRange
import Derived.Test.YtbmmcbagdomonaaGreatV44
set_option maxRecDepth 100000
set_option maxHeartbeats 40000000
namespace Go.Proofs.YtbmmcbagdomonaaGreat
open Go.RowKit
set_option linter.unusedVariables false
set_option linter.unusedSimpArgs false
theorem aggGr:AggT 32 4:=fun w => ⟨by kernel_rfl,by kernel_rfl⟩
def grZ:Array Value:=#[.slice none 0 0,.slice none 0 0,.slice none 0 0,.slice none 0 0]
theorem grZ_ones:Ones grZ:=by
 intro u hu
 simp only [grZ,List.mem_cons,List.not_mem_nil,or_false] at hu
 rcases hu with rfl | rfl | rfl | rfl <;> rfl
theorem results_gr3 {fn:Func} {tmps:Array Value} {w:World} {g k i j:Nat} {cs:Array Value} {t:TypeId} (hf:fn.results = #[.cell k 32,.tmp i,.tmp j]) (hk:tmps.getD k undef = .pointer (some ⟨g,0,none⟩)) (hb:Box w g cs t) (hs:cs.size = 4):(results fn tmps).run Tryz.prog w = .ok (.tuple #[.agg cs,tmps.getD i undef,tmps.getD j undef]) w:=by
 have e:=loadVar_at8 aggGr (by simpa using hs) (At8.box hb)
 rw [Array.toArray_toList] at e
 unfold results
 rw [hf]
 simp only [List.mapM_toArray,List.mapM_cons,List.mapM_nil,hk,asAddr,Sem.run_bind,Sem.run_pure,Result.andThen_ok,e,Sem.run_map]
 simp [e]
theorem step_storeG {w:World} {ops:Array Oper} {o:Oper} {a:Act} {K:Act → World → Prop} {Q:Exit → Act → World → Prop} {E:Prop} {ty:TypeId} {n:Nat} (ht:AggT ty n) (hgd:o.guard = none) (p x:Operand) (ho:o.op = .store ty p x)
  {g:Nat} {cs old:Array Value} {t:TypeId} (hp:a.eval p = .pointer (some ⟨g,0,none⟩)) (hx:a.eval x = .agg cs) (hb:Box w g old t) (hs:cs.size = n) (hso:old.size = n) (h1:Ones cs)
  (hK:∀ w',Box w' g cs t → Stay g w w' → w'.heap.size = w.heap.size → K (a.put o.dst undef) w') :
  if Region.wanted o (yielded ops a.tmps) = true then Oper.wp Tryz.prog o a w K Q else E:=by
 have hw:Region.wanted o (yielded ops a.tmps) = true:=by simp [Region.wanted,hgd]
 rw [if_pos hw]
 have hst:=run_storeCells_at Tryz.prog g 0 t cs.toList 0 old w hb (by simp [hs,hso]) h1
 simp only [Nat.zero_add,Nat.add_zero,List.take_zero,List.nil_append,Array.length_toList] at hst
 rw [List.drop_of_length_le (by simp [hs,hso]),List.append_nil,Array.toArray_toList] at hst
 unfold Oper.wp
 simp only [execOp,ho,Instr.storeAt,storeVar,hp,hx,Value.cells,Instr.sureAddr,Sem.run_bind,Sem.run_pure,Result.andThen_ok,(ht w).2,hs,ne_eq,not_true_eq_false,if_false,hst]
 exact hK _ (setRow_heap w g old cs t (0,0) hb) setRow_stay8 (by simp [World.setRow])
theorem wf9 {v:Int} (h:-1000000 ≤ v ∧ v ≤ 1000000):(Lit.int .i64 v).wf = true:=by
 exact WalkArith.wf_i64 (by omega)
theorem Box.put1 {w:World} {g:Nat} {a0 a1 a2 a3:Value} {t:TypeId} (h:Box w g #[a0,a1,a2,a3] t) (u:Value):Box (w.setCell ⟨g,1,none⟩ u) g #[a0,u,a2,a3] t:=h.same 1 u
theorem eq_neg9 {α:Type} {R a b:α} {p:Prop} [Decidable p] (h:R = if p then a else b) (c:¬ p):R = b:=h.trans (if_neg c)
theorem eq_pos9 {α:Type} {R a b:α} {p:Prop} [Decidable p] (h:R = if p then a else b) (c:p):R = a:=h.trans (if_pos c)
theorem cbuild9_any (x:MoA) (B:Nat) (w:World) (h:MoIn B w x) (hl:MoLt x) :
  Calls Tryz.prog 9 #[moV x] w fun e w' => ∃ a:GrA,e = .returned (.tuple #[grV a,.int .i64 (buildV x.d).2.1,.int .i64 (buildV x.d).2.2]) ∧ a.d = (buildV x.d).1 ∧ GrIn (fun b => w.heap.size ≤ b) w' a ∧ Below w.heap.size w w':=by
 have C1:=hide (fun v (hv:Below w.heap.size w v) => ccheck_any x v (h.below hv) hl)
 have C2:=hide (fun hc v (hv:Below w.heap.size w v) => bresolved9 x B w h hc v hv)
 have C3:=hide (fun hc hr v (hv:Below w.heap.size w v) => bnamed9 x B w h hc hr v hv)
 have C4:=hide (fun hc hr wa wc ha hb mb L hL hM v LG hO hd hba => blinked9 x B w h hc hr wa wc ha hb mb L hL hM v LG hO hd hba)
 have C5:=hide (fun hc hr wa wd ha hb L v LG hO hm => bvalues9 x B w h hc hr wa wd ha hb L v LG hO hm)
 have C6:=hide (fun hc v => binputs9 x v hc)
 have HLE:=hide (fun hc L (hL:outsG (headG x.d) x.d.2.2.1 = some L) => names_len (x:=x) (sm9_of hc) hL)
 have HLK:=hide (fun L (hL:outsG (headG x.d) x.d.2.2.1 = some L) LG (hm:mixG L x.nodes.length x.nodes LG) => (mix_links hm).trans (links_all hL))
 obtain ⟨R,hR⟩:∃ R,buildV x.d = R:=⟨_,rfl⟩
 have HR:=hide (hR.symm.trans (build_steps x.d))
 have HS:=hide (fun hc => sm9_of (x:=x) hc)
 have HOUT:Hid (x.d.2.2.2.2.2 = x.out.map VaA.d):=hide rfl
 have HML:Hid (x.d.2.2.1.length = x.nodes.length):=hide (List.length_map _)
 have hs1:=h.2.2.1.2.1.len
 have hs2:=h.2.2.2.1.2.1.len
 have hs3:=h.2.2.2.2.1.2.1.len
 have hs4:=h.2.2.2.2.2.2.1.len
 rw [hR]
 clear hR h hl
 generalize x.d = M at HLE C1 C2 C3 C4 C5 C6 HLK HR HS HOUT HML
 obtain ⟨ops,nm,nodes,qn,cn,inits,qi,ci,inp,qp,cp,out,qo,co⟩:=x
 unfold moV moCells strV at C1 C3 C4 C5 C6 ⊢
 simp only at HLE C1 C2 C3 C4 C5 C6 HLK HOUT HML hs1 hs2 hs3 hs4 ⊢
 go_enter Tryz.func9,Tryz.ntmps9
 obtain ⟨W,hW⟩:∃ W,w.alloc (.cells #[.int .i64 ops,.string (strOfNums nm),.slice qn nodes.length cn,.slice qi inits.length ci,.slice qp inp.length cp,.slice qo out.length co] 26) = W:=⟨_,rfl⟩
 have X:Hid (Box W w.heap.size #[.int .i64 ops,.string (strOfNums nm),.slice qn nodes.length cn,.slice qi inits.length ci,.slice qp inp.length cp,.slice qo out.length co] 26):=hide (by rw [← hW]; exact Box.new _ _ _)
 have BW:Hid (Below w.heap.size w W):=hide (by rw [← hW]; exact al1p _ _)
 obtain ⟨W2,hW2⟩:∃ W2,W.alloc (.cells grZ 32) = W2:=⟨_,rfl⟩
 have G2:Hid (Box W2 W.heap.size grZ 32):=hide (by rw [← hW2]; exact Box.new _ _ _)
 have BW2:Hid (Below W.heap.size W W2):=hide (by rw [← hW2]; exact al1p _ _)
 have X2:=hide ((uh X).below (uh BW2))
 have SZ:Hid (w.heap.size < W.heap.size ∧ W.heap.size < W2.heap.size):=hide ⟨(uh X).lt,(uh G2).lt⟩
 have B02:Hid (Below w.heap.size w W2):=hide (bl_tr (uh BW) (uh BW2))
 have x1:=(uh X2).cell
 have xl:=(uh X2).lt
 unfold grZ at hW2
 go_wp2_with (first | (rw [hW]; clear hW) | (rw [hW2]; clear hW2) | fail)
 refine (uh C1 _ (uh B02)).mono ?_
 rintro e v1 ⟨rfl,hv⟩
 have V1:=hide (bl_tr (uh B02) hv)
 have X3:=hide ((uh X2).below hv)
 have G3:=hide ((uh G2).below hv)
 clear hv x1 xl
 have x1:=(uh X3).cell
 have xl:=(uh X3).lt
 by_cases c0:checkM M = 0
 case neg =>
  have HRE:Hid (R = (noGr,checkM M,-1)):=hide (by rw [uh HR,if_pos c0])
  go_wp2_with (refine wpList_isStore 32 rfl ?_; (refine wpList_storeG aggGr rfl _ _ rfl rfl rfl (uh G3) rfl rfl grZ_ones ?_; intro w6 b6 s6 _; have B6:=hide b6; have S6:=hide s6; clear b6 s6))
  have hre:=uh HRE
  refine bodyPost_ret (results_gr3 rfl rfl (uh B6) rfl) rfl ⟨noGrA,(by rw [hre]; rfl),(by rw [hre]; rfl),noGr_in _ _,?_⟩
  exact bl_tr7 (uh V1) (bl_mono7 (uh S6).1 (Nat.le_of_lt (uh SZ).1))
 have HR1:=eq_neg9 (uh HR) (fun g => g c0)
 have D2:=uh C2 c0
 have D3:=hide (uh C3 c0)
 have D4:=hide (uh C4 c0)
 have D5:=hide (uh C5 c0)
 have D6:=hide (uh C6 c0)
 have DS:=hide (uh HS c0)
 have HLEN:=hide (uh HLE c0)
 have DD2:=hide D2
 clear C1 C2 C3 C4 C5 C6 HS HR D2
 rw [c0]
 go_wp2_with fail
 refine (uh DD2 _ (uh V1)).mono ?_
 rintro e v2 ⟨nv,rfl,hnv,hv⟩
 have V2:=hide (bl_tr (uh V1) hv)
 have X4:=hide ((uh X3).below hv)
 have G4:=hide ((uh G3).below hv)
 have BV12:=hide hv
 have HNV:=hide hnv
 have RE1:Hid (¬ (resdV M.2.2.1).1 = 0 → R = (noGr,resdV M.2.2.1)):=hide (fun c => eq_pos9 HR1 c)
 have HR2:=hide (fun (c:(resdV M.2.2.1).1 = 0) => eq_neg9 HR1 (fun g => g c))
 clear hv hnv x1 xl HR1 DD2
 generalize resdV M.2.2.1 = r1 at HNV RE1 HR2 D3 D4 D5
 obtain ⟨e1,a1⟩:=r1
 simp only at HNV RE1 HR2 D3 D4 D5 ⊢
 have x1:=(uh X4).cell
 have xl:=(uh X4).lt
 by_cases c1:e1 = 0
 case neg =>
  have HRE:=hide (uh RE1 c1)
  go_wp2_with (refine wpList_isStore 32 rfl ?_; (refine wpList_storeG aggGr rfl _ _ rfl rfl rfl (uh G4) rfl rfl grZ_ones ?_; intro w6 b6 s6 _; have B6:=hide b6; have S6:=hide s6; clear b6 s6))
  have hre:=uh HRE
  refine bodyPost_ret (results_gr3 rfl rfl (uh B6) rfl) rfl ⟨noGrA,(by rw [hre]; rfl),(by rw [hre]; rfl),noGr_in _ _,?_⟩
  exact bl_tr7 (uh V2) (bl_mono7 (uh S6).1 (Nat.le_of_lt (uh SZ).1))
 subst c1
 obtain ⟨LG,hO,hLd,hLb⟩:=uh HNV rfl
 have OE2:=hide hO
 have HLD:=hide hLd
 have HLB:=hide hLb
 have HR3:=uh HR2 rfl
 have DD3:=hide (uh D3 rfl)
 have DD4:=hide (uh D4 rfl)
 have DD5:=hide (uh D5 rfl)
 clear HNV RE1 HR2 D3 D4 D5 hO hLd hLb
 go_wp2_with fail
 refine (uh DD3 _ (uh V2)).mono ?_
 rintro e v3 ⟨mv,rfl,hmv,hv⟩
 have V3:=hide (bl_tr (uh V2) hv)
 have X5:=hide ((uh X4).below hv)
 have G5:=hide ((uh G4).below hv)
 have BV13:=hide (bl_tr (uh BV12) hv)
 have OE3:=hide ((uh OE2).below gnP hv)
 have HMV:=hide hmv
 have RE1:Hid (¬ (namedV M).1 = 0 → R = (noGr,namedV M)):=hide (fun c => eq_pos9 HR3 c)
 have HR4:=hide (fun (c:(namedV M).1 = 0) => eq_neg9 HR3 (fun g => g c))
 clear hv hmv x1 xl HR3 DD3
 generalize namedV M = r1 at HMV RE1 HR4
 obtain ⟨e1,a2⟩:=r1
 simp only at HMV RE1 HR4 ⊢
 have x1:=(uh X5).cell
 have xl:=(uh X5).lt
 by_cases c1:e1 = 0
 case neg =>
  have HRE:=hide (uh RE1 c1)
  go_wp2_with (refine wpList_isStore 32 rfl ?_; (refine wpList_storeG aggGr rfl _ _ rfl rfl rfl (uh G5) rfl rfl grZ_ones ?_; intro w6 b6 s6 _; have B6:=hide b6; have S6:=hide s6; clear b6 s6))
  have hre:=uh HRE
  refine bodyPost_ret (results_gr3 rfl rfl (uh B6) rfl) rfl ⟨noGrA,(by rw [hre]; rfl),(by rw [hre]; rfl),noGr_in _ _,?_⟩
  exact bl_tr7 (uh V3) (bl_mono7 (uh S6).1 (Nat.le_of_lt (uh SZ).1))
 subst c1
 obtain ⟨mb,L,hmv,hLL,hmb,hNM⟩:=uh HMV rfl
 subst hmv
 have HLL:=hide hLL
 have HR5:=uh HR4 rfl
 rw [hLL] at HR5
 simp only at HR5
 have CL:=hide (uh DD4 v1 v3 (uh V1) (uh BV13) mb L hLL hNM nv LG (uh OE3) (uh HLD) (uh HLB))
 clear HMV RE1 HR4 hNM DD4 hLL hmb
 go_wp2_with fail
 refine (uh CL).mono ?_
 rintro e v4 ⟨ov,rfl,hov,hgr⟩
 have BV4:=hide (gr_bel (uh BV13) hgr (fun g hg => ((uh OE3).1.lt9 g hg).2))
 have V4:=hide (bl_tr7 (uh V1) (bl_mono7 (uh BV4) (uh V1).size):Below w.heap.size w v4)
 have X6:=hide ((uh X3).below (uh BV4))
 have G6:=hide ((uh G3).below (uh BV4))
 have HOV:=hide hov
 have RE1:=hide (fun c => eq_pos9 HR5 c)
 have HR6:=hide (fun (c:(linkV L M.2.2.1 M.2.2.2.2.2).1 = 0) => eq_neg9 HR5 (fun g => g c))
 clear hov x1 xl HR5 CL hgr
 generalize linkV L M.2.2.1 M.2.2.2.2.2 = r1 at HOV RE1 HR6
 obtain ⟨e1,a3⟩:=r1
 simp only at HOV RE1 HR6 ⊢
 have x1:=(uh X6).cell
 have xl:=(uh X6).lt
 by_cases c1:e1 = 0
 case neg =>
  have HRE:=hide (uh RE1 c1)
  go_wp2_with (refine wpList_isStore 32 rfl ?_; (refine wpList_storeG aggGr rfl _ _ rfl rfl rfl (uh G6) rfl rfl grZ_ones ?_; intro w6 b6 s6 _; have B6:=hide b6; have S6:=hide s6; clear b6 s6))
  have hre:=uh HRE
  refine bodyPost_ret (results_gr3 rfl rfl (uh B6) rfl) rfl ⟨noGrA,(by rw [hre]; rfl),(by rw [hre]; rfl),noGr_in _ _,?_⟩
  exact bl_tr7 (uh V4) (bl_mono7 (uh S6).1 (Nat.le_of_lt (uh SZ).1))
 subst c1
 obtain ⟨LG',hO,hm,hro⟩:=uh HOV rfl
 have OE4:=hide hO
 have HMX:=hide hm
 have HRO:=hide hro
 have HR7:=hide (uh HR6 rfl)
 have D7:=hide (fun v hv => uh DD5 v1 v (uh V1) hv L nv LG')
 clear HOV RE1 HR6 hO hm hro DD5
 go_upto_region 13 with fail
 have CV:Hid (∀ v,Below v4.heap.size v4 v → Calls Tryz.prog 24 #[.agg #[.int .i64 ops,.string (strOfNums nm),.slice qn nodes.length cn,.slice qi inits.length ci,.slice qp inp.length cp,.slice qo out.length co],nv] v fun e w' => ∃ p c,∃ LV:List VgA,e = .returned (.slice p LV.length c) ∧ OwnE 59 8 vgCells VgIn v w' (.slice p LV.length c) LV ∧ LV.map VgA.d = valsG M):=hide (fun v hv => by
  refine (uh D7 v (bl_tr7 (uh BV4) (bl_mono7 hv (uh BV4).size)) ((uh OE4).below gnP hv) (uh HMX)).mono ?_
  rintro e w' ⟨vv,LV,rfl,h1,h2⟩
  obtain ⟨p,c,e,_⟩:=h1.rg (z:=noVgA) vgWd vgP
  subst e
  exact ⟨p,c,LV,rfl,h1,h2⟩)
 have CI:Hid (∀ v,Below v4.heap.size v4 v → Calls Tryz.prog 25 #[.agg #[.int .i64 ops,.string (strOfNums nm),.slice qn nodes.length cn,.slice qi inits.length ci,.slice qp inp.length cp,.slice qo out.length co]] v fun e w' => ∃ p c,e = .returned (.slice p (inpG M).length c) ∧ RowI w' v.heap.size (.slice p (inpG M).length c) (inpG M) ∧ Below v.heap.size v w'):=hide (fun v hv => by
  refine (uh D6 v).mono ?_
  rintro e w' ⟨u,rfl,h1,h2⟩
  obtain ⟨p,c,e,_⟩:=h1.form
  subst e
  exact ⟨p,c,rfl,h1,h2⟩)
 obtain ⟨po,cO,hpo,_,_⟩:=(uh HRO).form
 rw [List.length_map] at hpo
 subst hpo
 clear D6 D7
 go_cut [11] from 54 to 60 (fun p11 wx => ∃ (g:Nat) (pv:Option Addr) (cv:Nat) (LV:List VgA) (pi:Option Addr) (cI:Nat),p11 = .pointer (some ⟨g,0,none⟩) ∧ Hid (Box wx g #[.slice pv LV.length cv,.slice none 0 0,.slice pi (inpG M).length cI,.slice po out.length cO] 32) ∧ Hid (Rg 8 vgCells noVgA VgIn (fun b => v4.heap.size ≤ b ∧ b ≠ g) wx pv cv LV) ∧ Hid (LV.map VgA.d = valsG M) ∧ Hid (RowI wx v4.heap.size (.slice pi (inpG M).length cI) (inpG M)) ∧ Hid (Below v4.heap.size v4 wx) ∧ Hid (v4.heap.size ≤ g ∧ (Value.slice pv LV.length cv).ownBlock ≠ some g ∧ (Value.slice pi (inpG M).length cI).ownBlock ≠ some g))
 case first =>
  refine wp_region_held_drew (S:=fun v => Below v4.heap.size v4 v) (by kernel_rfl) (bdrew8 _) (fun hHeld => ?_)
  refine wpAnyH_take (i:=0) (oi:={ dst:=some 54,op:=_,type:=_,pos:=_,after:=_,guard:=_ }) (v:=?vv1) rfl (by kernel_rfl) (by kernel_rfl) (by kernel_rfl) (fun _ _ _ h => h) (Or.inl ⟨by rfl,?hy1⟩) (by assumption) ?rest1
  case hy1 => (intro w9 hSw; have c9:=((uh X6).below hSw).cell; have l9:=((uh X6).below hSw).lt; (try dsimp only at hSw); go_simp; (first | done | with_reducible rfl))
  (try simp only [Act.put,List.setIfInBounds_toArray,List.set_cons_zero,List.set_cons_succ])
  refine wpAnyH_take (i:=1) (oi:={ dst:=some 55,op:=_,type:=_,pos:=_,after:=_,guard:=_ }) (v:=?vv2) rfl (by kernel_rfl) (by kernel_rfl) (by kernel_rfl) (fun _ _ _ h => h) (Or.inl ⟨by rfl,?hy2⟩) (by assumption) ?rest2
  case hy2 => (intro w9 hSw; have c9:=((uh X6).below hSw).cell; have l9:=((uh X6).below hSw).lt; (try dsimp only at hSw); go_simp; (first | done | with_reducible rfl))
  (try simp only [Act.put,List.setIfInBounds_toArray,List.set_cons_zero,List.set_cons_succ])
  refine wpAnyH_take (i:=3) (oi:={ dst:=some 57,op:=_,type:=_,pos:=_,after:=_,guard:=_ }) (v:=?vv3) rfl (by kernel_rfl) (by kernel_rfl) (by kernel_rfl) (fun _ _ _ h => h) (Or.inl ⟨by rfl,?hy3⟩) (by assumption) ?rest3
  case hy3 => (intro w9 hSw; have c9:=((uh X6).below hSw).cell; have l9:=((uh X6).below hSw).lt; (try dsimp only at hSw); go_simp; (first | done | with_reducible rfl))
  (try simp only [Act.put,List.setIfInBounds_toArray,List.set_cons_zero,List.set_cons_succ])
  refine wpAnyH_take (i:=5) (oi:={ dst:=some 59,op:=_,type:=_,pos:=_,after:=_,guard:=_ }) (v:=?vv4) rfl (by kernel_rfl) (by kernel_rfl) (by kernel_rfl) (fun _ _ _ h => h) (Or.inl ⟨by rfl,?hy4⟩) (by assumption) ?rest4
  case hy4 => (intro w9 hSw; have c9:=((uh X6).below hSw).cell; have l9:=((uh X6).below hSw).lt; (try dsimp only at hSw); go_simp; (first | done | with_reducible rfl))
  (try simp only [Act.put,List.setIfInBounds_toArray,List.set_cons_zero,List.set_cons_succ])
  refine wpAnyH_ready (rs:=[2,7]) (by kernel_rfl) (by simp) ?_
  refine AllReadyH.cons (o:={ dst:=some 56,op:=_,type:=_,pos:=_,after:=_,guard:=_ }) rfl (fun KC hK => ?_) (AllReadyH.cons (o:={ dst:=some 11,op:=_,type:=_,pos:=_,after:=_,guard:=_ }) rfl (fun KC hK => ?_) (AllReadyH.nil))
  ·
   go_simp
   refine (uh CV _ hHeld).mono ?_
   rintro e u1 ⟨pv,cv,LV,rfl,hov,hdv⟩
   have OV:=hide hov
   have DV:=hide hdv
   refine hK.out _ _ (bl_tr hHeld (uh OV).1.2) (fun hH1 => ?_)
   clear hK KC hov hdv
   (try simp only [Act.put,List.setIfInBounds_toArray,List.set_cons_zero,List.set_cons_succ])
   refine wpAnyH_ready (rs:=[4,7]) (by kernel_rfl) (by simp) ?_
   refine AllReadyH.cons (o:={ dst:=some 58,op:=_,type:=_,pos:=_,after:=_,guard:=_ }) rfl (fun KC hK => ?_) (AllReadyH.cons (o:={ dst:=some 11,op:=_,type:=_,pos:=_,after:=_,guard:=_ }) rfl (fun KC hK => ?_) (AllReadyH.nil))
   ·
    go_simp
    refine (uh CI _ hH1).mono ?_
    rintro e u2 ⟨pi,ci',rfl,hri,hbi⟩
    have RI:=hide hri
    have BI:=hide hbi
    refine hK.out _ _ (bl_tr hH1 (uh BI)) (fun hH2 => ?_)
    clear hK KC hri hbi
    (try simp only [Act.put,List.setIfInBounds_toArray,List.set_cons_zero,List.set_cons_succ])
    refine wpAnyH_take (i:=6) (oi:={ dst:=some 60,op:=_,type:=_,pos:=_,after:=_,guard:=_ }) (v:=?vv11) rfl (by kernel_rfl) (by kernel_rfl) (by kernel_rfl) (fun _ _ _ h => h) (Or.inl ⟨by rfl,?hy11⟩) (by assumption) ?rest11
    case hy11 => (intro w9 hSw; have c9:=((uh X6).below hSw).cell; have l9:=((uh X6).below hSw).lt; (try dsimp only at hSw); go_simp; (first | done | with_reducible rfl))
    (try simp only [Act.put,List.setIfInBounds_toArray,List.set_cons_zero,List.set_cons_succ])
    refine wpAnyH_ready (rs:=[7]) (by kernel_rfl) (by simp) ?_
    refine AllReadyH.cons (o:={ dst:=some 11,op:=_,type:=_,pos:=_,after:=_,guard:=_ }) rfl (fun KC hK => ?_) (AllReadyH.nil)
    go_simp
    have BX:=hide (Box.new u2 grZ 32)
    have BA:=hide (al1p u2 (.cells grZ 32))
    unfold grZ at BX BA
    refine hK.out _ _ (bl_tr hH2 (uh BA)) (fun hH3 => ?_)
    clear hK KC
    (try simp only [Act.put,List.setIfInBounds_toArray,List.set_cons_zero,List.set_cons_succ])
    refine wpAnyH_ready (rs:=[8]) (by kernel_rfl) (by simp) ?_
    refine AllReadyH.cons (o:={ dst:=none,op:=_,type:=_,pos:=_,after:=_,guard:=_ }) rfl (fun KC hK => ?_) (AllReadyH.nil)
    refine step_storeG aggGr rfl _ _ rfl rfl rfl (uh BX) rfl rfl ?_ ?_
    ·intro q hq
     simp only [List.mem_cons,List.not_mem_nil,or_false] at hq
     rcases hq with rfl | rfl | rfl | rfl <;> rfl
    intro u9 b9 s9 z9
    have B9:=hide b9
    have S9:=hide s9
    clear b9 s9 z9
    have q1:=(uh BX).lt
    have q2:=(uh OV).1.2.size
    have q3:=(uh BI).size
    have q4:v4.drew.heap.size = v4.heap.size:=rfl
    have q5:=hHeld.size
    have BF:Hid (Below v4.heap.size v4 u9):=hide (bl_tr7 hH3 (bl_mono7 (uh S9).1 (by omega)))
    have E29:Hid (Below u2.heap.size u2 u9):=hide (bl_tr7 (uh BA) (uh S9).1)
    obtain ⟨pr,cr,er,hrg9⟩:=(uh OV).rg (z:=noVgA) vgWd vgP
    injection er with er1 _ er2
    subst er1; subst er2
    have OVF:=hide (Rg.hold vgP (hrg9.mono vgP (OK':=fun b => v4.heap.size ≤ b ∧ b ≠ u2.heap.size) (fun b hb hl => ⟨by omega,by omega⟩)) (Hold.below (bl_tr (uh BI) (uh E29))))
    clear hrg9
    have RIF:=hide (((uh RI).below (uh E29)).mono (show v4.heap.size ≤ _ by omega))
    refine hK.out _ _ (uh BF) (fun hH9 => ?_)
    clear hK KC
    (try simp only [Act.put,List.setIfInBounds_toArray,List.set_cons_zero,List.set_cons_succ])
    refine wpAnyH_done (by kernel_rfl) ?_ _
    go_wp2_with fail
    go_meet
    case rel => exact ⟨_,pv,cv,LV,pi,ci',rfl,B9,OVF,DV,RIF,BF,⟨by omega,(fun e => by have:=(uh OV).1.lt9 _ e; omega),(fun e => by have:=(uh RI).lt9 _ e; omega)⟩⟩
   ·
    go_simp
    have BX:=hide (Box.new u1 grZ 32)
    have BA:=hide (al1p u1 (.cells grZ 32))
    unfold grZ at BX BA
    refine hK.out _ _ (bl_tr hH1 (uh BA)) (fun hH2x => ?_)
    clear hK KC
    (try simp only [Act.put,List.setIfInBounds_toArray,List.set_cons_zero,List.set_cons_succ])
    refine wpAnyH_ready (rs:=[4]) (by kernel_rfl) (by simp) ?_
    refine AllReadyH.cons (o:={ dst:=some 58,op:=_,type:=_,pos:=_,after:=_,guard:=_ }) rfl (fun KC hK => ?_) (AllReadyH.nil)
    go_simp
    refine (uh CI _ hH2x).mono ?_
    rintro e u2 ⟨pi,ci',rfl,hri,hbi⟩
    have RI:=hide hri
    have BI:=hide hbi
    refine hK.out _ _ (bl_tr hH2x (uh BI)) (fun hH2 => ?_)
    clear hK KC hri hbi
    (try simp only [Act.put,List.setIfInBounds_toArray,List.set_cons_zero,List.set_cons_succ])
    refine wpAnyH_take (i:=6) (oi:={ dst:=some 60,op:=_,type:=_,pos:=_,after:=_,guard:=_ }) (v:=?vv12) rfl (by kernel_rfl) (by kernel_rfl) (by kernel_rfl) (fun _ _ _ h => h) (Or.inl ⟨by rfl,?hy12⟩) (by assumption) ?rest12
    case hy12 => (intro w9 hSw; have c9:=((uh X6).below hSw).cell; have l9:=((uh X6).below hSw).lt; (try dsimp only at hSw); go_simp; (first | done | with_reducible rfl))
    (try simp only [Act.put,List.setIfInBounds_toArray,List.set_cons_zero,List.set_cons_succ])
    refine wpAnyH_ready (rs:=[8]) (by kernel_rfl) (by simp) ?_
    refine AllReadyH.cons (o:={ dst:=none,op:=_,type:=_,pos:=_,after:=_,guard:=_ }) rfl (fun KC hK => ?_) (AllReadyH.nil)
    refine step_storeG aggGr rfl _ _ rfl rfl rfl ((uh BX).below (uh BI)) rfl rfl ?_ ?_
    ·intro q hq
     simp only [List.mem_cons,List.not_mem_nil,or_false] at hq
     rcases hq with rfl | rfl | rfl | rfl <;> rfl
    intro u9 b9 s9 z9
    have B9:=hide b9
    have S9:=hide s9
    clear b9 s9 z9
    have q1:=(uh BX).lt
    have q2:=(uh OV).1.2.size
    have q3:=(uh BI).size
    have q4:v4.drew.heap.size = v4.heap.size:=rfl
    have q5:=hHeld.size
    have BF:Hid (Below v4.heap.size v4 u9):=hide (bl_tr7 hH2 (bl_mono7 (uh S9).1 (by omega)))
    have E19:Hid (Below u1.heap.size u1 u9):=hide (bl_tr7 (bl_tr (uh BA) (uh BI)) (uh S9).1)
    obtain ⟨pr,cr,er,hrg9⟩:=(uh OV).rg (z:=noVgA) vgWd vgP
    injection er with er1 _ er2
    subst er1; subst er2
    have OVF:=hide (Rg.hold vgP (hrg9.mono vgP (OK':=fun b => v4.heap.size ≤ b ∧ b ≠ u1.heap.size) (fun b hb hl => ⟨by omega,by omega⟩)) (Hold.below (uh E19)))
    clear hrg9
    have RIF:=hide (((uh RI).block (fun b hb => (uh S9).block (fun e => by have:=((uh RI).lt9 b hb).1; omega) ((uh RI).lt9 b hb).2)).mono (show v4.heap.size ≤ _ by omega))
    refine hK.out _ _ (uh BF) (fun hH9 => ?_)
    clear hK KC
    (try simp only [Act.put,List.setIfInBounds_toArray,List.set_cons_zero,List.set_cons_succ])
    refine wpAnyH_done (by kernel_rfl) ?_ _
    go_wp2_with fail
    go_meet
    case rel => exact ⟨_,pv,cv,LV,pi,ci',rfl,B9,OVF,DV,RIF,BF,⟨by omega,(fun e => by have:=(uh OV).1.lt9 _ e; omega),(fun e => by have:=(uh RI).lt9 _ e; omega)⟩⟩
  ·
   go_simp
   have BX:=hide (Box.new v4.drew grZ 32)
   have BA:=hide (al1p v4.drew (.cells grZ 32))
   unfold grZ at BX BA
   refine hK.out _ _ (bl_tr hHeld (uh BA)) (fun hH0 => ?_)
   clear hK KC
   (try simp only [Act.put,List.setIfInBounds_toArray,List.set_cons_zero,List.set_cons_succ])
   refine wpAnyH_ready (rs:=[2]) (by kernel_rfl) (by simp) ?_
   refine AllReadyH.cons (o:={ dst:=some 56,op:=_,type:=_,pos:=_,after:=_,guard:=_ }) rfl (fun KC hK => ?_) (AllReadyH.nil)
   go_simp
   refine (uh CV _ hH0).mono ?_
   rintro e u1 ⟨pv,cv,LV,rfl,hov,hdv⟩
   have OV:=hide hov
   have DV:=hide hdv
   refine hK.out _ _ (bl_tr hH0 (uh OV).1.2) (fun hH1 => ?_)
   clear hK KC hov hdv
   (try simp only [Act.put,List.setIfInBounds_toArray,List.set_cons_zero,List.set_cons_succ])
   refine wpAnyH_ready (rs:=[4]) (by kernel_rfl) (by simp) ?_
   refine AllReadyH.cons (o:={ dst:=some 58,op:=_,type:=_,pos:=_,after:=_,guard:=_ }) rfl (fun KC hK => ?_) (AllReadyH.nil)
   go_simp
   refine (uh CI _ hH1).mono ?_
   rintro e u2 ⟨pi,ci',rfl,hri,hbi⟩
   have RI:=hide hri
   have BI:=hide hbi
   refine hK.out _ _ (bl_tr hH1 (uh BI)) (fun hH2 => ?_)
   clear hK KC hri hbi
   (try simp only [Act.put,List.setIfInBounds_toArray,List.set_cons_zero,List.set_cons_succ])
   refine wpAnyH_take (i:=6) (oi:={ dst:=some 60,op:=_,type:=_,pos:=_,after:=_,guard:=_ }) (v:=?vv13) rfl (by kernel_rfl) (by kernel_rfl) (by kernel_rfl) (fun _ _ _ h => h) (Or.inl ⟨by rfl,?hy13⟩) (by assumption) ?rest13
   case hy13 => (intro w9 hSw; have c9:=((uh X6).below hSw).cell; have l9:=((uh X6).below hSw).lt; (try dsimp only at hSw); go_simp; (first | done | with_reducible rfl))
   (try simp only [Act.put,List.setIfInBounds_toArray,List.set_cons_zero,List.set_cons_succ])
   refine wpAnyH_ready (rs:=[8]) (by kernel_rfl) (by simp) ?_
   refine AllReadyH.cons (o:={ dst:=none,op:=_,type:=_,pos:=_,after:=_,guard:=_ }) rfl (fun KC hK => ?_) (AllReadyH.nil)
   refine step_storeG aggGr rfl _ _ rfl rfl rfl (((uh BX).below (uh OV).1.2).below (uh BI)) rfl rfl ?_ ?_
   ·intro q hq
    simp only [List.mem_cons,List.not_mem_nil,or_false] at hq
    rcases hq with rfl | rfl | rfl | rfl <;> rfl
   intro u9 b9 s9 z9
   have B9:=hide b9
   have S9:=hide s9
   clear b9 s9 z9
   have q1:=(uh BX).lt
   have q2:=(uh OV).1.2.size
   have q3:=(uh BI).size
   have q4:v4.drew.heap.size = v4.heap.size:=rfl
   have q6:(v4.alloc (.cells #[.slice none 0 0,.slice none 0 0,.slice none 0 0,.slice none 0 0] 32)).drew.heap.size = (v4.drew.alloc (.cells #[.slice none 0 0,.slice none 0 0,.slice none 0 0,.slice none 0 0] 32)).heap.size:=rfl
   have q5:=hHeld.size
   have BF:Hid (Below v4.heap.size v4 u9):=hide (bl_tr7 hH2 (bl_mono7 (uh S9).1 (by omega)))
   obtain ⟨pr,cr,er,hrg9⟩:=(uh OV).rg (z:=noVgA) vgWd vgP
   injection er with er1 _ er2
   subst er1; subst er2
   have OVF:=hide (Rg.hold vgP (hrg9.mono vgP (OK':=fun b => v4.heap.size ≤ b ∧ b ≠ v4.drew.heap.size) (fun b hb hl => ⟨by omega,by omega⟩)) (Hold.stay ((Stay.below (uh BI) (by omega)).trans (uh S9)) (fun hh => hh.2 rfl)))
   clear hrg9
   have RIF:=hide (((uh RI).block (fun b hb => (uh S9).block (fun e => by have:=((uh RI).lt9 b hb).1; omega) ((uh RI).lt9 b hb).2)).mono (show v4.heap.size ≤ _ by omega))
   refine hK.out _ _ (uh BF) (fun hH9 => ?_)
   clear hK KC
   (try simp only [Act.put,List.setIfInBounds_toArray,List.set_cons_zero,List.set_cons_succ])
   refine wpAnyH_done (by kernel_rfl) ?_ _
   go_wp2_with fail
   go_meet
   case rel => exact ⟨_,pv,cv,LV,pi,ci',rfl,B9,OVF,DV,RIF,BF,⟨by omega,(fun e => by have:=(uh OV).1.lt9 _ e; omega),(fun e => by have:=(uh RI).lt9 _ e; omega)⟩⟩
 case rest =>
  obtain ⟨g,pv,cv,LV,pi,cI,rfl,HBX,HOV2,HDV,HRI,HBE,HNE⟩:=hcut
  obtain ⟨wk,hwk⟩:∃ u,u = wc:=⟨_,rfl⟩
  subst hwk
  obtain ⟨pn,cN,hnv,hrgn⟩:=(uh OE4).rg (z:=noGnA) gnWd gnP
  subst hnv
  have HRN:=hide hrgn
  have x9:=(uh HBX).cell
  have l9:=(uh HBX).lt
  have HN1:Hid (LG'.length = nodes.length):=hide (uh HMX).1
  have hn1:=(uh DS).2.1
  have CW:=hide (fun v (hv:Below wk.heap.size wk v) => cwithout9_any pn cN LG' (fun b => v1.heap.size ≤ b) v ((uh HRN).hold gnP (Hold.below (bl_tr (uh HBE) hv))) (by rw [uh HN1]; exact hn1))
  obtain ⟨NK,hNK⟩:∃ N,LG'.filter keepG = N:=⟨_,rfl⟩
  have HNKM:Hid (∀ y ∈ NK,y ∈ LG'):=hide (fun y hy => by rw [← hNK] at hy; exact (List.mem_filter.1 hy).1)
  have HNKD:Hid (NK.map GnA.d = restG (nodesG L (baseG M) 0 M.2.2.1)):=hide (by rw [← hNK,filter_rest,uh HLK L (uh HLL) LG' (uh HMX)])
  have HNKL:Hid (NK.length ≤ 1024):=hide (by rw [← hNK]; exact Nat.le_trans (List.length_filter_le _ _) (by rw [uh HN1]; exact hn1))
  have CW2:Hid (∀ v,Below wk.heap.size wk v → Calls Tryz.prog 27 #[.slice pn LG'.length cN] v fun e w' => ∃ p c,e = .returned (.slice p NK.length c) ∧ Rg 40 gnCells noGnA GnIn (fun _ => True) w' p c NK ∧ Below v.heap.size v w'):=hide (fun v hv => by
   refine (uh CW v hv).mono ?_
   rintro e w' ⟨u,rfl,h1⟩
   rw [hNK] at h1
   obtain ⟨p,c,e,h2,_⟩:=h1.form (z:=noGnA) gnWd
   subst e
   exact ⟨p,c,rfl,⟨h2,fun _ _ _ _ => trivial,fun y hy => gnP.mono (gnP.hold ((uh HRN).2.2 y (uh HNKM y hy)) (Hold.below (bl_tr (bl_tr (uh HBE) hv) h1.2))) (fun _ _ _ => trivial)⟩,h1.2⟩)
  obtain ⟨DL,hDL⟩:∃ D,givenG (valsG M) (inpG M) = D:=⟨_,rfl⟩
  have HVL:Hid ((valsG M).length = LV.length):=hide (by rw [← uh HDV,List.length_map])
  have HVL2:Hid ((valsG M).length = L.length):=hide (vals_len (uh HLL))
  have HDLL:Hid (DL.length = LV.length):=hide (by rw [← hDL,given_len9]; exact uh HVL)
  have HLL2:Hid (L.length ≤ 100000):=hide (uh HLEN L (uh HLL))
  have HRW:Hid (rowG M L = kahnG NK.length DL [] (NK.map GnA.d)):=hide (by
   have e1:=congrArg List.length (uh HNKD)
   rw [List.length_map] at e1
   unfold rowG
   rw [hDL,← uh HNKD,List.length_map])
  have HVR:Hid (∃ (OK:Nat → Prop),Rg 8 vgCells noVgA VgIn OK wk pv cv LV):=hide ⟨_,uh HOV2⟩
  have HWF:Hid (∀ v ∈ inpG M,(Lit.int .i64 v).wf = true):=hide (fun v hv => wf9 (by have:=inp_in M v hv; have:=uh HVL2; have:=uh HLL2; omega))
  have HWO:Hid (∀ v ∈ (out.map fun o => findG L o.nm),(Lit.int .i64 v).wf = true):=hide (fun v hv => by
   obtain ⟨o,_,rfl⟩:=List.mem_map.1 hv
   have h1:=findG_in L o.nm
   exact wf9 (by have:=uh HLL2; omega))
  have CG:Hid (∀ v,Below wk.heap.size wk v → Calls Tryz.prog 28 #[.agg #[.slice pv LV.length cv,.slice none 0 0,.slice pi (inpG M).length cI,.slice po out.length cO]] v fun e w' => (∃ b,e = .returned (.slice (some ⟨b,0,none⟩) DL.length DL.length) ∧ v.heap.size ≤ b ∧ Bm w' b DL) ∧ Below v.heap.size v w'):=hide (fun v hv => by
   obtain ⟨OKV,hrv⟩:=uh HVR
   have ht:∀ {OK:Nat → Prop} {u:World} ,∀ b,OK b → b < u.heap.size → (fun _ => True:Nat → Prop) b:=fun _ _ _ => trivial
   have:=cgiven9_any ⟨LV,pv,cv,[],none,0,inpG M,pi,cI,out.map fun o => findG L o.nm,po,cO⟩ (fun _ => True) v ⟨(hrv.hold vgP (Hold.below hv)).mono vgP (fun _ _ _ => trivial),Rg.nil _ _,((uh HRI).below hv).li (uh HWF) rfl (fun _ _ => trivial),((uh HRO).below (bl_tr (uh HBE) hv)).li (uh HWO) (by rw [List.length_map]) (fun _ _ => trivial)⟩ (by have:=uh HVL; have:=uh HVL2; have:=uh HLL2; simp only; omega) (fun y hy => by have:=inp_in M y hy; rw [uh HVL] at this; exact this)
   unfold grV grCells at this
   simp only [List.length_map,List.length_nil] at this
   rw [uh HDV,hDL] at this
   rw [uh HDLL]
   exact this)
  clear hNK hDL CW
  have HCX:Hid (∀ v,Below wk.heap.size wk v → (∀ j,v.cell? ⟨g,j,none⟩ = (#[.slice pv LV.length cv,.slice none 0 0,.slice pi (inpG M).length cI,.slice po out.length cO]:Array Value)[j]?) ∧ g < v.heap.size):=hide (fun v hv => ⟨((uh HBX).below hv).cell,((uh HBX).below hv).lt⟩)
  have HIN:Hid (∀ y ∈ NK,(∀ v ∈ y.ins,v = -1 ∨ (0 ≤ v ∧ v < (DL.length:Int))) ∧ ∀ v ∈ y.outs,0 ≤ v ∧ v < (DL.length:Int)):=hide (fun y hy => by
   have h1:y.d ∈ NK.map GnA.d:=List.mem_map.2 ⟨y,hy,rfl⟩
   rw [uh HNKD] at h1
   have h2:=links_in (uh HLL) y.d (List.mem_filter.1 h1).1
   rw [← uh HVL2,uh HVL,← uh HDLL] at h2
   exact h2)
  have COR:=hide (fun p c v b (hr:Rg 40 gnCells noGnA GnIn (fun k => k ≠ b) v p c NK) (hm:Bm v b DL) => cordered9_any p c NK (fun k => k ≠ b) v hr b DL hm (by simp) (by have:=uh HDLL; have:=uh HVL; have:=uh HVL2; have:=uh HLL2; omega) (uh HNKL) (uh HIN) (rowG M L) (uh HRW))
  have RE1:=hide (fun c => eq_pos9 (uh HR7) c)
  have HR8:=hide (fun (c:(ordV (rowG M L)).1 = 0) => eq_neg9 (uh HR7) (fun g => g c))
  clear HR7
  generalize ordV (rowG M L) = r1 at COR RE1 HR8
  obtain ⟨e1,a4⟩:=r1
  simp only at COR RE1 HR8
  go_upto_region 14 with fail
  clear x9 l9
  go_cut [7,8] from 61 to 70 (fun p7 p8 wy => ∃ (ps:Option Addr) (ns cs:Nat),p7 = .int .i64 e1 ∧ p8 = .int .i64 a4 ∧ Hid (Box wy g #[.slice pv LV.length cv,.slice ps ns cs,.slice pi (inpG M).length cI,.slice po out.length cO] 32) ∧ Hid (e1 = 0 → ∃ LL:List GnA,RowO wy wk.heap.size (.slice ps ns cs) LL ∧ LL.map GnA.d = (rowG M L).1 ∧ ∀ x ∈ LL,x ∈ NK) ∧ Hid (Stay g wk wy))
  case first =>
   have c9:=(uh HCX _ (bdrew8 _)).1
   have l9:=(uh HCX _ (bdrew8 _)).2
   refine wp_region_held_drew (S:=fun _ => True) (by kernel_rfl) trivial (fun _ => ?_)
   refine wpAnyH_take (i:=0) (oi:={ dst:=some 62,op:=_,type:=_,pos:=_,after:=_,guard:=_ }) (v:=?vv81) rfl (by kernel_rfl) (by kernel_rfl) (by kernel_rfl) (fun _ _ _ h => h) (Or.inl ⟨by rfl,?hy81⟩) trivial ?rest81
   case hy81 => (intro w9 hSw; (try dsimp only at hSw); go_simp; (first | done | with_reducible rfl))
   (try simp only [Act.put,List.setIfInBounds_toArray,List.set_cons_zero,List.set_cons_succ])
   refine wpAnyH_ready (rs:=[1,2]) (by kernel_rfl) (by simp) ?_
   refine AllReadyH.cons (o:={ dst:=some 63,op:=_,type:=_,pos:=_,after:=_,guard:=_ }) rfl (fun KC hK => ?_) (AllReadyH.cons (o:={ dst:=some 64,op:=_,type:=_,pos:=_,after:=_,guard:=_ }) rfl (fun KC hK => ?_) (AllReadyH.nil))
   ·
    clear c9 l9
    go_simp
    refine (uh CW2 _ (bdrew8 _)).mono ?_
    rintro e y1 ⟨pw,cw,rfl,hrw,hbw⟩
    have RWN:=hide hrw
    have BW1:=hide hbw
    have H1:=bl_tr (bdrew8 _) hbw
    have c9:=(uh HCX _ H1).1
    have l9:=(uh HCX _ H1).2
    refine hK.out _ _ trivial (fun _ => ?_)
    clear hK KC hrw hbw
    (try simp only [Act.put,List.setIfInBounds_toArray,List.set_cons_zero,List.set_cons_succ])
    refine wpAnyH_ready (rs:=[2]) (by kernel_rfl) (by simp) ?_
    refine AllReadyH.cons (o:={ dst:=some 64,op:=_,type:=_,pos:=_,after:=_,guard:=_ }) rfl (fun KC hK => ?_) (AllReadyH.nil)
    go_simp
    refine hK.out _ _ trivial (fun _ => ?_)
    clear hK KC
    (try simp only [Act.put,List.setIfInBounds_toArray,List.set_cons_zero,List.set_cons_succ])
    refine wpAnyH_ready (rs:=[3]) (by kernel_rfl) (by simp) ?_
    refine AllReadyH.cons (o:={ dst:=some 65,op:=_,type:=_,pos:=_,after:=_,guard:=_ }) rfl (fun KC hK => ?_) (AllReadyH.nil)
    go_simp
    refine (uh CG _ H1).mono ?_
    rintro e y2 ⟨⟨b,rfl,hbb,hbm⟩,hbw⟩
    have HBB:=hide hbb
    have HBM:=hide hbm
    have BW2:=hide hbw
    have H2:=bl_tr H1 hbw
    refine hK.out _ _ trivial (fun _ => ?_)
    clear hK KC hbb hbm hbw c9 l9
    (try simp only [Act.put,List.setIfInBounds_toArray,List.set_cons_zero,List.set_cons_succ])
    refine wpAnyH_ready (rs:=[4]) (by kernel_rfl) (by simp) ?_
    refine AllReadyH.cons (o:={ dst:=some 66,op:=_,type:=_,pos:=_,after:=_,guard:=_ }) rfl (fun KC hK => ?_) (AllReadyH.nil)
    have HB1:Hid (y1.heap.size ≤ b ∧ wk.heap.size ≤ b):=hide ⟨uh HBB,Nat.le_trans H1.size (uh HBB)⟩
    have HRO2:Hid (Rg 40 gnCells noGnA GnIn (fun k => k ≠ b) y2 pw cw NK):=hide (Rg.hold gnP ((uh RWN).mono gnP (fun k _ hk => by have:=(uh HB1).1; omega)) (Hold.below (uh BW2)))
    have CO:=hide (uh COR pw cw y2 b (uh HRO2) (uh HBM))
    go_simp
    refine (uh CO).mono ?_
    rintro e y3 ⟨ps,ns,cs,rfl,hos,hst⟩
    have HOS:=hide hos
    have HST:=hide hst
    have S23:Hid (Below wk.heap.size wk y3):=hide (bl_tr7 H2 (bl_mono7 (uh HST).1 (uh HB1).2))
    refine hK.out _ _ trivial (fun _ => ?_)
    clear hK KC hos hst CO
    (try simp only [Act.put,List.setIfInBounds_toArray,List.set_cons_zero,List.set_cons_succ])
    refine wpAnyH_take (i:=5) (oi:={ dst:=some 61,op:=_,type:=_,pos:=_,after:=_,guard:=_ }) (v:=?vv82) rfl (by kernel_rfl) (by kernel_rfl) (by kernel_rfl) (fun _ _ _ h => h) (Or.inl ⟨by rfl,?hy82⟩) trivial ?rest82
    case hy82 => (intro w9 hSw; (try dsimp only at hSw); go_simp; (first | done | with_reducible rfl))
    (try simp only [Act.put,List.setIfInBounds_toArray,List.set_cons_zero,List.set_cons_succ])
    refine wpAnyH_take (i:=6) (oi:={ dst:=some 67,op:=_,type:=_,pos:=_,after:=_,guard:=_ }) (v:=?vv83) rfl (by kernel_rfl) (by kernel_rfl) (by kernel_rfl) (fun _ _ _ h => h) (Or.inl ⟨by rfl,?hy83⟩) trivial ?rest83
    case hy83 => (intro w9 hSw; (try dsimp only at hSw); go_simp; (first | done | with_reducible rfl))
    (try simp only [Act.put,List.setIfInBounds_toArray,List.set_cons_zero,List.set_cons_succ])
    refine wpAnyH_take (i:=7) (oi:={ dst:=some 68,op:=_,type:=_,pos:=_,after:=_,guard:=_ }) (v:=?vv84) rfl (by kernel_rfl) (by kernel_rfl) (by kernel_rfl) (fun _ _ _ h => h) (Or.inl ⟨by rfl,?hy84⟩) trivial ?rest84
    case hy84 => (intro w9 hSw; (try dsimp only at hSw); go_simp; (first | done | with_reducible rfl))
    (try simp only [Act.put,List.setIfInBounds_toArray,List.set_cons_zero,List.set_cons_succ])
    refine wpAnyH_take (i:=8) (oi:={ dst:=some 69,op:=_,type:=_,pos:=_,after:=_,guard:=_ }) (v:=?vv85) rfl (by kernel_rfl) (by kernel_rfl) (by kernel_rfl) (fun _ _ _ h => h) (Or.inl ⟨by rfl,?hy85⟩) trivial ?rest85
    case hy85 => (intro w9 hSw; (try dsimp only at hSw); go_simp; (first | done | with_reducible rfl))
    (try simp only [Act.put,List.setIfInBounds_toArray,List.set_cons_zero,List.set_cons_succ])
    refine wpAnyH_take (i:=9) (oi:={ dst:=some 70,op:=_,type:=_,pos:=_,after:=_,guard:=_ }) (v:=?vv86) rfl (by kernel_rfl) (by kernel_rfl) (by kernel_rfl) (fun _ _ _ h => h) (Or.inl ⟨by rfl,?hy86⟩) trivial ?rest86
    case hy86 => (intro w9 hSw; (try dsimp only at hSw); go_simp; (first | done | with_reducible rfl))
    (try simp only [Act.put,List.setIfInBounds_toArray,List.set_cons_zero,List.set_cons_succ])
    have xg:=(uh HCX _ (uh S23)).1
    have lg:=(uh HCX _ (uh S23)).2
    have BX3:=hide ((uh HBX).below (uh S23))
    have fg:=(uh BX3).frozen 1
    have hgw:=(uh HBX).lt
    refine wpAnyH_ready (rs:=[10]) (by kernel_rfl) (by simp) ?_
    refine AllReadyH.cons (o:={ dst:=none,op:=_,type:=_,pos:=_,after:=_,guard:=_ }) rfl (fun KC hK => ?_) (AllReadyH.nil)
    go_simp
    refine hK.out _ _ trivial (fun _ => ?_)
    clear hK KC xg
    (try simp only [Act.put,List.setIfInBounds_toArray,List.set_cons_zero,List.set_cons_succ])
    refine wpAnyH_take (i:=11) (oi:={ dst:=some 7,op:=_,type:=_,pos:=_,after:=_,guard:=_ }) (v:=?vv87) rfl (by kernel_rfl) (by kernel_rfl) (by kernel_rfl) (fun _ _ _ h => h) (Or.inl ⟨by rfl,?hy87⟩) trivial ?rest87
    case hy87 => (intro w9 hSw; (try dsimp only at hSw); go_simp; (first | done | with_reducible rfl))
    (try simp only [Act.put,List.setIfInBounds_toArray,List.set_cons_zero,List.set_cons_succ])
    refine wpAnyH_take (i:=12) (oi:={ dst:=some 8,op:=_,type:=_,pos:=_,after:=_,guard:=_ }) (v:=?vv88) rfl (by kernel_rfl) (by kernel_rfl) (by kernel_rfl) (fun _ _ _ h => h) (Or.inl ⟨by rfl,?hy88⟩) trivial ?rest88
    case hy88 => (intro w9 hSw; (try dsimp only at hSw); go_simp; (first | done | with_reducible rfl))
    (try simp only [Act.put,List.setIfInBounds_toArray,List.set_cons_zero,List.set_cons_succ])
    refine wpAnyH_done (by kernel_rfl) ?_ _
    go_wp2_with fail
    go_meet
    case rel => exact ⟨ps,ns,cs,rfl,rfl,hide (Box.put1 (uh BX3) _),hide (fun c => by
     obtain ⟨LL,h1,h2,h3⟩:=uh HOS c
     exact ⟨LL,(h1.stay (Stay.set8 _) (by have:=H2.size; omega)).mono H2.size,h2,h3⟩),hide ((Stay.below (uh S23) (Nat.le_of_lt hgw)).trans (Stay.set8 _))⟩
   ·
    go_simp
    refine hK.out _ _ trivial (fun _ => ?_)
    clear hK KC
    (try simp only [Act.put,List.setIfInBounds_toArray,List.set_cons_zero,List.set_cons_succ])
    clear c9 l9
    refine wpAnyH_ready (rs:=[1]) (by kernel_rfl) (by simp) ?_
    refine AllReadyH.cons (o:={ dst:=some 63,op:=_,type:=_,pos:=_,after:=_,guard:=_ }) rfl (fun KC hK => ?_) (AllReadyH.nil)
    go_simp
    refine (uh CW2 _ (bdrew8 _)).mono ?_
    rintro e y1 ⟨pw,cw,rfl,hrw,hbw⟩
    have RWN:=hide hrw
    have BW1:=hide hbw
    have H1:=bl_tr (bdrew8 _) hbw
    have c9:=(uh HCX _ H1).1
    have l9:=(uh HCX _ H1).2
    refine hK.out _ _ trivial (fun _ => ?_)
    clear hK KC hrw hbw
    (try simp only [Act.put,List.setIfInBounds_toArray,List.set_cons_zero,List.set_cons_succ])
    refine wpAnyH_ready (rs:=[3]) (by kernel_rfl) (by simp) ?_
    refine AllReadyH.cons (o:={ dst:=some 65,op:=_,type:=_,pos:=_,after:=_,guard:=_ }) rfl (fun KC hK => ?_) (AllReadyH.nil)
    go_simp
    refine (uh CG _ H1).mono ?_
    rintro e y2 ⟨⟨b,rfl,hbb,hbm⟩,hbw⟩
    have HBB:=hide hbb
    have HBM:=hide hbm
    have BW2:=hide hbw
    have H2:=bl_tr H1 hbw
    refine hK.out _ _ trivial (fun _ => ?_)
    clear hK KC hbb hbm hbw c9 l9
    (try simp only [Act.put,List.setIfInBounds_toArray,List.set_cons_zero,List.set_cons_succ])
    refine wpAnyH_ready (rs:=[4]) (by kernel_rfl) (by simp) ?_
    refine AllReadyH.cons (o:={ dst:=some 66,op:=_,type:=_,pos:=_,after:=_,guard:=_ }) rfl (fun KC hK => ?_) (AllReadyH.nil)
    have HB1:Hid (y1.heap.size ≤ b ∧ wk.heap.size ≤ b):=hide ⟨uh HBB,Nat.le_trans H1.size (uh HBB)⟩
    have HRO2:Hid (Rg 40 gnCells noGnA GnIn (fun k => k ≠ b) y2 pw cw NK):=hide (Rg.hold gnP ((uh RWN).mono gnP (fun k _ hk => by have:=(uh HB1).1; omega)) (Hold.below (uh BW2)))
    have CO:=hide (uh COR pw cw y2 b (uh HRO2) (uh HBM))
    go_simp
    refine (uh CO).mono ?_
    rintro e y3 ⟨ps,ns,cs,rfl,hos,hst⟩
    have HOS:=hide hos
    have HST:=hide hst
    have S23:Hid (Below wk.heap.size wk y3):=hide (bl_tr7 H2 (bl_mono7 (uh HST).1 (uh HB1).2))
    refine hK.out _ _ trivial (fun _ => ?_)
    clear hK KC hos hst CO
    (try simp only [Act.put,List.setIfInBounds_toArray,List.set_cons_zero,List.set_cons_succ])
    refine wpAnyH_take (i:=5) (oi:={ dst:=some 61,op:=_,type:=_,pos:=_,after:=_,guard:=_ }) (v:=?vv89) rfl (by kernel_rfl) (by kernel_rfl) (by kernel_rfl) (fun _ _ _ h => h) (Or.inl ⟨by rfl,?hy89⟩) trivial ?rest89
    case hy89 => (intro w9 hSw; (try dsimp only at hSw); go_simp; (first | done | with_reducible rfl))
    (try simp only [Act.put,List.setIfInBounds_toArray,List.set_cons_zero,List.set_cons_succ])
    refine wpAnyH_take (i:=6) (oi:={ dst:=some 67,op:=_,type:=_,pos:=_,after:=_,guard:=_ }) (v:=?vv90) rfl (by kernel_rfl) (by kernel_rfl) (by kernel_rfl) (fun _ _ _ h => h) (Or.inl ⟨by rfl,?hy90⟩) trivial ?rest90
    case hy90 => (intro w9 hSw; (try dsimp only at hSw); go_simp; (first | done | with_reducible rfl))
    (try simp only [Act.put,List.setIfInBounds_toArray,List.set_cons_zero,List.set_cons_succ])
    refine wpAnyH_take (i:=7) (oi:={ dst:=some 68,op:=_,type:=_,pos:=_,after:=_,guard:=_ }) (v:=?vv91) rfl (by kernel_rfl) (by kernel_rfl) (by kernel_rfl) (fun _ _ _ h => h) (Or.inl ⟨by rfl,?hy91⟩) trivial ?rest91
    case hy91 => (intro w9 hSw; (try dsimp only at hSw); go_simp; (first | done | with_reducible rfl))
    (try simp only [Act.put,List.setIfInBounds_toArray,List.set_cons_zero,List.set_cons_succ])
    refine wpAnyH_take (i:=8) (oi:={ dst:=some 69,op:=_,type:=_,pos:=_,after:=_,guard:=_ }) (v:=?vv92) rfl (by kernel_rfl) (by kernel_rfl) (by kernel_rfl) (fun _ _ _ h => h) (Or.inl ⟨by rfl,?hy92⟩) trivial ?rest92
    case hy92 => (intro w9 hSw; (try dsimp only at hSw); go_simp; (first | done | with_reducible rfl))
    (try simp only [Act.put,List.setIfInBounds_toArray,List.set_cons_zero,List.set_cons_succ])
    refine wpAnyH_take (i:=9) (oi:={ dst:=some 70,op:=_,type:=_,pos:=_,after:=_,guard:=_ }) (v:=?vv93) rfl (by kernel_rfl) (by kernel_rfl) (by kernel_rfl) (fun _ _ _ h => h) (Or.inl ⟨by rfl,?hy93⟩) trivial ?rest93
    case hy93 => (intro w9 hSw; (try dsimp only at hSw); go_simp; (first | done | with_reducible rfl))
    (try simp only [Act.put,List.setIfInBounds_toArray,List.set_cons_zero,List.set_cons_succ])
    have xg:=(uh HCX _ (uh S23)).1
    have lg:=(uh HCX _ (uh S23)).2
    have BX3:=hide ((uh HBX).below (uh S23))
    have fg:=(uh BX3).frozen 1
    have hgw:=(uh HBX).lt
    refine wpAnyH_ready (rs:=[10]) (by kernel_rfl) (by simp) ?_
    refine AllReadyH.cons (o:={ dst:=none,op:=_,type:=_,pos:=_,after:=_,guard:=_ }) rfl (fun KC hK => ?_) (AllReadyH.nil)
    go_simp
    refine hK.out _ _ trivial (fun _ => ?_)
    clear hK KC xg
    (try simp only [Act.put,List.setIfInBounds_toArray,List.set_cons_zero,List.set_cons_succ])
    refine wpAnyH_take (i:=11) (oi:={ dst:=some 7,op:=_,type:=_,pos:=_,after:=_,guard:=_ }) (v:=?vv94) rfl (by kernel_rfl) (by kernel_rfl) (by kernel_rfl) (fun _ _ _ h => h) (Or.inl ⟨by rfl,?hy94⟩) trivial ?rest94
    case hy94 => (intro w9 hSw; (try dsimp only at hSw); go_simp; (first | done | with_reducible rfl))
    (try simp only [Act.put,List.setIfInBounds_toArray,List.set_cons_zero,List.set_cons_succ])
    refine wpAnyH_take (i:=12) (oi:={ dst:=some 8,op:=_,type:=_,pos:=_,after:=_,guard:=_ }) (v:=?vv95) rfl (by kernel_rfl) (by kernel_rfl) (by kernel_rfl) (fun _ _ _ h => h) (Or.inl ⟨by rfl,?hy95⟩) trivial ?rest95
    case hy95 => (intro w9 hSw; (try dsimp only at hSw); go_simp; (first | done | with_reducible rfl))
    (try simp only [Act.put,List.setIfInBounds_toArray,List.set_cons_zero,List.set_cons_succ])
    refine wpAnyH_done (by kernel_rfl) ?_ _
    go_wp2_with fail
    go_meet
    case rel => exact ⟨ps,ns,cs,rfl,rfl,hide (Box.put1 (uh BX3) _),hide (fun c => by
     obtain ⟨LL,h1,h2,h3⟩:=uh HOS c
     exact ⟨LL,(h1.stay (Stay.set8 _) (by have:=H2.size; omega)).mono H2.size,h2,h3⟩),hide ((Stay.below (uh S23) (Nat.le_of_lt hgw)).trans (Stay.set8 _))⟩
  case rest =>
   obtain ⟨ps,ns,cs,rfl,rfl,HBY,HOY,HSY⟩:=hcut
   have hgw:=(uh HBX).lt
   have HNG:Hid (W.heap.size < g ∧ W.heap.size < wk.heap.size):=hide ⟨by have h1:=(uh HNE).1; have h3:=(uh G6).lt; omega,by have h1:=(uh HNE).1; have h3:=(uh G6).lt; omega⟩
   have G7:=hide ((uh HSY).box ((uh G6).below (uh HBE)) (by have:=(uh HNG).1; omega))
   have VY:Hid (Below w.heap.size w wc):=hide (bl_tr7 (bl_tr (uh V4) (uh HBE)) (bl_mono7 (uh HSY).1 (by have:=(uh HNG).1; have:=(uh SZ).1; omega)))
   have xy:=(uh HBY).cell
   have ly:=(uh HBY).lt
   by_cases c1:e1 = 0
   case neg =>
    have HRE:=hide (uh RE1 c1)
    go_upto_region 16 with fail
    go_wp2_with (refine wpList_isStore 32 rfl ?_; (refine wpList_storeG aggGr rfl _ _ rfl rfl rfl (uh G7) rfl rfl grZ_ones ?_; intro w6 b6 s6 _; have B6:=hide b6; have S6:=hide s6; clear b6 s6))
    have hre:=uh HRE
    refine bodyPost_ret (results_gr3 rfl rfl (uh B6) rfl) rfl ⟨noGrA,(by rw [hre]; rfl),(by rw [hre]; rfl),noGr_in _ _,?_⟩
    exact bl_tr7 (uh VY) (bl_mono7 (uh S6).1 (Nat.le_of_lt (uh SZ).1))
   subst c1
   have HRE:=hide (uh HR8 rfl)
   obtain ⟨LL,h1,h2,h3⟩:=uh HOY rfl
   obtain ⟨pq,cq,hq⟩:=h1.slice
   injection hq with hq1 hq2 hq3
   subst hq1; subst hq2; subst hq3
   have HRL:=hide h1
   have HLD2:=hide h2
   have HLM:=hide h3
   clear h1 h2 h3 RE1 HR8 HOY
   have HON:Ones #[Value.slice pv LV.length cv,Value.slice ps LL.length cs,Value.slice pi (inpG M).length cI,Value.slice po out.length cO]:=by
    intro q hq
    simp only [List.mem_cons,List.not_mem_nil,or_false] at hq
    rcases hq with rfl | rfl | rfl | rfl <;> rfl
   have HON2:=hide HON
   clear HON
   go_upto_region 17 with fail
   go_wp2_with (refine wpList_isStore 32 rfl ?_; (refine wpList_storeG aggGr rfl _ _ rfl rfl rfl (uh G7) rfl rfl (uh HON2) ?_; intro w6 b6 s6 _; have B6:=hide b6; have S6:=hide s6; clear b6 s6))
   have hre:=uh HRE
   have hv1:W.heap.size < v1.heap.size:=(uh G3).lt
   have hv4:v4.heap.size ≤ g:=(uh HNE).1
   have hsz:=(uh SZ).1
   have hv14:=(uh BV4).size
   have hv3:v1.heap.size ≤ v3.heap.size:=(uh BV13).size
   have HH1:Hold (fun b => v1.heap.size ≤ b ∧ b ≠ g) wk w6:=(Hold.stay (OK:=fun b => v1.heap.size ≤ b ∧ b ≠ g) (uh HSY) (fun h => h.2 rfl)).trans (Hold.stay (OK:=fun b => v1.heap.size ≤ b ∧ b ≠ g) (uh S6) (fun h => by have:=h.1; omega))
   have HH2:Hold (fun b => v1.heap.size ≤ b ∧ b ≠ g) v4 w6:=(Hold.below (uh HBE)).trans HH1
   have hro6:=((uh HRL).stay (uh S6) (uh HNG).2)
   have hbf:Below w.heap.size w w6:=bl_tr7 (uh VY) (bl_mono7 (uh S6).1 (Nat.le_of_lt hsz))
   obtain ⟨p9,c9',e9,hrc9,hfr9⟩:=(hro6.own (w0:=w) (Nat.le_trans (uh V4).size (Nat.le_of_lt (Nat.lt_of_le_of_lt hv4 hgw))) hbf).form (z:=noGnA) gnWd
   injection e9 with e91 _ e92
   subst e91; subst e92
   refine bodyPost_ret (results_gr3 rfl rfl (uh B6) rfl) rfl ⟨⟨LV,pv,cv,LL,ps,cs,inpG M,pi,cI,out.map fun o => findG L o.nm,po,cO⟩,(by rw [hre]; unfold grV grCells; simp only [List.length_map]; rfl),?_,⟨?_,?_,?_,?_⟩,hbf⟩
   ·rw [hre]
    show (⟨LV.map VgA.d,LL.map GnA.d,inpG M,out.map fun o => findG L o.nm⟩:GrD) = ⟨valsG M,(rowG M L).1,inpG M,M.2.2.2.2.2.map fun v => findG L v.1⟩
    rw [uh HDV,uh HLD2,uh HOUT,List.map_map]
    rfl
   ·exact (Rg.hold vgP ((uh HOV2).mono vgP (OK':=fun b => v1.heap.size ≤ b ∧ b ≠ g) (fun b hb _ => ⟨by omega,hb.2⟩)) HH1).mono vgP (fun b hb _ => by have:=hb.1; omega)
   ·refine ⟨hrc9,fun b o e hp => (hfr9 b o e (by simp only at hp ⊢; omega)).1,fun y hy => ?_⟩
    have h1:=(uh HRN).2.2 y (uh HNKM y (uh HLM y hy))
    exact gnP.mono (gnP.hold (gnP.mono h1 (OK':=fun b => v1.heap.size ≤ b ∧ b ≠ g) (fun b hb hl => ⟨hb,by omega⟩)) HH2) (fun b hb _ => by have:=hb.1; omega)
   ·exact ((((uh HRI).block (fun b hb => (uh HSY).block (fun e => (uh HNE).2.2 (by rw [hb,e])) ((uh HRI).lt9 b hb).2)).block (fun b hb => (uh S6).block (fun e => by have:=((uh HRI).lt9 b hb).1; omega) (Nat.lt_of_lt_of_le ((uh HRI).lt9 b hb).2 (uh HSY).1.size)))).li (uh HWF) rfl (fun b hb => by omega)
   ·exact (((((uh HRO).below (uh HBE)).block (fun b hb => (uh HSY).block (fun e => by have:=((uh HRO).lt9 b hb).2; omega) (Nat.lt_of_lt_of_le ((uh HRO).lt9 b hb).2 (uh HBE).size))).block (fun b hb => (uh S6).block (fun e => by have:=((uh HRO).lt9 b hb).1; omega) (Nat.lt_of_lt_of_le ((uh HRO).lt9 b hb).2 (Nat.le_trans (uh HBE).size (uh HSY).1.size))))).li (uh HWO) (by rw [List.length_map]) (fun b hb => by omega)
end Go.Proofs.YtbmmcbagdomonaaGreat
