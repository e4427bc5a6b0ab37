import Derived.Deep.RegionWith
import Derived.Deep.RegionHeld3
import Derived.Test.YtaikppgoahdjbabGreatV26
set_option maxRecDepth 100000
set_option maxHeartbeats 8000000
namespace Go.Proofs.YtaikppgoahdjbabGreat
open Go.RowKit
set_option linter.unusedVariables false
theorem Stay.keptT {TS:List TypeId} {B g:Nat} {w w':World} (s:Stay g w w') (hB:B ≤ g) (hw:WstE g w) (hf:¬ 69 ∈ TS):Kept TS B w w':=by
 obtain ⟨k,_,_,hk⟩:=hw
 refine ⟨s.1.size,fun b hb _ => s.1.block b (by omega),fun b cur t ht hh => ?_⟩
 have hn:b ≠ g:=fun e => by
  subst e
  unfold Wst Box at hk
  rw [hk] at hh
  simp only [Option.some.injEq,Obj.cells.injEq] at hh
  exact hf (by rw [hh.2.1]; exact ht)
 exact (s.block hn (lt_of_block hh)).trans hh
theorem Kept.setMany {TS:List TypeId} {B b off:Nat} {w:World} {cur:Array Value} {t:TypeId} (h:w.heap[b]? = some (Obj.cells cur t (0,0))) (ht:¬ t ∈ TS) (hB:B ≤ b) (us:List Value):Kept TS B w (setMany w b off us):=by
 refine ⟨Nat.le_of_eq (setMany_size us w b off).symm,fun c hc _ => setMany_other us w b off c (by omega),fun c c2 t2 ht2 hh => ?_⟩
 have hn:c ≠ b:=fun e => by
  subst e
  rw [h] at hh
  simp only [Option.some.injEq,Obj.cells.injEq] at hh
  exact ht (by rw [hh.2.1]; exact ht2)
 exact (setMany_other us w b off c hn).trans hh
theorem RE.setMany {g b:Nat} {f:F3} {w w':World} (h:RE g f w w') (hb:w.heap.size ≤ b) (hg:g < w.heap.size):∀ (us:List Value) (off:Nat),RE g f w (setMany w' b off us)
 | [],off => h
 | u :: us,off => RE.setMany (h.setNew hb hg off u) hb hg us (off + 1)
theorem Mrow.stay {β:Type} {t:TypeId} {cells:β → List Value} {g b:Nat} {w w':World} {xs:List β} (h:Mrow t cells w b xs) (s:Stay g w w') (hb:b ≠ g):Mrow t cells w' b xs:=(s.block hb (lt_of_block h)).trans h
theorem Mrow.rc {β:Type} {k:Nat} {cells:β → List Value} {z:β} {t:TypeId} {w:World} {b:Nat} {xs:List β} (hk:Wd k cells) (h:Mrow t cells w b xs) (hl:xs.length ≤ 9223372036854775807):Rc k cells z w (some ⟨b,0,none⟩) xs.length xs :=
 ⟨Nat.le_refl _,hl,fun _ => ⟨b,0,rfl,lt_of_block h,fun i hi j u hu => by rw [Nat.zero_add]; exact h.at hk hi hu⟩,fun h => by cases h⟩
theorem Mrow.tag {β:Type} {cells:β → List Value} {t:TypeId} {B:Nat} {w:World} {b n:Nat} {xs:List β} (h:Mrow t cells w b xs):Tag t B w (some ⟨b,0,none⟩) n:=fun _ => ⟨b,0,rfl,lt_of_block h,.inr ⟨_,h⟩⟩
theorem getD_app {α:Type} (ys:List α) (x z:α) (i:Nat):(ys ++ [x]).getD i z = if i = ys.length then x else ys.getD i z:=by
 rw [List.getD_eq_getElem?_getD,List.getD_eq_getElem?_getD]
 rcases Nat.lt_trichotomy i ys.length with h | h | h
 ·rw [List.getElem?_append_left h,if_neg (by omega)]
 ·subst h; simp
 ·rw [if_neg (by omega),List.getElem?_eq_none (by simp; omega),List.getElem?_eq_none (by omega)]
theorem getD_rep {α:Type} (ys:List α) (m:Nat) (z:α):(ys ++ List.replicate (m + 1) z).getD ys.length z = z:=by
 rw [List.getD_eq_getElem?_getD,List.getElem?_append_right (Nat.le_refl _),Nat.sub_self]; rfl
def Rl {β:Type} (z:β) (R:FA → β → Prop) (L:List FA) (xs:List β):Prop:=xs.length = L.length ∧ ∀ i,i < L.length → R (L.getD i noFA) (xs.getD i z)
def Made {β:Type} (XI:World → β → Prop) (val:β → Value) (g:Nat) (R:β → Prop) (F:F3) (w:World) (e:Ending) (w':World):Prop:=∃ x,e = .returned (val x) ∧ Hid (R x ∧ XI w' x ∧ RE g F w w')
structure SeA where
 nm:Str
 v:Int
def noSeA:SeA:=⟨[],0⟩
def setC (x:SeA):List Value:=[strV x.nm,.int .i64 x.v]
theorem setWd:Wd 2 setC:=⟨by decide,fun _ => rfl,fun a u hu => by simp [setC] at hu; rcases hu with rfl | rfl <;> rfl⟩
def strC (x:Str):List Value:=[strV x]
theorem strWd:Wd 1 strC:=⟨by decide,fun _ => rfl,fun a u hu => by simp [strC] at hu; subst hu; rfl⟩
theorem Tryz.infoESet:(Tryz.prog.info? 109).map (fun i => (i.zero,i.size,i.bytes)) = some (some (.agg #[.string { data:=#[] },.int .i64 0]),2,24):=by kernel_rfl
theorem cchSet_any (g:Nat) (K:FuncId) (hK:Ent K) (caps:Array Value) (R:FA → SeA → Prop) (F:FA → F3) (q:Option Addr) (d:Nat) (L:List FA) (w:World) (hw:WstE g w) (h:MsIn g w q d L)
  (H:∀ v,Stay g w v → WstE g v → ∀ a ∈ L,FaIn v a → Off g a.q a.d.length → Calls Tryz.prog K (#[faV a] ++ caps) v fun e w' => Made (fun w x => isB x.nm) (fun x => .agg (setC x).toArray) g (R a) (F a) v e w') :
  Calls Tryz.prog 132 #[.slice q L.length d,.func (.func K) #[] caps] w fun e w' => ∃ b xs,e = .returned (.slice (some ⟨b,0,none⟩) xs.length xs.length) ∧ Hid (Rl noSeA R L xs ∧ (∀ x ∈ xs,isB x.nm) ∧ Mrow 109 setC w' b xs ∧ w.heap.size ≤ b ∧ RE g (fAll (L.map F)) w w'):=by
 obtain ⟨i1,hi1,y1,z1,b1⟩:=info_parts Tryz.infoESet
 have hk:∀ (args:Array Value) (v:World),(callFunc K args).run Tryz.prog v = .ok (.enter K args) v:=hK
 have A1:=hide h
 have HH:=hide H
 obtain ⟨s1,_,_⟩:=h.small
 have HW:=hide hw
 have gl:=hw.lt
 clear h H hK hw
 go_enter Tryz.func132,Tryz.ntmps132
 go_wp2_with (at_make; (refine wpList_make_full _ rfl _ _ 106 rfl w.heap.size 109 i1 _ 2 Tryz.underlying106 hi1 y1 z1 _ _ _ _ L.length rfl rfl (by omega) (by omega) (by rw [b1]; omega) (by unfold maxLen; omega) (Nat.le_refl _) ?_; intro w0 hown hgrow; have HM:=hide (Mrow.made setWd noSeA rfl hown); have HB:=hide ((Below.refl w.heap.size w).grown hgrow (Nat.le_refl _) (fun k hk => by cases hk)); clear hown hgrow))
 go_loopw [13] (fun iv wr => ∃ n:Nat,∃ ys:List SeA,iv = .int .i64 n ∧ n ≤ L.length ∧ Hid (ys.length = n ∧ (∀ i,i < n → R (L.getD i noFA) (ys.getD i noSeA)) ∧ (∀ x ∈ ys,isB x.nm) ∧ Mrow 109 setC wr w.heap.size (ys ++ List.replicate (L.length - n) noSeA) ∧ RE g (fAll ((L.take n).map F)) w wr)) (fun iv _ => L.length - (intOf iv).toNat)
 case atStart => exact ⟨0,[],rfl,by omega,hide ⟨rfl,(fun i hi => by omega),(fun x hx => by cases hx),(by rw [List.nil_append]; exact uh HM),RE.below (uh HB) (uh HW)⟩⟩
 case round =>
  obtain ⟨n,ys,rfl,hn,HI⟩:=hrel
  obtain ⟨p1,p2,p3,p4,p5⟩:=uh HI
  have P2:=hide p2
  have P3:=hide p3
  have P4:=hide p4
  have P5:=hide p5
  have hsz:=lt_of_block p4
  clear HI p2 p3 p4 p5
  by_cases hlt:n < L.length
  ·have hi:(n:Int) < (L.length:Int):=by omega
   have MA:=hide ((uh A1).stay (uh P5).1)
   obtain ⟨b,o,rfl,hb,k0,k1,k2,k3⟩:=(uh MA).1.1.at hlt
   have hmem:=getD_memF hlt
   have HX:=hide (fun o => uh HH (wr.alloc o) ((uh P5).1.trans (Stay.below (al1p wr o) (by omega))) (((uh P5).wst (uh HW)).below (al1p wr o)) (L.getD n noFA) hmem (((uh MA).1.2 _ hmem).below (al1p wr o)) ((uh MA).2.2.1 _ hmem))
   have HT:=hide (map_take7 F noFA L n hlt)
   have P2':=hide (fun (x:SeA) (hx:R (L.getD n noFA) x) (i:Nat) (hi:i < n + 1) => ((if e:i = n then (by rw [getD_app,p1,if_pos e,e]; exact hx) else (by rw [getD_app,p1,if_neg e]; exact uh P2 i (by omega))):R (L.getD i noFA) ((ys ++ [x]).getD i noSeA)))
   generalize F (L.getD n noFA) = FX at HX HT
   generalize L.getD n noFA = a at k0 k1 k2 k3 HX P2'
   obtain ⟨an,awr,ax,ad,aq,ac⟩:=a
   unfold faV at HX
   simp only at k0 k1 k2 k3 HX
   clear hmem
   go_wp2_with fail
   refine (uh HX _).mono ?_
   rintro e w1 ⟨x,rfl,hq⟩
   obtain ⟨g1,g2,g3⟩:=uh hq
   have G1:=hide (uh P2' x g1)
   obtain ⟨m,hm⟩:∃ m,L.length - n = m + 1:=⟨L.length - n - 1,by omega⟩
   rw [hm] at P4
   have hne:¬ w.heap.size = g:=by omega
   have M1:=hide (((uh P4).below (al1p wr _)).stay g3.1 hne)
   have hl:(ys ++ List.replicate (m + 1) noSeA).length = L.length:=by rw [List.length_append,p1,List.length_replicate]; omega
   have HZ:Hid ((ys ++ List.replicate (m + 1) noSeA).getD n noSeA = noSeA):=hide (by rw [← p1]; exact getD_rep ys m noSeA)
   have s1':w.heap.size < w1.heap.size:=lt_of_block (uh M1)
   have c0:w1.cell? ⟨w.heap.size,n * 2,none⟩ = some (.string { data:=#[] }):=by
    have:=Mrow.at setWd (z:=noSeA) (uh M1) (i:=n) (j:=0) (u:=.string { data:=#[] }) (by omega) (by rw [uh HZ]; rfl)
    exact this
   have c1:w1.cell? ⟨w.heap.size,n * 2 + 1,none⟩ = some (.int .i64 0):=by
    have:=Mrow.at setWd (z:=noSeA) (uh M1) (i:=n) (j:=1) (u:=.int .i64 0) (by omega) (by rw [uh HZ]; rfl)
    exact this
   have f1:=(uh M1).frozen
   have M2:=hide (Mrow.set setWd (uh M1) x (i:=n) (by omega))
   have e1:(ys ++ List.replicate (m + 1) noSeA).set n x = (ys ++ [x]) ++ List.replicate m noSeA:=by rw [← p1]; exact set_mid ys m noSeA x
   rw [e1] at M2
   have R1:=hide ((((uh P5).trans (RE.below (al1p wr _) ((uh P5).wst (uh HW)))).trans g3).setMany (Nat.le_refl _) gl (setC x) (n * 2))
   rw [f3_no] at R1
   have X1:Hid (∀ y ∈ ys ++ [x],isB y.nm):=hide (fun y hy => by
    have kk:Kept [] 0 w1 (setMany w1 w.heap.size (n * 2) (setC x)):=Kept.setMany (uh M1) (by decide) (by omega) _
    rcases List.mem_append.1 hy with hy | hy
    ·exact (uh P3 y hy)
    ·simp at hy; subst hy
     exact g2)
   have RF:Hid (fAll ((L.take (n + 1)).map F) = f3 (fAll ((L.take n).map F)) FX):=hide (by rw [uh HT,fAll_append]; simp [fAll,no_f3])
   rw [← uh RF] at R1
   have hyl:(ys ++ [x]).length = n + 1:=by rw [List.length_append,p1]; rfl
   clear hq g1 g2 g3 e1 HT HX P2' P2 P3 P4 P5 RF hl M1 HZ
   try simp only [Nat.mul_one] at M2 R1 X1
   unfold setC strV at M2 R1 ⊢
   go_wp2_with fail
   go_roundw
   case rel => exact ⟨n + 1,ys ++ [x],by go_num,by omega,hide ⟨hyl,uh G1,uh X1,by rw [show L.length - (n + 1) = m by omega]; exact uh M2,uh R1⟩⟩
   case measure => simp [intOf]; omega
  ·have hi:¬ (n:Int) < (L.length:Int):=by omega
   have en:n = L.length:=by omega
   subst en
   rw [Nat.sub_self,List.replicate_zero,List.append_nil] at P4
   rw [List.take_of_length_le (Nat.le_refl _)] at P5
   have HE:=hide p1
   clear p1
   go_wp2_with fail
   go_ret
   exact ⟨w.heap.size,ys,by rw [uh HE]; rfl,hide ⟨⟨uh HE,uh P2⟩,uh P3,uh P4,Nat.le_refl _,uh P5⟩⟩
theorem wst_ne {g k:Nat} {w:World} {cs:Array Value} {t:TypeId} (hw:WstE g w) (h:Box w k cs t) (ht:t ≠ 69):k ≠ g:=fun e => by
 subst e
 obtain ⟨j,_,_,hj⟩:=hw
 unfold Wst at hj
 unfold Box at h hj
 rw [h] at hj
 simp only [Option.some.injEq,Obj.cells.injEq] at hj
 exact ht hj.2.1
def dsV (l:List Fld) (num:Int):List (List Int):=(allV l num).map fun f => f.2.2.2
def Rb {β:Type} (z:β) (R:List Int → β → Prop) (ds:List (List Int)) (xs:List β):Prop:=xs.length = ds.length ∧ ∀ i,i < ds.length → R (ds.getD i []) (xs.getD i z)
theorem allA_map (L:List FA) (num:Int):(allA L num).map FA.f = allV (L.map FA.f) num:=by
 unfold allA allV
 rw [List.filter_map]; rfl
theorem all_sum {L LA:List FA} {num:Int} (h:sumD L + L.length ≤ 4194304) (hL:LA.map FA.f = (allA L num).map FA.f):sumD LA + LA.length ≤ 4194304:=by
 have e1:sumD LA = sumD (allA L num):=by
  have h1:(LA.map FA.f).map (fun f => f.2.2.2.length) = ((allA L num).map FA.f).map (fun f => f.2.2.2.length):=by rw [hL]
  rw [List.map_map,List.map_map] at h1
  unfold sumD
  exact congrArg List.sum h1
 have e2:LA.length = (allA L num).length:=by
  have:=congrArg List.length hL
  rwa [List.length_map,List.length_map] at this
 have e3:=sumD_all L num
 have e4:(allA L num).length ≤ L.length:=by unfold allA; exact List.length_filter_le _ _
 omega
theorem getD_map7 {α β:Type} (f:α → β) (z:α) (l:List α) (i:Nat) (h:i < l.length) (y:β):(l.map f).getD i y = f (l.getD i z):=by
 rw [List.getD_eq_getElem?_getD,List.getD_eq_getElem?_getD,List.getElem?_map,List.getElem?_eq_getElem h]; rfl
theorem rows_end {β:Type} {z:β} {R:List Int → β → Prop} {L LA:List FA} {num:Int} {xs:List β} (hL:LA.map FA.f = (allA L num).map FA.f) (h:Rl z (fun a x => R a.d x) LA xs):Rb z R (dsV (L.map FA.f) num) xs:=by
 have e:dsV (L.map FA.f) num = LA.map (fun a => a.d):=by
  unfold dsV
  rw [← allA_map,← hL,List.map_map]; rfl
 rw [e]
 refine ⟨by rw [List.length_map]; exact h.1,fun i hi => ?_⟩
 rw [List.length_map] at hi
 rw [getD_map7 (fun a:FA => a.d) noFA LA i hi]
 exact h.2 i hi
theorem fAll_map2 {α:Type} (A B:α → F3):∀ l:List α,lev (fAll (l.map fun a => f3 (A a) (B a))) = max (lev (fAll (l.map A))) (lev (fAll (l.map B)))
 | [] => rfl
 | x :: r => by
   rw [List.map_cons,List.map_cons,List.map_cons,fAll_cons,fAll_cons,fAll_cons,lev_f3,lev_f3,lev_f3,lev_f3,fAll_map2 A B r]
   omega
theorem fAll_bad {α:Type} (p:α → Bool):∀ l:List α,fAll (l.map fun a => bad3 (p a)) = bad3 (l.any p)
 | [] => rfl
 | x :: r => by
   rw [List.map_cons,fAll_cons,fAll_bad p r,List.any_cons]; simp [f3,bad3]
theorem rows_lev {L LA:List FA} {num:Int} (hL:LA.map FA.f = (allA L num).map FA.f) (F:List Int → F3):lev (f3 no3 (fAll (LA.map fun a => f3 (bad3 (a.wr != 2)) (F a.d)))) = lev (f3 (bad3 ((allV (L.map FA.f) num).any fun f => f.2.1 != 2)) (fAll ((dsV (L.map FA.f) num).map F))):=by
 rw [no_f3,fAll_map2 (fun a:FA => bad3 (a.wr != 2)) (fun a => F a.d),fAll_bad,lev_f3]
 have e1:dsV (L.map FA.f) num = LA.map (fun a => a.d):=by
  unfold dsV
  rw [← allA_map,← hL,List.map_map]; rfl
 have e2:((allV (L.map FA.f) num).any fun f => f.2.1 != 2) = LA.any (fun a => a.wr != 2):=by
  rw [← allA_map,← hL,List.any_map]; rfl
 rw [e1,e2,List.map_map]
 rfl
theorem Tryz.infoEAttr:(Tryz.prog.info? 120).map (fun i => (i.zero,i.size,i.bytes)) = some (some (.agg #[.string { data:=#[] },.int .i64 0,.int .u32 0,.int .i64 0,.string { data:=#[] },.int .i64 0,.slice none 0 0,.slice none 0 0,.slice none 0 0,.slice none 0 0,.slice none 0 0,.slice none 0 0]),12,208):=by kernel_rfl
theorem cchAttr_any (g:Nat) (K:FuncId) (hK:Ent K) (caps:Array Value) (R:FA → AtA → Prop) (F:FA → F3) (q:Option Addr) (d:Nat) (L:List FA) (w:World) (hw:WstE g w) (h:MsIn g w q d L)
  (H:∀ v,Stay g w v → WstE g v → ∀ a ∈ L,FaIn v a → Off g a.q a.d.length → Calls Tryz.prog K (#[faV a] ++ caps) v fun e w' => Made (fun w x => AtIn 0 w x) (fun x => .agg (atCells x).toArray) g (R a) (F a) v e w') :
  Calls Tryz.prog 191 #[.slice q L.length d,.func (.func K) #[] caps] w fun e w' => ∃ b xs,e = .returned (.slice (some ⟨b,0,none⟩) xs.length xs.length) ∧ Hid (Rl noAtA R L xs ∧ (∀ x ∈ xs,AtIn 0 w' x) ∧ Mrow 120 atCells w' b xs ∧ w.heap.size ≤ b ∧ RE g (fAll (L.map F)) w w'):=by
 obtain ⟨i1,hi1,y1,z1,b1⟩:=info_parts Tryz.infoEAttr
 have hk:∀ (args:Array Value) (v:World),(callFunc K args).run Tryz.prog v = .ok (.enter K args) v:=hK
 have A1:=hide h
 have HH:=hide H
 obtain ⟨s1,_,_⟩:=h.small
 have HW:=hide hw
 have gl:=hw.lt
 clear h H hK hw
 go_enter Tryz.func191,Tryz.ntmps191
 go_wp2_with (at_make; (refine wpList_make_full _ rfl _ _ 79 rfl w.heap.size 120 i1 _ 12 Tryz.underlying79 hi1 y1 z1 _ _ _ _ L.length rfl rfl (by omega) (by omega) (by rw [b1]; omega) (by unfold maxLen; omega) (Nat.le_refl _) ?_; intro w0 hown hgrow; have HM:=hide (Mrow.made atWd noAtA rfl hown); have HB:=hide ((Below.refl w.heap.size w).grown hgrow (Nat.le_refl _) (fun k hk => by cases hk)); clear hown hgrow))
 go_loopw [13] (fun iv wr => ∃ n:Nat,∃ ys:List AtA,iv = .int .i64 n ∧ n ≤ L.length ∧ Hid (ys.length = n ∧ (∀ i,i < n → R (L.getD i noFA) (ys.getD i noAtA)) ∧ (∀ x ∈ ys,AtIn 0 wr x) ∧ Mrow 120 atCells wr w.heap.size (ys ++ List.replicate (L.length - n) noAtA) ∧ RE g (fAll ((L.take n).map F)) w wr)) (fun iv _ => L.length - (intOf iv).toNat)
 case atStart => exact ⟨0,[],rfl,by omega,hide ⟨rfl,(fun i hi => by omega),(fun x hx => by cases hx),(by rw [List.nil_append]; exact uh HM),RE.below (uh HB) (uh HW)⟩⟩
 case round =>
  obtain ⟨n,ys,rfl,hn,HI⟩:=hrel
  obtain ⟨p1,p2,p3,p4,p5⟩:=uh HI
  have P2:=hide p2
  have P3:=hide p3
  have P4:=hide p4
  have P5:=hide p5
  have hsz:=lt_of_block p4
  clear HI p2 p3 p4 p5
  by_cases hlt:n < L.length
  ·have hi:(n:Int) < (L.length:Int):=by omega
   have MA:=hide ((uh A1).stay (uh P5).1)
   obtain ⟨b,o,rfl,hb,k0,k1,k2,k3⟩:=(uh MA).1.1.at hlt
   have hmem:=getD_memF hlt
   have HX:=hide (fun o => uh HH (wr.alloc o) ((uh P5).1.trans (Stay.below (al1p wr o) (by omega))) (((uh P5).wst (uh HW)).below (al1p wr o)) (L.getD n noFA) hmem (((uh MA).1.2 _ hmem).below (al1p wr o)) ((uh MA).2.2.1 _ hmem))
   have HT:=hide (map_take7 F noFA L n hlt)
   have P2':=hide (fun (x:AtA) (hx:R (L.getD n noFA) x) (i:Nat) (hi:i < n + 1) => ((if e:i = n then (by rw [getD_app,p1,if_pos e,e]; exact hx) else (by rw [getD_app,p1,if_neg e]; exact uh P2 i (by omega))):R (L.getD i noFA) ((ys ++ [x]).getD i noAtA)))
   generalize F (L.getD n noFA) = FX at HX HT
   generalize L.getD n noFA = a at k0 k1 k2 k3 HX P2'
   obtain ⟨an,awr,ax,ad,aq,ac⟩:=a
   unfold faV at HX
   simp only at k0 k1 k2 k3 HX
   clear hmem
   go_wp2_with fail
   refine (uh HX _).mono ?_
   rintro e w1 ⟨x,rfl,hq⟩
   obtain ⟨g1,g2,g3⟩:=uh hq
   have G1:=hide (uh P2' x g1)
   obtain ⟨m,hm⟩:∃ m,L.length - n = m + 1:=⟨L.length - n - 1,by omega⟩
   rw [hm] at P4
   have hne:¬ w.heap.size = g:=by omega
   have M1:=hide (((uh P4).below (al1p wr _)).stay g3.1 hne)
   have hl:(ys ++ List.replicate (m + 1) noAtA).length = L.length:=by rw [List.length_append,p1,List.length_replicate]; omega
   have HZ:Hid ((ys ++ List.replicate (m + 1) noAtA).getD n noAtA = noAtA):=hide (by rw [← p1]; exact getD_rep ys m noAtA)
   have s1':w.heap.size < w1.heap.size:=lt_of_block (uh M1)
   have c0:w1.cell? ⟨w.heap.size,n * 12,none⟩ = some (.string { data:=#[] }):=by
    have:=Mrow.at atWd (z:=noAtA) (uh M1) (i:=n) (j:=0) (u:=.string { data:=#[] }) (by omega) (by rw [uh HZ]; rfl)
    exact this
   have c1:w1.cell? ⟨w.heap.size,n * 12 + 1,none⟩ = some (.int .i64 0):=by
    have:=Mrow.at atWd (z:=noAtA) (uh M1) (i:=n) (j:=1) (u:=.int .i64 0) (by omega) (by rw [uh HZ]; rfl)
    exact this
   have c2:w1.cell? ⟨w.heap.size,n * 12 + 2,none⟩ = some (.int .u32 0):=by
    have:=Mrow.at atWd (z:=noAtA) (uh M1) (i:=n) (j:=2) (u:=.int .u32 0) (by omega) (by rw [uh HZ]; rfl)
    exact this
   have c3:w1.cell? ⟨w.heap.size,n * 12 + 3,none⟩ = some (.int .i64 0):=by
    have:=Mrow.at atWd (z:=noAtA) (uh M1) (i:=n) (j:=3) (u:=.int .i64 0) (by omega) (by rw [uh HZ]; rfl)
    exact this
   have c4:w1.cell? ⟨w.heap.size,n * 12 + 4,none⟩ = some (.string { data:=#[] }):=by
    have:=Mrow.at atWd (z:=noAtA) (uh M1) (i:=n) (j:=4) (u:=.string { data:=#[] }) (by omega) (by rw [uh HZ]; rfl)
    exact this
   have c5:w1.cell? ⟨w.heap.size,n * 12 + 5,none⟩ = some (.int .i64 0):=by
    have:=Mrow.at atWd (z:=noAtA) (uh M1) (i:=n) (j:=5) (u:=.int .i64 0) (by omega) (by rw [uh HZ]; rfl)
    exact this
   have c6:w1.cell? ⟨w.heap.size,n * 12 + 6,none⟩ = some (.slice none 0 0):=by
    have:=Mrow.at atWd (z:=noAtA) (uh M1) (i:=n) (j:=6) (u:=.slice none 0 0) (by omega) (by rw [uh HZ]; rfl)
    exact this
   have c7:w1.cell? ⟨w.heap.size,n * 12 + 7,none⟩ = some (.slice none 0 0):=by
    have:=Mrow.at atWd (z:=noAtA) (uh M1) (i:=n) (j:=7) (u:=.slice none 0 0) (by omega) (by rw [uh HZ]; rfl)
    exact this
   have c8:w1.cell? ⟨w.heap.size,n * 12 + 8,none⟩ = some (.slice none 0 0):=by
    have:=Mrow.at atWd (z:=noAtA) (uh M1) (i:=n) (j:=8) (u:=.slice none 0 0) (by omega) (by rw [uh HZ]; rfl)
    exact this
   have c9:w1.cell? ⟨w.heap.size,n * 12 + 9,none⟩ = some (.slice none 0 0):=by
    have:=Mrow.at atWd (z:=noAtA) (uh M1) (i:=n) (j:=9) (u:=.slice none 0 0) (by omega) (by rw [uh HZ]; rfl)
    exact this
   have c10:w1.cell? ⟨w.heap.size,n * 12 + 10,none⟩ = some (.slice none 0 0):=by
    have:=Mrow.at atWd (z:=noAtA) (uh M1) (i:=n) (j:=10) (u:=.slice none 0 0) (by omega) (by rw [uh HZ]; rfl)
    exact this
   have c11:w1.cell? ⟨w.heap.size,n * 12 + 11,none⟩ = some (.slice none 0 0):=by
    have:=Mrow.at atWd (z:=noAtA) (uh M1) (i:=n) (j:=11) (u:=.slice none 0 0) (by omega) (by rw [uh HZ]; rfl)
    exact this
   have f1:=(uh M1).frozen
   have M2:=hide (Mrow.set atWd (uh M1) x (i:=n) (by omega))
   have e1:(ys ++ List.replicate (m + 1) noAtA).set n x = (ys ++ [x]) ++ List.replicate m noAtA:=by rw [← p1]; exact set_mid ys m noAtA x
   rw [e1] at M2
   have R1:=hide ((((uh P5).trans (RE.below (al1p wr _) ((uh P5).wst (uh HW)))).trans g3).setMany (Nat.le_refl _) gl (atCells x) (n * 12))
   rw [f3_no] at R1
   have X1:Hid (∀ y ∈ ys ++ [x],AtIn 0 (setMany w1 w.heap.size (n * 12) (atCells x)) y):=hide (fun y hy => by
    have kk:Kept tenTS 0 w1 (setMany w1 w.heap.size (n * 12) (atCells x)):=Kept.setMany (uh M1) (by decide) (by omega) _
    rcases List.mem_append.1 hy with hy | hy
    ·exact (uh P3 y hy).kept (fun _ h => h) (((Kept.below (TS:=tenTS) (B:=0) (al1p wr _)).trans (g3.1.keptT (Nat.zero_le _) (((uh P5).wst (uh HW)).below (al1p wr _)) (by decide))).trans kk)
    ·simp at hy; subst hy
     exact g2.kept (fun _ h => h) (kk))
   have RF:Hid (fAll ((L.take (n + 1)).map F) = f3 (fAll ((L.take n).map F)) FX):=hide (by rw [uh HT,fAll_append]; simp [fAll,no_f3])
   rw [← uh RF] at R1
   have hyl:(ys ++ [x]).length = n + 1:=by rw [List.length_append,p1]; rfl
   clear hq g1 g2 g3 e1 HT HX P2' P2 P3 P4 P5 RF hl M1 HZ
   try simp only [Nat.mul_one] at M2 R1 X1
   unfold atCells tenCells strV at M2 R1 X1 ⊢
   simp only [List.cons_append,List.nil_append] at M2 R1 X1 ⊢
   go_wp2_with fail
   go_roundw
   case rel => exact ⟨n + 1,ys ++ [x],by go_num,by omega,hide ⟨hyl,uh G1,uh X1,by rw [show L.length - (n + 1) = m by omega]; exact uh M2,uh R1⟩⟩
   case measure => simp [intOf]; omega
  ·have hi:¬ (n:Int) < (L.length:Int):=by omega
   have en:n = L.length:=by omega
   subst en
   rw [Nat.sub_self,List.replicate_zero,List.append_nil] at P4
   rw [List.take_of_length_le (Nat.le_refl _)] at P5
   have HE:=hide p1
   clear p1
   go_wp2_with fail
   go_ret
   exact ⟨w.heap.size,ys,by rw [uh HE]; rfl,hide ⟨⟨uh HE,uh P2⟩,uh P3,uh P4,Nat.le_refl _,uh P5⟩⟩
end Go.Proofs.YtaikppgoahdjbabGreat
