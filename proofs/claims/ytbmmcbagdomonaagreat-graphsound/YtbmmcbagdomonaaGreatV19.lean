import Derived.Laws.CopyOwn
import Derived.Deep.RegionHeld3
import Derived.Test.YtbmmcbagdomonaaGreatV02
import Derived.Test.YtbmmcbagdomonaaGreatV03
import Derived.Test.YtbmmcbagdomonaaGreatV18
set_option maxRecDepth 100000
set_option maxHeartbeats 40000000
namespace Go.Proofs.YtbmmcbagdomonaaGreat
open Go.RowKit
set_option linter.unusedVariables false
theorem al1 (w:World) (o:Obj):Below w.heap.size w (w.alloc o):=(Below.refl _ _).alloc (Nat.le_refl _) _
def okLen (T:Ten):Prop:=T.2.1.length * 8 ≤ 140737488355328 ∧ T.2.2.1.length * 4 ≤ 140737488355328 ∧ T.2.2.2.1.length * 8 ≤ 140737488355328 ∧ T.2.2.2.2.length ≤ 140737488355328
theorem Tryz.szInt:(Tryz.prog.info? 3).map (·.size) = some 1:=by kernel_rfl
theorem Tryz.szU32:(Tryz.prog.info? 43).map (·.size) = some 1:=by kernel_rfl
theorem Tryz.szI64:(Tryz.prog.info? 2).map (·.size) = some 1:=by kernel_rfl
theorem Tryz.szB:(Tryz.prog.info? 4).map (·.size) = some 1:=by kernel_rfl
theorem row_ls {α:Type} [Inhabited α] {f:α → Value} {w:World} {g:Nat} {t:TypeId} {xs:List α} (h:w.heap[g]? = some (.cells (xs.map f).toArray t (0,0))) (hl:xs.length ≤ 9223372036854775807):Ls f w (some ⟨g,0,none⟩) xs.length xs:=by
 refine ⟨Nat.le_refl _,hl,fun _ => ⟨g,0,rfl,lt_of_block h,fun i hi => ?_⟩,fun h => by cases h⟩
 simp [World.cell?,h,List.getElem?_eq_getElem hi]
theorem row_fresh {w:World} {g n B:Nat} {t:TypeId} {cs:Array Value} (h:w.heap[g]? = some (.cells cs t (0,0))) (hB:B ≤ g):Fresh B w (some ⟨g,0,none⟩) n:=by
 intro b o e _
 simp only [Option.some.injEq,Addr.mk.injEq] at e
 obtain ⟨rfl,rfl,_⟩:=e
 exact ⟨hB,fun i _ => by simp [World.frozen?,h]⟩
theorem made_row {t:TypeId} {z:Value} {wq w1:World} {n:Nat} (hz:z.cells = #[z]) (hown:w1.ownsRow wq.heap.size t 1 (.slice (some ⟨wq.heap.size,0,none⟩) n n) n (madeCells z.cells (n * 1)).toList):w1.heap[wq.heap.size]? = some (.cells (List.replicate n z).toArray t (0,0)):=by
 obtain ⟨_,h⟩:=hown
 rcases h with ⟨h,_⟩ | ⟨g,cap,cur,h,_,hh,hc,hm,hs,ht⟩
 ·cases h
 ·simp only [Value.slice.injEq,Option.some.injEq,Addr.mk.injEq] at h
  obtain ⟨⟨rfl,_⟩,_,rfl⟩:=h
  rw [hh]
  have e:(madeCells z.cells (n * 1)).toList = List.replicate n z:=by rw [Nat.mul_one,hz,toList_madeCells_one]
  rw [e] at ht
  have e2:cur.toList = List.replicate n z:=by
   rw [← ht,List.take_of_length_le]
   simp [hs]
  rw [← e2]
theorem splice_all {α:Type} (L cs:List α) (h:L.length = cs.length):splice L 0 cs = cs:=by
 unfold splice
 simp [← h]
theorem copied_int (p:Option Addr) (c:Nat) (xs:List Int) (w:World) (h:Ls (Value.int .i64) w p c xs) (hs:xs.length * 8 ≤ 140737488355328) :
  Calls Tryz.prog 82 #[.slice p xs.length c] w fun e w' => (∃ q d,e = .returned (.slice q xs.length d) ∧ Ls (Value.int .i64) w' q d xs ∧ Fresh w.heap.size w' q xs.length) ∧ Below w.heap.size w w':=by
 obtain ⟨i1,hi1,y1,z1,b1⟩:=info_parts Tryz.infoInt
 have A1:=hide h
 clear h
 go_enter Tryz.func82,Tryz.ntmps82
 go_wp2_with (first
  | (at_make; (refine wpList_make_full _ rfl _ _ 30 rfl w.heap.size 3 i1 (.int .i64 0) 1 Tryz.underlying30 hi1 y1 z1 _ _ _ _ xs.length rfl rfl (by omega) (by omega) (by rw [b1]; omega) (by unfold maxLen; omega) (Nat.le_refl _) ?_; intro w1 hown hgrow; have R1:=hide (made_row rfl hown); have B1:=hide (((Below.refl w.heap.size w).grown hgrow (Nat.le_refl _) (fun k hk => by cases hk))); clear hown hgrow))
  | ((refine wpList_copy_splice rfl (.tmp 7) (.tmp 8) 30 30 rfl 3 Tryz.underlying30 Tryz.szInt _ _ _ _ _ _ rfl rfl w.heap.size 0 _ _ (uh R1) (xs.map (Value.int .i64)) (by rw [List.length_map]; exact (Nat.min_self _).symm) (fun hp => ⟨rfl,by obtain ⟨b,o,e,_,hc⟩:=((uh A1).below (uh B1)).lies (by simpa using hp); exact ⟨_,e,lsMap_cells hc⟩⟩) (by simp) (fun v hv => by obtain ⟨y,_,rfl⟩:=List.mem_map.1 hv; exact int_one .i64 y) w.heap.size w (uh B1) (Nat.le_refl _) ?_; intro w2 R2 B2; replace B2:=hide B2)))
 go_ret
 have R3:=uh R2
 rw [splice_all _ _ (by simp)] at R3
 exact ⟨⟨_,_,rfl,row_ls R3 (by have:=(uh A1).len; omega),row_fresh R3 (Nat.le_refl _)⟩,uh B2⟩
theorem copied_uint32 (p:Option Addr) (c:Nat) (xs:List Int) (w:World) (h:Ls (Value.int .u32) w p c xs) (hs:xs.length * 4 ≤ 140737488355328) :
  Calls Tryz.prog 83 #[.slice p xs.length c] w fun e w' => (∃ q d,e = .returned (.slice q xs.length d) ∧ Ls (Value.int .u32) w' q d xs ∧ Fresh w.heap.size w' q xs.length) ∧ Below w.heap.size w w':=by
 obtain ⟨i1,hi1,y1,z1,b1⟩:=info_parts Tryz.infoU32
 have A1:=hide h
 clear h
 go_enter Tryz.func83,Tryz.ntmps83
 go_wp2_with (first
  | (at_make; (refine wpList_make_full _ rfl _ _ 44 rfl w.heap.size 43 i1 (.int .u32 0) 1 Tryz.underlying44 hi1 y1 z1 _ _ _ _ xs.length rfl rfl (by omega) (by omega) (by rw [b1]; omega) (by unfold maxLen; omega) (Nat.le_refl _) ?_; intro w1 hown hgrow; have R1:=hide (made_row rfl hown); have B1:=hide (((Below.refl w.heap.size w).grown hgrow (Nat.le_refl _) (fun k hk => by cases hk))); clear hown hgrow))
  | ((refine wpList_copy_splice rfl (.tmp 7) (.tmp 8) 44 44 rfl 43 Tryz.underlying44 Tryz.szU32 _ _ _ _ _ _ rfl rfl w.heap.size 0 _ _ (uh R1) (xs.map (Value.int .u32)) (by rw [List.length_map]; exact (Nat.min_self _).symm) (fun hp => ⟨rfl,by obtain ⟨b,o,e,_,hc⟩:=((uh A1).below (uh B1)).lies (by simpa using hp); exact ⟨_,e,lsMap_cells hc⟩⟩) (by simp) (fun v hv => by obtain ⟨y,_,rfl⟩:=List.mem_map.1 hv; exact int_one .u32 y) w.heap.size w (uh B1) (Nat.le_refl _) ?_; intro w2 R2 B2; replace B2:=hide B2)))
 go_ret
 have R3:=uh R2
 rw [splice_all _ _ (by simp)] at R3
 exact ⟨⟨_,_,rfl,row_ls R3 (by have:=(uh A1).len; omega),row_fresh R3 (Nat.le_refl _)⟩,uh B2⟩
theorem copied_int64 (p:Option Addr) (c:Nat) (xs:List Int) (w:World) (h:Ls (Value.int .i64) w p c xs) (hs:xs.length * 8 ≤ 140737488355328) :
  Calls Tryz.prog 84 #[.slice p xs.length c] w fun e w' => (∃ q d,e = .returned (.slice q xs.length d) ∧ Ls (Value.int .i64) w' q d xs ∧ Fresh w.heap.size w' q xs.length) ∧ Below w.heap.size w w':=by
 obtain ⟨i1,hi1,y1,z1,b1⟩:=info_parts Tryz.infoI64T
 have A1:=hide h
 clear h
 go_enter Tryz.func84,Tryz.ntmps84
 go_wp2_with (first
  | (at_make; (refine wpList_make_full _ rfl _ _ 45 rfl w.heap.size 2 i1 (.int .i64 0) 1 Tryz.underlying45 hi1 y1 z1 _ _ _ _ xs.length rfl rfl (by omega) (by omega) (by rw [b1]; omega) (by unfold maxLen; omega) (Nat.le_refl _) ?_; intro w1 hown hgrow; have R1:=hide (made_row rfl hown); have B1:=hide (((Below.refl w.heap.size w).grown hgrow (Nat.le_refl _) (fun k hk => by cases hk))); clear hown hgrow))
  | ((refine wpList_copy_splice rfl (.tmp 7) (.tmp 8) 45 45 rfl 2 Tryz.underlying45 Tryz.szI64 _ _ _ _ _ _ rfl rfl w.heap.size 0 _ _ (uh R1) (xs.map (Value.int .i64)) (by rw [List.length_map]; exact (Nat.min_self _).symm) (fun hp => ⟨rfl,by obtain ⟨b,o,e,_,hc⟩:=((uh A1).below (uh B1)).lies (by simpa using hp); exact ⟨_,e,lsMap_cells hc⟩⟩) (by simp) (fun v hv => by obtain ⟨y,_,rfl⟩:=List.mem_map.1 hv; exact int_one .i64 y) w.heap.size w (uh B1) (Nat.le_refl _) ?_; intro w2 R2 B2; replace B2:=hide B2)))
 go_ret
 have R3:=uh R2
 rw [splice_all _ _ (by simp)] at R3
 exact ⟨⟨_,_,rfl,row_ls R3 (by have:=(uh A1).len; omega),row_fresh R3 (Nat.le_refl _)⟩,uh B2⟩
theorem copied_bool (p:Option Addr) (c:Nat) (xs:List Bool) (w:World) (h:Ls (Value.bool) w p c xs) (hs:xs.length * 1 ≤ 140737488355328) :
  Calls Tryz.prog 85 #[.slice p xs.length c] w fun e w' => (∃ q d,e = .returned (.slice q xs.length d) ∧ Ls (Value.bool) w' q d xs ∧ Fresh w.heap.size w' q xs.length) ∧ Below w.heap.size w w':=by
 obtain ⟨i1,hi1,y1,z1,b1⟩:=info_parts Tryz.infoBT
 have A1:=hide h
 clear h
 go_enter Tryz.func85,Tryz.ntmps85
 go_wp2_with (first
  | (at_make; (refine wpList_make_full _ rfl _ _ 39 rfl w.heap.size 4 i1 (.bool false) 1 Tryz.underlying39 hi1 y1 z1 _ _ _ _ xs.length rfl rfl (by omega) (by omega) (by rw [b1]; omega) (by unfold maxLen; omega) (Nat.le_refl _) ?_; intro w1 hown hgrow; have R1:=hide (made_row rfl hown); have B1:=hide (((Below.refl w.heap.size w).grown hgrow (Nat.le_refl _) (fun k hk => by cases hk))); clear hown hgrow))
  | ((refine wpList_copy_splice rfl (.tmp 7) (.tmp 8) 39 39 rfl 4 Tryz.underlying39 Tryz.szB _ _ _ _ _ _ rfl rfl w.heap.size 0 _ _ (uh R1) (xs.map (Value.bool)) (by rw [List.length_map]; exact (Nat.min_self _).symm) (fun hp => ⟨rfl,by obtain ⟨b,o,e,_,hc⟩:=((uh A1).below (uh B1)).lies (by simpa using hp); exact ⟨_,e,lsMap_cells hc⟩⟩) (by simp) (fun v hv => by obtain ⟨y,_,rfl⟩:=List.mem_map.1 hv; exact bool_one y) w.heap.size w (uh B1) (Nat.le_refl _) ?_; intro w2 R2 B2; replace B2:=hide B2)))
 go_ret
 have R3:=uh R2
 rw [splice_all _ _ (by simp)] at R3
 exact ⟨⟨_,_,rfl,row_ls R3 (by have:=(uh A1).len; omega),row_fresh R3 (Nat.le_refl _)⟩,uh B2⟩
theorem Ls.store {α:Type} [Inhabited α] {f:α → Value} {w:World} {b o c:Nat} {xs:List α} (h:Ls f w (some ⟨b,o,none⟩) c xs) (i:Nat) (hi:i < xs.length) (x:α) :
  Ls f (w.setCell ⟨b,o + i,none⟩ (f x)) (some ⟨b,o,none⟩) c (xs.set i x):=by
 obtain ⟨b',o',e,g1,g2⟩:=h.lies (by omega)
 simp only [Option.some.injEq,Addr.mk.injEq] at e
 obtain ⟨rfl,rfl,_⟩:=e
 refine ⟨by simpa using h.1,h.2.1,fun hp => ⟨b,o,rfl,by simpa [World.setCell] using g1,fun j hj => ?_⟩,fun h => by cases h⟩
 rw [List.length_set] at hj
 by_cases e:i = j
 ·subst e
  rw [World.cell?_setCell_same _ _ _ (g2 i hi),List.getD_eq_getElem?_getD,List.getElem?_set]
  simp [hi]
 ·rw [World.cell?_setCell_other _ _ _ _ (fun h => e (by simp only [Addr.mk.injEq] at h; omega)),g2 j hj,List.getD_eq_getElem?_getD,List.getD_eq_getElem?_getD,List.getElem?_set,if_neg e]
theorem Ls.farT {α:Type} [Inhabited α] {f:α → Value} {w:World} {p:Option Addr} {c b k:Nat} {v:Value} {xs:List α} (h:Ls f w p c xs) (hne:∀ b' o',p = some ⟨b',o',none⟩ → 0 < xs.length → b' ≠ b):Ls f (w.setCell ⟨b,k,none⟩ v) p c xs:=by
 obtain ⟨h1,h2,h4,h5⟩:=h
 refine ⟨h1,h2,fun hp => ?_,h5⟩
 obtain ⟨b',o',e,g1,g2⟩:=h4 hp
 exact ⟨b',o',e,by simpa [World.setCell] using g1,fun i hi => (World.cell?_setCell_other _ _ _ _ (fun h => hne b' o' e hp (by simp only [Addr.mk.injEq] at h; omega))).trans (g2 i hi)⟩
theorem Fresh.setT {B:Nat} {w:World} {p:Option Addr} {n:Nat} (h:Fresh B w p n) (a:Addr) (v:Value):Fresh B (w.setCell a v) p n :=
 fun b o e hp => ⟨(h b o e hp).1,fun i hi => by rw [World.frozen?_setCell]; exact (h b o e hp).2 i hi⟩
theorem wf_set {k:IntKind} {xs:List Int} {i:Nat} {x:Int} (h:∀ y ∈ xs,(Lit.int k y).wf = true) (hx:(Lit.int k x).wf = true):∀ y ∈ xs.set i x,(Lit.int k y).wf = true:=by
 intro y hy
 rcases List.mem_or_eq_of_mem_set hy with g | g
 ·exact h y g
 ·rw [g]; exact hx
theorem apart_len {p q:Option Addr} {n m n' m':Nat} (h:Apart p q n m) (h1:n' = n) (h2:m' = m):Apart p q n' m':=by subst h1; subst h2; exact h
theorem TenOwn.storeD {B:Nat} {w:World} {ty:Int} {ds fs is:List Int} {bs:List Bool} {pf pi pb:Option Addr} {cd cf ci cb b o:Nat} (h:TenOwn B w (ty,ds,fs,is,bs) ⟨some ⟨b,o,none⟩,cd,pf,cf,pi,ci,pb,cb⟩) (i:Nat) (hi:i < ds.length) (x:Int) (hx:(Lit.int .i64 x).wf = true) :
  TenOwn B (w.setCell ⟨b,o + i,none⟩ (.int .i64 x)) (ty,ds.set i x,fs,is,bs) ⟨some ⟨b,o,none⟩,cd,pf,cf,pi,ci,pb,cb⟩:=by
 obtain ⟨⟨g0,g1,g2,g3,g4⟩,h1,h2,h3,h4,h5,h6,h7,h8,h9,h10⟩:=h
 simp only at g0 g1 g2 g3 g4 h1 h2 h3 h4 h5 h6 h7 h8 h9 h10
 refine ⟨⟨g0,(g1.ls.store i hi x).ints (wf_set g1.2.2.1 hx),(g2.ls.farT (fun b' o' e hp => Ne.symm (h5 b o b' o' rfl e (by omega) hp))).ints g2.2.2.1,(g3.ls.farT (fun b' o' e hp => Ne.symm (h6 b o b' o' rfl e (by omega) hp))).ints g3.2.2.1,g4.farT (fun b' o' e hp => Ne.symm (h7 b o b' o' rfl e (by omega) hp))⟩,?_⟩
 exact ⟨(by rw [List.length_set]; exact Fresh.setT h1 _ _),Fresh.setT h2 _ _,Fresh.setT h3 _ _,Fresh.setT h4 _ _,apart_len h5 (by simp) (rfl),apart_len h6 (by simp) (rfl),apart_len h7 (by simp) (rfl),apart_len h8 (rfl) (rfl),apart_len h9 (rfl) (rfl),apart_len h10 (rfl) (rfl)⟩
theorem TenOwn.storeF {B:Nat} {w:World} {ty:Int} {ds fs is:List Int} {bs:List Bool} {pd pi pb:Option Addr} {cd cf ci cb b o:Nat} (h:TenOwn B w (ty,ds,fs,is,bs) ⟨pd,cd,some ⟨b,o,none⟩,cf,pi,ci,pb,cb⟩) (i:Nat) (hi:i < fs.length) (x:Int) (hx:(Lit.int .u32 x).wf = true) :
  TenOwn B (w.setCell ⟨b,o + i,none⟩ (.int .u32 x)) (ty,ds,fs.set i x,is,bs) ⟨pd,cd,some ⟨b,o,none⟩,cf,pi,ci,pb,cb⟩:=by
 obtain ⟨⟨g0,g1,g2,g3,g4⟩,h1,h2,h3,h4,h5,h6,h7,h8,h9,h10⟩:=h
 simp only at g0 g1 g2 g3 g4 h1 h2 h3 h4 h5 h6 h7 h8 h9 h10
 refine ⟨⟨g0,(g1.ls.farT (fun b' o' e hp => h5 b' o' b o e rfl hp (by omega))).ints g1.2.2.1,(g2.ls.store i hi x).ints (wf_set g2.2.2.1 hx),(g3.ls.farT (fun b' o' e hp => Ne.symm (h8 b o b' o' rfl e (by omega) hp))).ints g3.2.2.1,g4.farT (fun b' o' e hp => Ne.symm (h9 b o b' o' rfl e (by omega) hp))⟩,?_⟩
 exact ⟨Fresh.setT h1 _ _,(by rw [List.length_set]; exact Fresh.setT h2 _ _),Fresh.setT h3 _ _,Fresh.setT h4 _ _,apart_len h5 (rfl) (by simp),apart_len h6 (rfl) (rfl),apart_len h7 (rfl) (rfl),apart_len h8 (by simp) (rfl),apart_len h9 (by simp) (rfl),apart_len h10 (rfl) (rfl)⟩
theorem bdrew (w:World):Below w.heap.size w w.drew:=(Below.refl _ _).drew
theorem TenOwn.mid {B lo hi:Nat} {w w':World} {T:Ten} {A:TA} (h:TenOwn B w T A) (m:Mid lo hi w w') (hB:hi ≤ B):TenOwn B w' T A:=by
 obtain ⟨⟨g0,g1,g2,g3,g4⟩,h1,h2,h3,h4,h5⟩:=h
 have a1:∀ b o,A.pd = some ⟨b,o,none⟩ → 0 < T.2.1.length → b < lo ∨ hi ≤ b:=fun b o e hp => .inr (Nat.le_trans hB (h1 b o e hp).1)
 have a2:∀ b o,A.pf = some ⟨b,o,none⟩ → 0 < T.2.2.1.length → b < lo ∨ hi ≤ b:=fun b o e hp => .inr (Nat.le_trans hB (h2 b o e hp).1)
 have a3:∀ b o,A.pi = some ⟨b,o,none⟩ → 0 < T.2.2.2.1.length → b < lo ∨ hi ≤ b:=fun b o e hp => .inr (Nat.le_trans hB (h3 b o e hp).1)
 have a4:∀ b o,A.pb = some ⟨b,o,none⟩ → 0 < T.2.2.2.2.length → b < lo ∨ hi ≤ b:=fun b o e hp => .inr (Nat.le_trans hB (h4 b o e hp).1)
 exact ⟨⟨g0,(g1.ls.mid m a1).ints g1.2.2.1,(g2.ls.mid m a2).ints g2.2.2.1,(g3.ls.mid m a3).ints g3.2.2.1,g4.mid m a4⟩,h1.mid g1.ls rfl m a1,h2.mid g2.ls rfl m a2,h3.mid g3.ls rfl m a3,h4.mid g4 rfl m a4,h5⟩
theorem Box.set5T {w:World} {g:Nat} {a b c d e:Value} {t:TypeId} (h:Box w g #[a,b,c,d,e] t) (u0 u1 u2 u3 u4:Value) :
  Box (((((w.setCell ⟨g,0,none⟩ u0).setCell ⟨g,1,none⟩ u1).setCell ⟨g,2,none⟩ u2).setCell ⟨g,3,none⟩ u3).setCell ⟨g,4,none⟩ u4) g #[u0,u1,u2,u3,u4] t :=
 ((((h.same 0 u0).same 1 u1).same 2 u2).same 3 u3).same 4 u4
theorem bset5T {B:Nat} {a w:World} (h:Below B a w) {g:Nat} (hg:B ≤ g) (u0 u1 u2 u3 u4:Value) :
  Below B a (((((w.setCell ⟨g,0,none⟩ u0).setCell ⟨g,1,none⟩ u1).setCell ⟨g,2,none⟩ u2).setCell ⟨g,3,none⟩ u3).setCell ⟨g,4,none⟩ u4) :=
 ((((h.setCell hg u0).setCell hg u1).setCell hg u2).setCell hg u3).setCell hg u4
theorem Mid.set5T {lo hi:Nat} {a w:World} (h:Mid lo hi a w) {g:Nat} (h1:lo ≤ g) (h2:g < hi) (u0 u1 u2 u3 u4:Value) :
  Mid lo hi a (((((w.setCell ⟨g,0,none⟩ u0).setCell ⟨g,1,none⟩ u1).setCell ⟨g,2,none⟩ u2).setCell ⟨g,3,none⟩ u3).setCell ⟨g,4,none⟩ u4) :=
 ((((h.setCell h1 h2 u0).setCell h1 h2 u1).setCell h1 h2 u2).setCell h1 h2 u3).setCell h1 h2 u4
theorem tcopy_any (T:Ten) (A:TA) (w:World) (h:TenIn w T A) (hs:okLen T) :
  Calls Tryz.prog 45 #[tenV T A] w fun e w' => (∃ C,e = .returned (tenV (T) C) ∧ TenOwn w.heap.size w' (T) C) ∧ Below w.heap.size w w':=by
 obtain ⟨ty,ds,fs,is,bs⟩:=T
 obtain ⟨pd,cd,pf,cf,pi,ci,pb,cb⟩:=A
 obtain ⟨a0,a1,a2,a3,a4⟩:=h
 obtain ⟨s1,s2,s3,s4⟩:=hs
 simp only at a0 a1 a2 a3 a4 s1 s2 s3 s4
 unfold tenV tenCells
 simp only
 have wfd:=hide a1.2.2.1
 have wff:=hide a2.2.2.1
 have wfi:=hide a3.2.2.1
 have C1:=hide (fun v (hv:Below w.heap.size w v) => copied_int pd cd ds v (a1.below hv).ls s1)
 have C2:=hide (fun v (hv:Below w.heap.size w v) => copied_uint32 pf cf fs v (a2.below hv).ls s2)
 have C3:=hide (fun v (hv:Below w.heap.size w v) => copied_int64 pi ci is v (a3.below hv).ls s3)
 have C4:=hide (fun v (hv:Below w.heap.size w v) => copied_bool pb cb bs v (a4.below hv) (by omega))
 clear a1 a2 a3 a4 s1 s2 s3 s4
 go_enter Tryz.func45,Tryz.ntmps45
 go_wp2_with fail
 obtain ⟨v0,hv0⟩:∃ v0,v0 = ((w.alloc (Obj.cells #[.int .i64 ty,.slice pd ds.length cd,.slice pf fs.length cf,.slice pi is.length ci,.slice pb bs.length cb] 47)).alloc (Obj.cells #[.int .i64 0,.slice none 0 0,.slice none 0 0,.slice none 0 0,.slice none 0 0] 47)):=⟨_,rfl⟩
 have X0:Hid (Box v0 w.heap.size #[.int .i64 ty,.slice pd ds.length cd,.slice pf fs.length cf,.slice pi is.length ci,.slice pb bs.length cb] 47):=hide (by rw [hv0]; exact Box.alloc (Box.new w _ _) _)
 have R0:Hid (Box v0 (w.heap.size + 1) #[.int .i64 0,.slice none 0 0,.slice none 0 0,.slice none 0 0,.slice none 0 0] 47):=hide (by rw [hv0]; have:=Box.new (w.alloc (Obj.cells #[.int .i64 ty,.slice pd ds.length cd,.slice pf fs.length cf,.slice pi is.length ci,.slice pb bs.length cb] 47)) #[.int .i64 0,.slice none 0 0,.slice none 0 0,.slice none 0 0,.slice none 0 0] 47; rw [alloc_size] at this; exact this)
 have B0:Hid (Below w.heap.size w v0):=hide (by rw [hv0]; exact al2 _ _ _)
 have Z0:Hid (v0.heap.size = w.heap.size + 2):=hide (by rw [hv0]; simp)
 rw [← hv0]
 clear hv0
 have x0:=(uh X0).cell
 have x0':=((uh X0).below (bdrew _)).cell
 go_region_held3 (fun w' => (∀ j,w'.cell? ⟨w.heap.size,j,none⟩ = (#[.int .i64 ty,.slice pd ds.length cd,.slice pf fs.length cf,.slice pi is.length ci,.slice pb bs.length cb]:Array Value)[j]?)) (first | with_reducible assumption | with_reducible exact uh S4 _ _ _ _ _)
  (first
   | (go_at_call 85; (refine (uh C4 _ (uh B3)).mono ?_; rintro e w4 ⟨⟨q4,d4,rfl,L4,F4⟩,hb⟩; have HL4:=hide L4; have HF4:=hide F4; have X4:=hide ((uh X3).below hb); have R4:=hide ((uh R3).below hb); have B4:=hide (bl_tr (uh B3) hb); have M4:=hide hb; clear x3 L4 F4; have x4:=(uh X4).cell; have r4:=(uh R4).cell; have f4:=(uh R4).frozen; have S4:Hid (∀ u0 u1 u2 u3 u4 j,(((((w4.setCell ⟨w.heap.size + 1,0,none⟩ u0).setCell ⟨w.heap.size + 1,1,none⟩ u1).setCell ⟨w.heap.size + 1,2,none⟩ u2).setCell ⟨w.heap.size + 1,3,none⟩ u3).setCell ⟨w.heap.size + 1,4,none⟩ u4).cell? ⟨w.heap.size,j,none⟩ = (#[.int .i64 ty,.slice pd ds.length cd,.slice pf fs.length cf,.slice pi is.length ci,.slice pb bs.length cb]:Array Value)[j]?):=hide (fun _ _ _ _ _ j => Box.cell (((((Box.other (uh X4) (by omega) 0 _).other (by omega) 1 _).other (by omega) 2 _).other (by omega) 3 _).other (by omega) 4 _) j); have z4:w.heap.size + 1 < w4.heap.size:=(uh R4).lt; clear hb))
   | (go_at_call 84; (refine (uh C3 _ (uh B2)).mono ?_; rintro e w3 ⟨⟨q3,d3,rfl,L3,F3⟩,hb⟩; have HL3:=hide L3; have HF3:=hide F3; have X3:=hide ((uh X2).below hb); have R3:=hide ((uh R2).below hb); have B3:=hide (bl_tr (uh B2) hb); have M3:=hide hb; clear x2 L3 F3; have x3:=(uh X3).cell; clear hb))
   | (go_at_call 83; (refine (uh C2 _ (uh B1)).mono ?_; rintro e w2 ⟨⟨q2,d2,rfl,L2,F2⟩,hb⟩; have HL2:=hide L2; have HF2:=hide F2; have X2:=hide ((uh X1).below hb); have R2:=hide ((uh R1).below hb); have B2:=hide (bl_tr (uh B1) hb); have M2:=hide hb; clear x1 L2 F2; have x2:=(uh X2).cell; clear hb))
   | (go_at_call 82; (refine (uh C1 _ (bl_tr (uh B0) (bdrew _))).mono ?_; rintro e w1 ⟨⟨q1,d1,rfl,L1,F1⟩,hb⟩; have HL1:=hide L1; have HF1:=hide F1; have X1:=hide ((uh X0).below (bl_tr (bdrew _) hb)); have R1:=hide ((uh R0).below (bl_tr (bdrew _) hb)); have B1:=hide (bl_tr (uh B0) (bl_tr (bdrew _) hb)); have M1:=hide hb; clear x0 L1 F1; have x1:=(uh X1).cell; clear hb)))
 go_wp2_with fail
 have m2:=uh M2
 have m3:=uh M3
 have m4:=uh M4
 have l1:=uh HL1
 have l2:=uh HL2
 have l3:=uh HL3
 have l4:=uh HL4
 have g1:Fresh (w.heap.size + 2) w1 q1 ds.length:=(uh HF1).mono (by have:=uh Z0; simp; omega)
 have zz:w.heap.size + 2 ≤ w1.heap.size:=by have:=uh Z0; have:=(uh M1).size; simp at this; omega
 have g2:=uh HF2
 have g3:=uh HF3
 have g4:=uh HF4
 have z2:=m2.size
 have z3:=m3.size
 have z4:=m4.size
 have O4:TenOwn (w.heap.size + 2) w4 (ty,ds,fs,is,bs) ⟨q1,d1,q2,d2,q3,d3,q4,d4⟩ :=
  ⟨⟨a0,(((l1.below m2).below m3).below m4).ints (uh wfd),((l2.below m3).below m4).ints (uh wff),(l3.below m4).ints (uh wfi),l4⟩,
   ((g1.below l1 rfl m2).below (l1.below m2) rfl m3).below ((l1.below m2).below m3) rfl m4,((g2.below l2 rfl m3).below (l2.below m3) rfl m4).mono (by omega),(g3.below l3 rfl m4).mono (by omega),g4.mono (by omega),
   fresh_apart l1 rfl (Nat.le_refl _) g2,fresh_apart l1 rfl (by omega) g3,fresh_apart l1 rfl (by omega) g4,fresh_apart l2 rfl (Nat.le_refl _) g3,fresh_apart l2 rfl (by omega) g4,fresh_apart l3 rfl (Nat.le_refl _) g4⟩
 refine bodyPost_ret (v:=.agg #[.int .i64 ty,.slice q1 ds.length d1,.slice q2 fs.length d2,.slice q3 is.length d3,.slice q4 bs.length d4]) (by simp [results,Tryz.results45,go_sem,((uh R4).set5T (.int .i64 ty) (.slice q1 ds.length d1) (.slice q2 fs.length d2) (.slice q3 is.length d3) (.slice q4 bs.length d4)).cell]) rfl ⟨⟨⟨q1,d1,q2,d2,q3,d3,q4,d4⟩,rfl,?_⟩,bset5T (uh B4) (by omega) _ _ _ _ _⟩
 exact (O4.mid ((Mid.refl (w.heap.size + 1) (w.heap.size + 2) _).set5T (by omega) (by omega) _ _ _ _ _) (by omega)).mono (by omega)
end Go.Proofs.YtbmmcbagdomonaaGreat
