import Derived.Test.YtaikppgoahdjbabGreatV05
import Derived.Test.YtaikppgoahdjbabGreatV06
import Derived.Test.YtaikppgoahdjbabGreatV08
import Derived.Test.YtaikppgoahdjbabGreatV19
set_option maxRecDepth 100000
set_option maxHeartbeats 8000000
namespace Go.Proofs.YtaikppgoahdjbabGreat
open Go.RowKit
set_option linter.unusedVariables false
theorem fblk_len (num:Int) (b:List Int):(fieldB (blkF num b)).length ≤ 20 + b.length:=by
 rw [field_blk,List.length_append,List.length_append]
 have:=(varV_len (num * 8 + 2)).2
 have:=(varV_len (b.length:Int)).2
 omega
theorem msg_one (f:Fld):msgB [f] = fieldB f:=by simp [msgB]
theorem msg_app (a b:List Fld):msgB (a ++ b) = msgB a ++ msgB b:=by simp [msgB]
theorem OwnG.onto {t:TypeId} {α:Type} {f:α → Value} {w w0 w1:World} {v:Value} {l:List α} (hb:Below w.heap.size w w0) (hO:OwnG t f w0 w1 v l):OwnG t f w w1 v l:=by
 obtain ⟨⟨g1,g2⟩,g3⟩:=hO
 refine ⟨⟨g1,?_⟩,bl_tr hb g3⟩
 rcases g2 with g | ⟨g,cap,cur,hv,hg,rest⟩
 ·exact .inl g
 ·exact .inr ⟨g,cap,cur,hv,Nat.le_trans hb.size hg,rest⟩
def WS (fs:List Fld) (bs:List Int) (full:Bool):Prop:=if (msgB fs).length ≤ 4194304 then full = false ∧ bs = msgB fs else full = true
theorem WS.nil:WS [] [] false:=by unfold WS; rw [if_pos (by simp [msgB])]; exact ⟨rfl,rfl⟩
theorem WS.over {fs:List Fld} (bs:List Int) (h:4194304 < (msgB fs).length):WS fs bs true:=by unfold WS; rw [if_neg (by omega)]
theorem WS.isFull {fs:List Fld} {bs:List Int} (h:WS fs bs true):4194304 < (msgB fs).length:=by
 unfold WS at h
 split at h
 ·cases h.1
 ·omega
theorem WS.has {fs:List Fld} {bs:List Int} (h:WS fs bs false):bs = msgB fs ∧ (msgB fs).length ≤ 4194304:=by
 unfold WS at h
 split at h
 ·exact ⟨h.2,by assumption⟩
 ·cases h
theorem WS.step {fs:List Fld} {bs:List Int} {full:Bool} {f:Fld} (h:WS fs bs full) (hm:mayB f = true) :
  WS (fs ++ [f]) (if (full || ((writeV [f]).2 != 0 || decide ((4194304:Int) < (bs.length:Int) + (writeV [f]).1.length))) = true then bs else bs ++ (writeV [f]).1) (full || ((writeV [f]).2 != 0 || decide ((4194304:Int) < (bs.length:Int) + (writeV [f]).1.length))):=by
 have hw:writeV [f] = if 4194304 < (msgB [f]).length then ([],8) else (msgB [f],0):=by
  unfold writeV
  rw [if_neg (by simp [hm])]
 have ha:(msgB (fs ++ [f])).length = (msgB fs).length + (msgB [f]).length:=by rw [msg_app,List.length_append]
 cases full
 ·obtain ⟨h1,h2⟩:=h.has
  subst h1
  rw [hw]
  by_cases hb:4194304 < (msgB [f]).length
  ·rw [if_pos hb]
   exact WS.over _ (by omega)
  ·rw [if_neg hb]
   simp only [bne_self_eq_false,Bool.false_or]
   by_cases hc:(4194304:Int) < ((msgB fs).length:Int) + (msgB [f]).length
   ·rw [decide_eq_true hc]
    exact WS.over _ (by omega)
   ·rw [decide_eq_false hc]
    unfold WS
    rw [if_pos (by omega)]
    exact ⟨rfl,by rw [msg_app]; rfl⟩
 ·exact WS.over _ (by have:=h.isFull; omega)
def KeptW (g:Nat) (w w':World):Prop:=Below g w w' ∧ ∀ (b:Nat) (cur:Array Value) (t:TypeId),t ≠ 5 → t ≠ 53 → w.heap[b]? = some (Obj.cells cur t (0,0)) → w'.heap[b]? = some (Obj.cells cur t (0,0))
theorem KeptW.refl (g:Nat) (w:World):KeptW g w w:=⟨Below.refl _ _,fun _ _ _ _ _ h => h⟩
theorem bl_mono7 {g h:Nat} {w w':World} (k:Below h w w') (hg:g ≤ h):Below g w w':=⟨k.os,k.tape,k.output,k.size,fun b hb => k.block b (by omega)⟩
theorem bl_tr7 {g:Nat} {a b c:World} (h:Below g a b) (k:Below g b c):Below g a c:=⟨k.os.trans h.os,k.tape.trans h.tape,k.output.trans h.output,Nat.le_trans h.size k.size,fun i hi => (k.block i hi).trans (h.block i hi)⟩
theorem KeptW.trans {g:Nat} {a b c:World} (h:KeptW g a b) (k:KeptW g b c):KeptW g a c:=⟨bl_tr7 h.1 k.1,fun i cur t h1 h2 hh => k.2 i cur t h1 h2 (h.2 i cur t h1 h2 hh)⟩
theorem KeptW.below {g:Nat} {w w':World} (h:Below w.heap.size w w') (hg:g ≤ w.heap.size):KeptW g w w':=⟨bl_mono7 h hg,fun b cur t _ _ hh => (h.block b (lt_of_block hh)).trans hh⟩
theorem KeptW.kept {TS:List TypeId} {B g:Nat} {w w':World} (h:KeptW g w w') (hB:B ≤ g) (h1:¬ 5 ∈ TS) (h2:¬ 53 ∈ TS):Kept TS B w w' :=
 ⟨h.1.size,fun b hb _ => h.1.block b (by omega),fun b cur t ht hh => h.2 b cur t (fun e => h1 (e ▸ ht)) (fun e => h2 (e ▸ ht)) hh⟩
theorem KeptW.box {g k:Nat} {w w':World} {cs:Array Value} {t:TypeId} (h:KeptW g w w') (h1:t ≠ 5) (h2:t ≠ 53) (hb:Box w k cs t):Box w' k cs t:=h.2 k cs t h1 h2 hb
theorem KeptW.grown {g base n:Nat} {w w':World} {v:Value} {xs:List Value} (ho:w.ownsRow base 5 1 v n xs) (hB:g ≤ base) (hs:g ≤ w.heap.size) (hg:w.grownBy w' v.ownBlock):KeptW g w w':=by
 have key:∀ b,b < w.heap.size → (∀ k cap cur,v = .slice (some ⟨k,0,none⟩) n cap → base ≤ k → w.heap[k]? = some (Obj.cells cur 5 (0,0)) → b ≠ k) → w'.heap[b]? = w.heap[b]?:=fun b hb hn => by
  refine hg.block b hb (fun e2 => ?_)
  rcases ho.2 with ⟨hv,_⟩ | ⟨k,cap,cur,hv,hbg,hh,_⟩
  ·rw [hv] at e2; cases e2
  ·have:=hn k cap cur hv hbg hh
   rw [hv] at e2
   simp only [Value.ownBlock,Option.some.injEq] at e2
   exact this e2
 refine ⟨⟨hg.os,hg.tape,hg.output,hg.size,fun b h1 => key b (by omega) (fun k cap cur _ hbk _ => by omega)⟩,fun b cur t h1 h2 hh => (key b (lt_of_block hh) (fun k cap c2 _ _ hh2 e2 => ?_)).trans hh⟩
 subst e2
 rw [hh] at hh2
 simp only [Option.some.injEq,Obj.cells.injEq] at hh2
 exact h1 hh2.2.1
theorem KeptW.set {g j:Nat} {w:World} {cur:Array Value} {u:Value} (hp:Box w g cur 53):KeptW g w (w.setCell ⟨g,j,none⟩ u):=by
 refine ⟨(Below.refl g w).setCell (p:=⟨g,j,none⟩) (Nat.le_refl g) u,fun b c2 t h1 h2 hh => ?_⟩
 have hn:b ≠ g:=fun e2 => by
  subst e2
  unfold Box at hp
  rw [hp] at hh
  simp only [Option.some.injEq,Obj.cells.injEq] at hh
  exact h2 hh.2.1.symm
 rw [Below.heap_setCell _ _ _ _ hn]; exact hh
def WrIn (g:Nat) (w:World) (fs:List Fld):Prop:=∃ v bs full,Box w g #[v,.bool full] 53 ∧ w.ownsRow (g + 1) 5 1 v bs.length (bs.map (Value.int .u8)) ∧ WS fs bs full ∧ bs.length ≤ 4194304 ∧ isB bs
theorem ownsRow_at {base k n:Nat} {e:TypeId} {w w':World} {v:Value} {xs:List Value} (h:w.ownsRow base e k v n xs) (hs:∀ b,b < w.heap.size → w'.heap[b]? = w.heap[b]?):w'.ownsRow base e k v n xs:=by
 obtain ⟨l1,h1⟩:=h
 refine ⟨l1,?_⟩
 rcases h1 with ⟨rfl,h0⟩ | ⟨g,cap,cur,rfl,hb1,hh,hc,hm,hs2,ht⟩
 ·exact .inl ⟨rfl,h0⟩
 ·exact .inr ⟨g,cap,cur,rfl,hb1,(hs g (lt_of_block hh)).trans hh,hc,hm,hs2,ht⟩
theorem WrIn.below {g:Nat} {w w':World} {fs:List Fld} (h:WrIn g w fs) (hb:Below w.heap.size w w'):WrIn g w' fs:=by
 obtain ⟨v,bs,full,h1,h2,h3,h4⟩:=h
 exact ⟨v,bs,full,h1.below hb,ownsRow_at h2 hb.block,h3,h4⟩
theorem WrIn.lt {g:Nat} {w:World} {fs:List Fld} (h:WrIn g w fs):g < w.heap.size:=by
 obtain ⟨v,bs,full,h1,_⟩:=h
 exact h1.lt
theorem WrIn.new (w:World):WrIn w.heap.size (w.alloc (.cells #[.slice none 0 0,.bool false] 53)) [] :=
 ⟨_,[],false,Box.new _ _ _,World.ownsRow_nil _ _ _ _,WS.nil,by simp,fun c hc => by cases hc⟩
theorem wpList_append_at {α:Type} [Inhabited α] {f:α → Value} {P:Program} {w:World} {ops:Array Oper} {rest:List Oper} {o:Oper} {a:Act} {Q:Exit → Act → World → Prop} (hgd:o.guard = none) (s x:Operand) (t:TypeId)
  (ho:o.op = .call { callee:=.builtin .append,args:=#[s,x],argTypes:=#[t,t] })
  (base:Nat) (e:TypeId) (i:TypeInfo) (z:Value) (bytes:Nat) (ht:P.underlying t = some (.slice e)) (hi:P.info? e = some i) (hz:i.zero = some z)
  (hsize:i.size = 1) (hby:i.bytes = bytes) (hzs:z.cells.size = 1) (hf:∀ y,(f y).oneCell' = true)
  (v:Value) (os:List α) (hs:a.eval s = v) (hown:w.ownsRow base e 1 v os.length (os.map f)) (hbase:base ≤ w.heap.size)
  (p:Option Addr) (c:Nat) (xs:List α) (hx:a.eval x = .slice p xs.length c) (hl:Ls f w p c xs)
  (h63:os.length + xs.length ≤ maxLen) (hbytes:(os.length + xs.length) * bytes ≤ 140737488355328)
  (h:∀ v' w',w'.ownsRow base e 1 v' (os ++ xs).length ((os ++ xs).map f) → w.grownBy w' v.ownBlock → wpList P ops Q rest (a.put o.dst v') w'):wpList P ops Q (o :: rest) a w:=by
 cases p with
 | none =>
   have hx0:xs = []:=by
    rcases Nat.eq_zero_or_pos xs.length with g | g
    ·exact List.eq_nil_of_length_eq_zero g
    ·obtain ⟨b,o,e,_⟩:=hl.lies g; cases e
   subst hx0
   have hc0:c = 0:=hl.2.2.2 rfl
   subst hc0
   refine wpList_append_own_none hgd s x t ho base e i 1 ht hi v _ _ hs hown hx (h v w ?_ ⟨rfl,rfl,rfl,Nat.le_refl _,fun _ _ _ => rfl⟩)
   rw [List.append_nil]; exact hown
 | some ad =>
   have hcells:∀ j u,(xs.map f)[j]? = some u → w.cell? (ad.add j) = some u:=by
    rcases Nat.eq_zero_or_pos xs.length with g | g
    ·have:xs = []:=List.eq_nil_of_length_eq_zero g
     subst this
     intro j u hj; simp at hj
    ·obtain ⟨b,o,e,hb,hc⟩:=hl.lies g
     simp only [Option.some.injEq] at e
     subst e; exact lsMap_cells hc
   refine wpList_append_own w hgd s x t ho base e i z 1 bytes ht hi hz hsize hby hzs (by decide) v os.length (os.map f) hs hown ad xs.length c (xs.map f) hx (by simp) hcells ?_ h63 hbytes hbase ?_
   ·intro u hu
    obtain ⟨y,_,rfl⟩:=List.mem_map.1 hu
    exact hf y
   ·intro v' w' h1 h2 _
    exact h v' w' (by rw [List.length_append,List.map_append]; exact h1) h2
theorem faWd:Wd 4 faCells:=⟨by decide,fun _ => rfl,fun a u hu => fa_one a u hu⟩
theorem ownsRow_set {base k n g:Nat} {e:TypeId} {w:World} {v:Value} {xs:List Value} (h:w.ownsRow base e k v n xs) (hg:g < base) (j:Nat) (u:Value):(w.setCell ⟨g,j,none⟩ u).ownsRow base e k v n xs:=by
 obtain ⟨l1,h1⟩:=h
 refine ⟨l1,?_⟩
 rcases h1 with ⟨rfl,h0⟩ | ⟨b,cap,cur,rfl,hb1,hh,hc,hm,hs2,ht⟩
 ·exact .inl ⟨rfl,h0⟩
 ·exact .inr ⟨b,cap,cur,rfl,hb1,(Below.heap_setCell _ _ _ _ (by simp; omega)).trans hh,hc,hm,hs2,ht⟩
theorem own_slice {base k n:Nat} {e:TypeId} {w:World} {v:Value} {xs:List Value} (h:w.ownsRow base e k v n xs):∃ p c,v = .slice p n c:=by
 rcases h.2 with ⟨rfl,h0⟩ | ⟨g,cap,cur,rfl,_⟩
 ·exact ⟨none,0,by rw [h0]⟩
 ·exact ⟨_,_,rfl⟩
theorem box_grown {g n:Nat} {t e:TypeId} {w w':World} {cs:Array Value} {v:Value} {xs:List Value} (h:Box w g cs t) (ho:w.ownsRow (g + 1) e 1 v n xs) (hg:w.grownBy w' v.ownBlock):Box w' g cs t:=by
 refine (hg.block g h.lt (fun e2 => ?_)).trans h
 rcases ho.2 with ⟨hv,_⟩ | ⟨k,cap,cur,hv,hbg,hh,_⟩
 ·rw [hv] at e2; cases e2
 ·rw [hv] at e2
  simp only [Value.ownBlock,Option.some.injEq] at e2
  omega
theorem Ls.block7 {α:Type} [Inhabited α] {f:α → Value} {w w':World} {p:Option Addr} {cap:Nat} {xs:List α} (h:Ls f w p cap xs) (hs:w.heap.size ≤ w'.heap.size) (hk:∀ b o,p = some ⟨b,o,none⟩ → 0 < xs.length → w'.heap[b]? = w.heap[b]?):Ls f w' p cap xs:=by
 obtain ⟨h1,h2,h4,h5⟩:=h
 refine ⟨h1,h2,fun hp => ?_,h5⟩
 obtain ⟨b,o,e,g1,g2⟩:=h4 hp
 exact ⟨b,o,e,Nat.lt_of_lt_of_le g1 hs,fun i hi => (World.cell?_of_block (w:=w) (hk b o e hp)).trans (g2 i hi)⟩
theorem cfield_any (g:Nat) (fs:List Fld) (a:FA) (w:World) (hW:WrIn g w fs) (ha:FaIn w a) (hm:mayB a.f = true) (hd:a.d.length ≤ 140737488355328) :
  Calls Tryz.prog 34 #[.pointer (some ⟨g,0,none⟩),faV a] w fun e w' => e = .returned (.tuple #[]) ∧ WrIn g w' (fs ++ [a.f]) ∧ KeptW g w w':=by
 obtain ⟨i1,hi1,y1,z1,b1⟩:=info_parts Tryz.infoU8
 obtain ⟨v,bs,full,h1,h2,h3,h4,h5⟩:=hW
 have HS:=hide (WS.step h3 hm)
 have H5:=hide h5
 have HRB:Hid (isB (writeV [a.f]).1):=hide (by
  unfold writeV
  split
  ·exact fun c hc => by cases hc
  ·split
   ·exact fun c hc => by cases hc
   ·rw [msg_one]; exact fieldB_isB ((mayB_iff _).1 hm) ha.ok (by show a.d.length < _; omega))
 clear h5
 obtain ⟨n,wi,x,d,q,c⟩:=a
 have WC:=hide (fun u (hu:Below w.heap.size w u) p cc (hc:Flc u p cc [⟨n,wi,x,d,q,c⟩]) => cwrite_any p cc [⟨n,wi,x,d,q,c⟩] u ⟨hc,fun y hy => by simp at hy; subst hy; exact ha.below hu⟩ (fun y hy => by simp at hy; subst hy; exact hd))
 simp only [List.map_cons,List.map_nil] at WC
 generalize FA.f ⟨n,wi,x,d,q,c⟩ = F at HS WC HRB ⊢
 have hR1:(writeV [F]).1.length ≤ 4194304:=by
  unfold writeV
  split
  ·simp
  ·split
   ·simp
   ·simp only; omega
 generalize writeV [F] = R at HS WC hR1 HRB
 obtain ⟨R1,R2⟩:=R
 simp only at HS WC hR1 HRB
 have gl:=h1.lt
 have HB:=hide h1
 have HO:=hide h2
 have vf:∃ p cap,v = .slice p bs.length cap:=by
  rcases h2.2 with ⟨rfl,h0⟩ | ⟨k,cap,cur,rfl,_⟩
  ·exact ⟨none,0,by rw [h0]⟩
  ·exact ⟨_,_,rfl⟩
 obtain ⟨pv,cv,rfl⟩:=vf
 unfold faV
 simp only
 clear h1 h2 h3 ha hm hd
 go_enter Tryz.func34,Tryz.ntmps34
 go_wp2_with fail
 refine (uh WC _ (al2p _ _ _) _ _ (show Flc _ (some ⟨w.heap.size + 1,0,none⟩) 1 [⟨n,wi,x,d,q,c⟩] from (by have h:=rc_new (z:=noFA) (x:=⟨n,wi,x,d,q,c⟩) faWd (w.alloc (Obj.cells #[.int .i64 n,.int .i64 wi,.int .u64 x,.slice q d.length c] 91)) 91 rfl; rw [alloc_size6] at h; exact h))).mono ?_
 rintro e u ⟨v2,rfl,O⟩
 have BB:=hide (bl_tr (al2p _ _ _) O.2)
 obtain ⟨q2,c2,rfl,L2,F2⟩:=O.form
 have HL:=hide L2
 have HF:=hide F2
 have x0:=((uh HB).below (uh BB)).cell
 have f0:=((uh HB).below (uh BB)).frozen
 have HX:=hide ((uh HB).below (uh BB))
 have HO2:=hide (ownsRow_at (uh HO) (uh BB).block)
 have ul:=(uh HX).lt
 have HB0:=HB
 clear O L2 F2 WC HB HO
 cases full
 rotate_left
 ·simp only [Bool.true_or,if_true] at HS
  go_wp2_with fail
  go_end0
  exact ⟨rfl,⟨_,bs,true,(uh HX).same 1 _,ownsRow_set (uh HO2) (by omega) _ _,uh HS,h4,uh H5⟩,(KeptW.below (uh BB) (by omega)).trans (KeptW.set (uh HX))⟩
 by_cases hr:R2 = 0
 rotate_left
 ·have tr:(R2 != 0) = true:=by simp [hr]
  rw [tr] at HS
  simp only [Bool.true_or,Bool.or_true,if_true] at HS
  go_wp2_with fail
  go_end0
  exact ⟨rfl,⟨_,bs,true,(uh HX).same 1 _,ownsRow_set (uh HO2) (by omega) _ _,uh HS,h4,uh H5⟩,(KeptW.below (uh BB) (by omega)).trans (KeptW.set (uh HX))⟩
 have tr:(R2 != 0) = false:=by simp [hr]
 rw [tr] at HS
 by_cases hb:(4194304:Int) < (bs.length:Int) + R1.length
 ·have hb2:decide ((4194304:Int) < (bs.length:Int) + R1.length) = true:=by simp [hb]
  rw [hb2] at HS
  simp only [Bool.or_true,if_true] at HS
  go_wp2_with fail
  go_end0
  exact ⟨rfl,⟨_,bs,true,(uh HX).same 1 _,ownsRow_set (uh HO2) (by omega) _ _,uh HS,h4,uh H5⟩,(KeptW.below (uh BB) (by omega)).trans (KeptW.set (uh HX))⟩
 have hb2:decide ((4194304:Int) < (bs.length:Int) + R1.length) = false:=by simp; omega
 rw [hb2] at HS
 simp only [Bool.or_false,Bool.false_eq_true,if_false] at HS
 have X2:=hide ((uh HX).same 1 (.bool false))
 have O2:=hide (ownsRow_set (uh HO2) (g:=g) (by omega) 1 (.bool false))
 have L2:=hide ((uh HL).below ((Below.refl u.heap.size u)))
 have HK:=hide (show Below g u (u.setCell ⟨g,1,none⟩ (.bool false)) from (Below.refl g u).setCell (p:=⟨g,1,none⟩) (Nat.le_refl g) _)
 have LF:Hid (Ls (Value.int .u8) (u.setCell ⟨g,1,none⟩ (.bool false)) q2 c2 R1):=hide ((uh HL).block7 (by simp [World.setCell]) (fun b o e hp => Below.heap_setCell _ _ _ _ (by
  obtain ⟨k1,k2⟩:=uh HF b o e hp
  have:=(uh HB0).lt
  simp only [alloc_size6] at k1 ⊢
  omega)))
 clear L2 HK
 go_wp2_with (at_builtin; (refine wpList_append_at rfl _ _ 28 rfl (g + 1) 5 i1 (.int .u8 0) 1 Tryz.underlying28 hi1 y1 z1 b1 rfl (int_one .u8) _ bs rfl (uh O2) (by simp [World.setCell]; omega) q2 c2 R1 rfl (uh LF) (by unfold maxLen; omega) (by omega) ?_; intro v3 w3 O3 G3; obtain ⟨p3,c3,hv3⟩:=own_slice O3; subst hv3; have HX3:=hide (box_grown (uh X2) (uh O2) G3); have x3:=(uh HX3).cell; have f3:=(uh HX3).frozen; have HO3:=hide O3; have HK3:=hide (KeptW.grown (g:=g) (uh O2) (by omega) (by simp [World.setCell]; omega) G3); clear O3 G3))
 go_end0
 exact ⟨rfl,⟨_,bs ++ R1,false,(uh HX3).same 0 _,(by have h:=ownsRow_set (g:=g) (uh HO3) (by omega) 0 (Value.slice p3 (bs ++ R1).length c3); rw [List.length_append] at h ⊢; exact h),uh HS,by rw [List.length_append]; omega,isB_append (uh H5) (uh HRB)⟩,(((KeptW.below (uh BB) (by omega)).trans (KeptW.set (uh HX))).trans (uh HK3)).trans (KeptW.set (uh HX3))⟩
def WEnd (g:Nat) (w:World) (fs:List Fld) (e:Ending) (w':World):Prop:=e = .returned (.tuple #[]) ∧ WrIn g w' fs ∧ KeptW g w w'
theorem num_wf {num:Int} (h1:1 ≤ num) (h2:num ≤ 536870911):(Lit.int .i64 num).wf = true:=by
 simp [Lit.wf,IntKind.min,IntKind.max,IntKind.signed,IntKind.bits]; omega
theorem cnumber_any (g:Nat) (fs:List Fld) (num x:Int) (w:World) (hW:WrIn g w fs) (h1:1 ≤ num) (h2:num ≤ 536870911) :
  Calls Tryz.prog 17 #[.pointer (some ⟨g,0,none⟩),.int .i64 num,.int .i64 x] w fun e w' => WEnd g w (fs ++ [numF num (u64w x)]) e w':=by
 obtain ⟨u0,u1⟩:=u64w_rng x
 have CF:=hide (cfield_any g fs ⟨num,0,u64w x,[],none,0⟩ w hW ⟨num_wf h1 h2,rfl,u64_wf u0 u1,nilInts _ _⟩ ((mayB_iff _).2 ⟨h1,h2,.inl ⟨.inl rfl,rfl⟩⟩) (by simp))
 have hx:IntKind.u64.wrap x = u64w x:=rfl
 rw [show FA.f ⟨num,0,u64w x,[],none,0⟩ = numF num (u64w x) from rfl] at CF
 unfold faV at CF
 simp only [List.length_nil] at CF
 generalize u64w x = X at CF hx ⊢
 clear hW
 go_enter Tryz.func17,Tryz.ntmps17
 go_wp2_with fail
 try rw [hx]
 refine (uh CF).mono ?_
 rintro e v ⟨rfl,hv1,hv2⟩
 have HV:=hide hv1
 have HK:=hide hv2
 clear hv1 hv2
 go_wp2_with fail
 go_end0
 exact ⟨rfl,uh HV,uh HK⟩
theorem cfloat_any (g:Nat) (fs:List Fld) (num x:Int) (w:World) (hW:WrIn g w fs) (h1:1 ≤ num) (h2:num ≤ 536870911) (x0:0 ≤ x) (x1:x < 4294967296) :
  Calls Tryz.prog 119 #[.pointer (some ⟨g,0,none⟩),.int .i64 num,.int .u32 x] w fun e w' => WEnd g w (fs ++ [(num,5,x,[])]) e w':=by
 have CF:=hide (cfield_any g fs ⟨num,5,x,[],none,0⟩ w hW ⟨num_wf h1 h2,rfl,u64_wf x0 (Int.lt_trans x1 (by decide)),nilInts _ _⟩ ((mayB_iff _).2 ⟨h1,h2,.inr (.inl ⟨rfl,rfl,x1⟩)⟩) (by simp))
 have hx:IntKind.u64.wrap x = x:=by rw [IntKind.wrap_u64]; omega
 rw [show FA.f ⟨num,5,x,[],none,0⟩ = (num,5,x,[]) from rfl] at CF
 unfold faV at CF
 simp only [List.length_nil] at CF
 clear hW
 go_enter Tryz.func119,Tryz.ntmps119
 go_wp2_with fail
 try rw [hx]
 refine (uh CF).mono ?_
 rintro e v ⟨rfl,hv1,hv2⟩
 have HV:=hide hv1
 have HK:=hide hv2
 clear hv1 hv2
 go_wp2_with fail
 go_end0
 exact ⟨rfl,uh HV,uh HK⟩
theorem cdata_any (g:Nat) (fs:List Fld) (num:Int) (p:Option Addr) (c:Nat) (b:List Int) (w:World) (hW:WrIn g w fs) (hb:Ints .u8 w p c b) (h1:1 ≤ num) (h2:num ≤ 536870911) (hl:b.length ≤ 140737488355328) :
  Calls Tryz.prog 35 #[.pointer (some ⟨g,0,none⟩),.int .i64 num,.slice p b.length c] w fun e w' => WEnd g w (fs ++ [blkF num b]) e w':=by
 have CF:=hide (cfield_any g fs ⟨num,2,0,b,p,c⟩ w hW ⟨num_wf h1 h2,rfl,rfl,hb⟩ ((mayB_iff _).2 ⟨h1,h2,.inr (.inr ⟨rfl,rfl⟩)⟩) hl)
 rw [show FA.f ⟨num,2,0,b,p,c⟩ = blkF num b from rfl] at CF
 unfold faV at CF
 simp only at CF
 clear hW hb
 go_enter Tryz.func35,Tryz.ntmps35
 go_wp2_with fail
 refine (uh CF).mono ?_
 rintro e v ⟨rfl,hv1,hv2⟩
 have HV:=hide hv1
 have HK:=hide hv2
 clear hv1 hv2
 go_wp2_with fail
 go_end0
 exact ⟨rfl,uh HV,uh HK⟩
def fillF (num:Int) (b:List Int):List Fld:=if b.length = 0 then [] else [blkF num b]
theorem cfilled_any (g:Nat) (fs:List Fld) (num:Int) (p:Option Addr) (c:Nat) (b:List Int) (w:World) (hW:WrIn g w fs) (hb:Ints .u8 w p c b) (h1:1 ≤ num) (h2:num ≤ 536870911) (hl:b.length ≤ 140737488355328) :
  Calls Tryz.prog 74 #[.pointer (some ⟨g,0,none⟩),.int .i64 num,.slice p b.length c] w fun e w' => WEnd g w (fs ++ fillF num b) e w':=by
 have CF:=hide (cdata_any g fs num p c b w hW hb h1 h2 hl)
 have HW:=hide hW
 clear hW hb
 unfold fillF
 by_cases h0:b.length = 0
 ·rw [if_pos h0,List.append_nil]
  have t0:¬ (0:Int) < (b.length:Int):=by omega
  clear CF
  go_enter Tryz.func74,Tryz.ntmps74
  go_wp2_with fail
  go_end0
  exact ⟨rfl,uh HW,KeptW.refl _ _⟩
 ·rw [if_neg h0]
  have t0:(0:Int) < (b.length:Int):=by omega
  clear h0
  go_enter Tryz.func74,Tryz.ntmps74
  go_wp2_with fail
  refine (uh CF).mono ?_
  rintro e v ⟨rfl,hv1,hv2⟩
  have HV:=hide hv1
  have HK:=hide hv2
  clear hv1 hv2
  go_wp2_with fail
  go_end0
  exact ⟨rfl,uh HV,uh HK⟩
theorem fill_word (num:Int) (s:Str):fillF num s = wordF num s:=by
 unfold fillF wordF
 by_cases h:s = []
 ·subst h; rfl
 ·rw [if_neg h,if_neg (fun e => h (List.eq_nil_of_length_eq_zero e))]
theorem cname_any (g:Nat) (fs:List Fld) (num:Int) (s:Str) (w:World) (hW:WrIn g w fs) (hs:isB s) (h1:1 ≤ num) (h2:num ≤ 536870911) (hl:s.length ≤ 140737488351232) :
  Calls Tryz.prog 38 #[.pointer (some ⟨g,0,none⟩),.int .i64 num,strV s] w fun e w' => WEnd g w (fs ++ wordF num s) e w':=by
 have CF:=hide (fun v (hv:Below w.heap.size w v) p c (hb:Ls (Value.int .u8) v p c s) => cfilled_any g fs num p c s v (hW.below hv) (hb.ints (fun x hx => u8_wf (hs x hx))) h1 h2 (by omega))
 rw [fill_word] at CF
 have kc:=fun (w:World) (b:ByteArray) => Go.Lib.run_convert_string_bytes (P:=Tryz.prog) w 9 28 5 b Tryz.underlying9 Tryz.underlying28 Tryz.underlying5
 have hB:=hide (below_bytes w 5 (strOfNums s))
 have HL:=hide (ls_bytes (w:=w) (e:=5) hs (by omega))
 have hgl:=hW.lt
 have hlen:=str_len s
 unfold strV
 clear hW
 generalize wordF num s = F at CF ⊢
 go_enter Tryz.func38,Tryz.ntmps38
 go_wp2_with fail
 refine (uh CF _ (uh hB) _ _ (uh HL)).mono ?_
 rintro e v ⟨rfl,hv1,hv2⟩
 have HV:=hide hv1
 have HK:=hide ((KeptW.below (uh hB) (by omega)).trans hv2)
 clear hv1 hv2
 go_wp2_with fail
 go_end0
 exact ⟨rfl,uh HV,uh HK⟩
theorem own_ints {base:Nat} {w:World} {p:Option Addr} {c:Nat} {l:List Int} (h:w.ownsRow base 5 1 (.slice p l.length c) l.length (l.map (Value.int .u8))) (hb:∀ x ∈ l,(Lit.int .u8 x).wf = true) (hs:base ≤ w.heap.size):Ints .u8 w p c l:=by
 have h1:OwnG 5 (Value.int .u8) { w with heap:=w.heap.extract 0 base } w (.slice p l.length c) l:=⟨by simpa [Nat.min_eq_left hs] using h,⟨rfl,rfl,rfl,by simp; omega,fun k hk => by simp at hk; simp [Array.getElem?_extract]; omega⟩⟩
 obtain ⟨q,d,e,hl,_⟩:=h1.form
 simp only [Value.slice.injEq] at e
 obtain ⟨rfl,_,rfl⟩:=e
 exact hl.ints hb
theorem WrIn.over {g:Nat} {w:World} {fs gs:List Fld} (h:WrIn g w fs) (h1:4194304 < (msgB fs).length) (h2:4194304 < (msgB gs).length):WrIn g w gs:=by
 obtain ⟨v,bs,full,a,b,c,d,e⟩:=h
 have hf:full = true:=by unfold WS at c; rw [if_neg (by omega)] at c; exact c
 subst hf
 exact ⟨v,bs,true,a,b,WS.over _ h2,d,e⟩
def Writes (K:FuncId) (caps:Array Value) (w:World) (gs:List Fld):Prop :=
 ∀ v gin,Below w.heap.size w v → w.heap.size ≤ gin → WrIn gin v [] → Calls Tryz.prog K (#[.pointer (some ⟨gin,0,none⟩)] ++ caps) v fun e w' => WEnd gin v gs e w'
theorem cinner_any (g:Nat) (fs gs:List Fld) (num:Int) (K:FuncId) (hK:Ent K) (caps:Array Value) (w:World) (hW:WrIn g w fs) (H:Writes K caps w gs) (h1:1 ≤ num) (h2:num ≤ 536870911) :
  Calls Tryz.prog 18 #[.pointer (some ⟨g,0,none⟩),.int .i64 num,.func (.func K) #[] caps] w fun e w' => WEnd g w (fs ++ [blkF num (msgB gs)]) e w':=by
 have hk:∀ (args:Array Value) (v:World),(callFunc K args).run Tryz.prog v = .ok (.enter K args) v:=hK
 have HC:=hide (H (w.alloc (.cells #[.slice none 0 0,.bool false] 53)) w.heap.size (al1p _ _) (Nat.le_refl _) (WrIn.new w))
 have HD:=hide (fun fs p c b v (hv:WrIn g v fs) (hb:Ints .u8 v p c b) hl => cdata_any g fs num p c b v hv hb h1 h2 hl)
 have HW:=hide hW
 have gl:=hW.lt
 clear hK hW H
 go_enter Tryz.func18,Tryz.ntmps18
 go_wp2_with fail
 refine (uh HC).mono ?_
 rintro e v ⟨rfl,hv1,hv2⟩
 have BB:Hid (Below w.heap.size w v):=hide (bl_tr7 (al1p _ _) hv2.1)
 obtain ⟨vi,bi,fi,x1,x2,x3,x4,x5⟩:=hv1
 obtain ⟨vo,bo,fo,y1,y2,y3,y4,y5⟩:=(uh HW).below (uh BB)
 obtain ⟨pi,ci,rfl⟩:=own_slice x2
 obtain ⟨po,co,rfl⟩:=own_slice y2
 have ci1:=x1.cell
 have co1:=y1.cell
 have cf1:=y1.frozen
 have hne:¬ w.heap.size = g:=by omega
 have hne2:¬ g = w.heap.size:=by omega
 have vl:=x1.lt
 have LI:Hid (∀ j u,Ints .u8 (v.setCell ⟨g,j,none⟩ u) pi ci bi):=hide (fun j u => own_ints (ownsRow_set x2 (by omega) j u) (isB_wf x5) (by simp [World.setCell]; omega))
 have HX:=hide y1
 have HKW:=hide hv2
 have HOo:=hide y2
 have HY5:=hide y5
 have HY3:=hide y3
 clear HC hv2 y1 y2 y3 y5 x1 x2 x5
 cases fi with
 | true =>
   have HV:Hid (4194304 < (msgB (fs ++ [blkF num (msgB gs)])).length):=hide (by
    have:=x3.isFull
    rw [msg_app,List.length_append,msg_one,field_blk,List.length_append,List.length_append]
    omega)
   clear x3
   cases fo with
   | true =>
     have X4:Hid (WrIn g (v.setCell ⟨g,1,none⟩ (.bool true)) (fs ++ [blkF num (msgB gs)])):=hide ⟨_,bo,true,(uh HX).same 1 _,ownsRow_set (uh HOo) (by omega) _ _,WS.over _ (uh HV),y4,uh HY5⟩
     go_wp2_with fail
     refine (uh HD _ pi ci bi _ (uh X4) (uh LI 1 (.bool true)) (by omega)).mono ?_
     rintro e v2 ⟨rfl,hv1,hv2⟩
     have H1:=hide (hv1.over (by rw [msg_app,List.length_append]; have:=uh HV; omega) (uh HV))
     have H2:=hide (((KeptW.below (uh BB) (by omega)).trans (KeptW.set (uh HX))).trans hv2)
     clear hv1 hv2
     go_wp2_with fail
     go_end0
     exact ⟨rfl,uh H1,uh H2⟩
   | false =>
     have X4:Hid (WrIn g (v.setCell ⟨g,1,none⟩ (.bool true)) (fs ++ [blkF num (msgB gs)])):=hide ⟨_,bo,true,(uh HX).same 1 _,ownsRow_set (uh HOo) (by omega) _ _,WS.over _ (uh HV),y4,uh HY5⟩
     go_wp2_with fail
     refine (uh HD _ pi ci bi _ (uh X4) (uh LI 1 (.bool true)) (by omega)).mono ?_
     rintro e v2 ⟨rfl,hv1,hv2⟩
     have H1:=hide (hv1.over (by rw [msg_app,List.length_append]; have:=uh HV; omega) (uh HV))
     have H2:=hide (((KeptW.below (uh BB) (by omega)).trans (KeptW.set (uh HX))).trans hv2)
     clear hv1 hv2
     go_wp2_with fail
     go_end0
     exact ⟨rfl,uh H1,uh H2⟩
 | false =>
   cases fo with
   | true =>
     have X4:Hid (WrIn g (v.setCell ⟨g,1,none⟩ (.bool true)) fs):=hide ⟨_,bo,true,(uh HX).same 1 _,ownsRow_set (uh HOo) (by omega) _ _,uh HY3,y4,uh HY5⟩
     have HBI:=hide (x3.has).1
     clear x3
     go_wp2_with fail
     refine (uh HD _ pi ci bi _ (uh X4) (uh LI 1 (.bool true)) (by omega)).mono ?_
     rintro e v2 ⟨rfl,hv1,hv2⟩
     rw [uh HBI] at hv1
     have H1:=hide hv1
     have H2:=hide (((KeptW.below (uh BB) (by omega)).trans (KeptW.set (uh HX))).trans hv2)
     clear hv1 hv2
     go_wp2_with fail
     go_end0
     exact ⟨rfl,uh H1,uh H2⟩
   | false =>
     have X4:Hid (WrIn g (v.setCell ⟨g,1,none⟩ (.bool false)) fs):=hide ⟨_,bo,false,(uh HX).same 1 _,ownsRow_set (uh HOo) (by omega) _ _,uh HY3,y4,uh HY5⟩
     have HBI:=hide (x3.has).1
     clear x3
     go_wp2_with fail
     refine (uh HD _ pi ci bi _ (uh X4) (uh LI 1 (.bool false)) (by omega)).mono ?_
     rintro e v2 ⟨rfl,hv1,hv2⟩
     rw [uh HBI] at hv1
     have H1:=hide hv1
     have H2:=hide (((KeptW.below (uh BB) (by omega)).trans (KeptW.set (uh HX))).trans hv2)
     clear hv1 hv2
     go_wp2_with fail
     go_end0
     exact ⟨rfl,uh H1,uh H2⟩
end Go.Proofs.YtaikppgoahdjbabGreat
