import Derived.Laws.BytesString
import Derived.Test.YtaikppgoahdjbabGreatV05
import Derived.Test.YtaikppgoahdjbabGreatV06
import Derived.Test.YtaikppgoahdjbabGreatV08
import Derived.Test.YtaikppgoahdjbabGreatV19
import Derived.Test.YtaikppgoahdjbabGreatV20
set_option maxRecDepth 100000
set_option maxHeartbeats 8000000
namespace Go.Proofs.YtaikppgoahdjbabGreat
open Go.RowKit
set_option linter.unusedVariables false
def lev (f:F3):Int:=if f.1 = true then 3 else if f.2.1 = true then 2 else if f.2.2 = true then 1 else 0
theorem lev_f3 (a b:F3):lev (f3 a b) = max (lev a) (lev b):=by
 obtain ⟨a1,a2,a3⟩:=a
 obtain ⟨b1,b2,b3⟩:=b
 cases a1 <;> cases a2 <;> cases a3 <;> cases b1 <;> cases b2 <;> cases b3 <;> rfl
theorem lev_no:lev no3 = 0:=rfl
theorem lev_pos (a:F3):0 ≤ lev a:=by
 obtain ⟨a1,a2,a3⟩:=a
 cases a1 <;> cases a2 <;> cases a3 <;> decide
def Stay (g:Nat) (w w':World):Prop:=Below g w w' ∧ ∀ k,g < k → k < w.heap.size → w'.heap[k]? = w.heap[k]?
theorem Stay.trans {g:Nat} {a b c:World} (h:Stay g a b) (k:Stay g b c):Stay g a c:=⟨bl_tr7 h.1 k.1,fun i h1 h2 => (k.2 i h1 (Nat.lt_of_lt_of_le h2 h.1.size)).trans (h.2 i h1 h2)⟩
theorem Stay.below {g:Nat} {w w':World} (h:Below w.heap.size w w') (hg:g ≤ w.heap.size):Stay g w w':=⟨bl_mono7 h hg,fun k _ h2 => h.block k h2⟩
theorem Stay.block {g:Nat} {w w':World} (h:Stay g w w') {k:Nat} (hk:k ≠ g) (hl:k < w.heap.size):w'.heap[k]? = w.heap[k]?:=by
 rcases Nat.lt_or_ge k g with h1 | h1
 ·exact h.1.block k h1
 ·exact h.2 k (by omega) hl
def Wst (g:Nat) (w:World) (k:Int):Prop:=Box w g #[.int .i64 k] 69
def WstE (g:Nat) (w:World):Prop:=∃ k:Int,0 ≤ k ∧ k ≤ 3 ∧ Wst g w k
def RE (g:Nat) (f:F3) (w w':World):Prop:=Stay g w w' ∧ ∀ k:Int,0 ≤ k → Wst g w k → Wst g w' (max k (lev f))
theorem lev_le (a:F3):lev a ≤ 3:=by
 obtain ⟨a1,a2,a3⟩:=a
 cases a1 <;> cases a2 <;> cases a3 <;> decide
theorem RE.wst {g:Nat} {f:F3} {w w':World} (h:RE g f w w') (hw:WstE g w):WstE g w':=by
 obtain ⟨k,h0,h1,h2⟩:=hw
 have:=lev_le f
 exact ⟨_,by omega,by omega,h.2 k h0 h2⟩
theorem RE.trans {g:Nat} {f f':F3} {a b c:World} (h:RE g f a b) (k:RE g f' b c):RE g (f3 f f') a c :=
 ⟨h.1.trans k.1,fun n hn hw => by
  have:=k.2 _ (by omega) (h.2 n hn hw)
  rw [lev_f3]
  rwa [show max n (max (lev f) (lev f')) = max (max n (lev f)) (lev f') by omega]⟩
theorem WstE.lt {g:Nat} {w:World} (h:WstE g w):g < w.heap.size:=by obtain ⟨k,_,_,h⟩:=h; exact Box.lt h
theorem RE.below {g:Nat} {w w':World} (h:Below w.heap.size w w') (hw:WstE g w):RE g no3 w w' :=
 ⟨Stay.below h (Nat.le_of_lt hw.lt),fun k hk hb => by rw [lev_no,show max k 0 = k by omega]; exact Box.below hb h⟩
theorem RE.eq {g:Nat} {f f':F3} {w w':World} (h:RE g f w w') (e:lev f = lev f'):RE g f' w w':=⟨h.1,fun k hk hw => by rw [← e]; exact h.2 k hk hw⟩
theorem WstE.below {g:Nat} {w w':World} (h:WstE g w) (hb:Below w.heap.size w w'):WstE g w':=by
 obtain ⟨k,h0,h1,h2⟩:=h
 exact ⟨k,h0,h1,Box.below h2 hb⟩
def Off (g:Nat) (p:Option Addr) (n:Nat):Prop:=∀ b o,p = some ⟨b,o,none⟩ → 0 < n → b ≠ g
def MsIn (g:Nat) (w:World) (q:Option Addr) (d:Nat) (L:List FA):Prop:=Fls w q d L ∧ Off g q L.length ∧ (∀ a ∈ L,Off g a.q a.d.length) ∧ sumD L + L.length ≤ 4194304
theorem Flc.block7 {w w':World} {p:Option Addr} {cap:Nat} {l:List FA} (h:Flc w p cap l) (hs:w.heap.size ≤ w'.heap.size) (hk:∀ b o,p = some ⟨b,o,none⟩ → 0 < l.length → b < w.heap.size → w'.heap[b]? = w.heap[b]?):Flc w' p cap l:=by
 obtain ⟨h1,h2,h4,h5⟩:=h
 refine ⟨h1,h2,fun hp => ?_,h5⟩
 obtain ⟨b,o,e,g1,g2⟩:=h4 hp
 exact ⟨b,o,e,Nat.lt_of_lt_of_le g1 hs,fun i hi j u hu => (World.cell?_of_block (w:=w) (hk b o e hp g1)).trans (g2 i hi j u hu)⟩
theorem Ls.stay7 {α:Type} [Inhabited α] {f:α → Value} {g:Nat} {w w':World} {p:Option Addr} {cap:Nat} {xs:List α} (h:Ls f w p cap xs) (ho:Off g p xs.length) (s:Stay g w w'):Ls f w' p cap xs:=by
 obtain ⟨h1,h2,h4,h5⟩:=h
 refine ⟨h1,h2,fun hp => ?_,h5⟩
 obtain ⟨b,o,e,g1,g2⟩:=h4 hp
 exact ⟨b,o,e,Nat.lt_of_lt_of_le g1 s.1.size,fun i hi => (World.cell?_of_block (w:=w) (s.block (ho b o e hp) g1)).trans (g2 i hi)⟩
theorem Ints.stay7 {k:IntKind} {g:Nat} {w w':World} {p:Option Addr} {cap:Nat} {xs:List Int} (h:Ints k w p cap xs) (ho:Off g p xs.length) (s:Stay g w w'):Ints k w' p cap xs:=(h.ls.stay7 ho s).ints h.2.2.1
theorem MsIn.stay {g:Nat} {w w':World} {q:Option Addr} {d:Nat} {L:List FA} (h:MsIn g w q d L) (s:Stay g w w'):MsIn g w' q d L:=by
 obtain ⟨⟨h1,h2⟩,h3,h4,h5⟩:=h
 exact ⟨⟨h1.block7 s.1.size (fun b o e hp hl => s.block (h3 b o e hp) hl),fun a ha => ⟨(h2 a ha).1,(h2 a ha).2.1,(h2 a ha).2.2.1,(h2 a ha).2.2.2.stay7 (h4 a ha) s⟩⟩,h3,h4,h5⟩
theorem MsIn.small {g:Nat} {w:World} {q:Option Addr} {d:Nat} {L:List FA} (h:MsIn g w q d L):L.length ≤ 4194304 ∧ sumD L ≤ 4194304 ∧ ∀ a ∈ L,a.d.length ≤ 4194304:=⟨by have:=h.2.2.2; omega,by have:=h.2.2.2; omega,fun a ha => by have:=sumD_mem ha; have:=h.2.2.2; omega⟩
def msV (q:Option Addr) (n d g:Nat):Value:=.agg #[.slice q n d,.pointer (some ⟨g,0,none⟩)]
theorem note_end {g:Nat} {w:World} {k v f:Int} {o:Obj} (h:Wst g w k) (hv:v = max k f):Stay g w ((w.setCell ⟨g,0,none⟩ (.int .i64 v)).alloc o).drew ∧ ∀ k':Int,Wst g w k' → Wst g ((w.setCell ⟨g,0,none⟩ (.int .i64 v)).alloc o).drew (max k' f):=by
 have hb:Below (w.setCell ⟨g,0,none⟩ (.int .i64 v)).heap.size (w.setCell ⟨g,0,none⟩ (.int .i64 v)) ((w.setCell ⟨g,0,none⟩ (.int .i64 v)).alloc o).drew:=bl_tr (al1p _ _) (bdrewp _)
 have hs:(w.setCell ⟨g,0,none⟩ (.int .i64 v)).heap.size = w.heap.size:=by simp [World.setCell]
 refine ⟨Stay.trans ⟨(Below.refl g w).setCell (p:=⟨g,0,none⟩) (Nat.le_refl g) _,fun j hj _ => Below.heap_setCell _ _ _ _ (by simp; omega)⟩ (Stay.below hb (by rw [hs]; exact Nat.le_of_lt (Box.lt h))),fun k' hk' => ?_⟩
 have e:k' = k:=by
  unfold Wst Box at h hk'
  rw [h] at hk'
  simpa using hk'.symm
 subst e
 rw [← hv]
 exact Box.below (Box.same h 0 (.int .i64 v)) hb
theorem cnote_any (g:Nat) (q:Option Addr) (n d:Nat) (is:Bool) (f:Int) (w:World) (hw:WstE g w) :
  Calls Tryz.prog 46 #[msV q n d g,.bool is,.int .i64 f] w fun e w' => e = .returned (.tuple #[]) ∧ Stay g w w' ∧ ∀ k:Int,Wst g w k → Wst g w' (if is = true then max k f else k):=by
 obtain ⟨k,k0,k1,hk⟩:=hw
 have gl:=Box.lt hk
 have HK:=hide hk
 have x1:=(Box.alloc hk (Obj.cells #[.slice q n d,.pointer (some ⟨g,0,none⟩)] 74)).cell
 have f1:=(Box.alloc hk (Obj.cells #[.slice q n d,.pointer (some ⟨g,0,none⟩)] 74)).frozen
 unfold msV
 clear hk
 cases is
 ·go_enter Tryz.func46,Tryz.ntmps46
  go_wp2_with fail
  go_end0
  exact ⟨rfl,Stay.below (al1p _ _) (by omega),fun j hj => Box.below hj (al1p _ _)⟩
 ·go_enter Tryz.func46,Tryz.ntmps46
  go_wp2_with fail
  go_region
  go_wp2_with fail
  all_goals (go_end0; exact ⟨rfl,note_end (uh HK) (by omega)⟩)
theorem fold_push:∀ (l:List Int) (s:ByteArray),l.foldl (fun r n => r.push (UInt8.ofNat n.toNat)) s = ⟨s.data ++ (l.map fun n => UInt8.ofNat n.toNat).toArray⟩
 | [],s => by simp
 | x :: r,s => by
   rw [List.foldl_cons,fold_push r]
   congr 1
   apply Array.toList_inj.1
   simp [ByteArray.push]
theorem conv_str {src dst e:TypeId} {w:World} {p:Option Addr} {c:Nat} {l:List Int} (hs:Tryz.prog.underlying src = some (.slice e)) (he:Tryz.prog.underlying e = some (.int .u8)) (hd:Tryz.prog.underlying dst = some .string) (h:Ls (Value.int .u8) w p c l) :
  (convert src dst (.slice p l.length c)).run Tryz.prog w = .ok (.string (strOfNums l)) w:=by
 rw [run_convert_bytes_string w src dst e p l.length c hs he hd]
 cases p with
 | none =>
   have hx0:l = []:=by
    rcases Nat.eq_zero_or_pos l.length with g | g
    ·exact List.eq_nil_of_length_eq_zero g
    ·obtain ⟨b,o,e,_⟩:=h.lies g; cases e
   subst hx0
   simp [Conv.bytesToString]
   rfl
 | some ad =>
   rw [run_bytesToString w ad l.length c l (by
    have h1:=run_loadCells_list (P:=Tryz.prog) (w:=w) ad (l.map (Value.int .u8)) (ls_cells h)
    simpa using h1),fold_push]
   simp [strOfNums,ByteArray.empty,ByteArray.emptyWithCapacity]
   rfl
theorem bad3_if (b:Bool) (k:Int) (hk:0 ≤ k):max k (lev (bad3 b)) = if b = true then max k 3 else k:=by cases b <;> simp [bad3,lev]; omega
theorem odd3_if (b:Bool) (k:Int) (hk:0 ≤ k):max k (lev (odd3 b)) = if b = true then max k 2 else k:=by cases b <;> simp [odd3,lev]; omega
theorem big3_if (b:Bool) (k:Int) (hk:0 ≤ k):max k (lev (big3 b)) = if b = true then max k 1 else k:=by cases b <;> simp [big3,lev]; omega
def NEnd (g:Nat) (f:F3) (w:World) (e:Ending) (w':World):Prop:=e = .returned (.tuple #[]) ∧ RE g f w w'
theorem cnote_bad (g:Nat) (q:Option Addr) (n d:Nat) (is:Bool) (w:World) (hw:WstE g w) :
  Calls Tryz.prog 46 #[msV q n d g,.bool is,.int .i64 3] w fun e w' => NEnd g (bad3 is) w e w' :=
 (cnote_any g q n d is 3 w hw).mono fun e w' h => ⟨h.1,h.2.1,fun j hj hb => by rw [bad3_if is j hj]; exact h.2.2 j hb⟩
theorem cnote_odd (g:Nat) (q:Option Addr) (n d:Nat) (is:Bool) (w:World) (hw:WstE g w) :
  Calls Tryz.prog 46 #[msV q n d g,.bool is,.int .i64 2] w fun e w' => NEnd g (odd3 is) w e w' :=
 (cnote_any g q n d is 2 w hw).mono fun e w' h => ⟨h.1,h.2.1,fun j hj hb => by rw [odd3_if is j hj]; exact h.2.2 j hb⟩
theorem cnote_big (g:Nat) (q:Option Addr) (n d:Nat) (is:Bool) (w:World) (hw:WstE g w) :
  Calls Tryz.prog 46 #[msV q n d g,.bool is,.int .i64 1] w fun e w' => NEnd g (big3 is) w e w' :=
 (cnote_any g q n d is 1 w hw).mono fun e w' h => ⟨h.1,h.2.1,fun j hj hb => by rw [big3_if is j hj]; exact h.2.2 j hb⟩
theorem climit_any (g:Nat) (q:Option Addr) (n d:Nat) (size most:Int) (w:World) (hw:WstE g w) :
  Calls Tryz.prog 98 #[msV q n d g,.int .i64 size,.int .i64 most] w fun e w' => NEnd g (big3 (decide (most < size))) w e w':=by
 have C1:=hide (fun v (hv:WstE g v) => cnote_big g q n d (decide (most < size)) v hv)
 have HW:=hide hw
 clear hw
 generalize hD:decide (most < size) = D at C1 ⊢
 unfold msV at C1 ⊢
 go_enter Tryz.func98,Tryz.ntmps98
 go_wp2_with fail
 try rw [hD]
 refine (uh C1 _ ((uh HW).below (al1p _ _))).mono ?_
 rintro e v ⟨rfl,hv⟩
 have H1:=hide ((RE.below (al1p _ _) (uh HW)).trans hv)
 clear hv
 rw [no_f3] at H1
 go_wp2_with fail
 go_end0
 exact ⟨rfl,uh H1⟩
theorem MsIn.sw {g r:Nat} {w w0:World} {q:Option Addr} {d:Nat} {L:List FA} (h:MsIn g w q d L) (hr:MsIn r w0 q d L):MsIn r w q d L:=⟨h.1,hr.2.1,hr.2.2.1,h.2.2.2⟩
theorem Stay.set (r:Nat) (w:World) (j:Nat) (u:Value):Stay r w (w.setCell ⟨r,j,none⟩ u):=⟨(Below.refl r w).setCell (p:=⟨r,j,none⟩) (Nat.le_refl r) u,fun k hk _ => Below.heap_setCell _ _ _ _ (by simp only; omega)⟩
theorem RE.setNew {g r:Nat} {f:F3} {w w':World} (h:RE g f w w') (hr:w.heap.size ≤ r) (hg:g < w.heap.size) (j:Nat) (u:Value):RE g f w (w'.setCell ⟨r,j,none⟩ u) :=
 ⟨⟨h.1.1.setCell (p:=⟨r,j,none⟩) (by simp only; omega) u,fun k h1 h2 => (Below.heap_setCell _ _ _ _ (by simp only; omega)).trans (h.1.2 k h1 h2)⟩,fun k hk hb => Box.other (h.2 k hk hb) (by omega) j u⟩
def FrM (B:Nat) (q:Option Addr) (L:List FA):Prop:=∀ r,r < B → Off r q L.length ∧ ∀ a ∈ L,Off r a.q a.d.length
theorem ownL_ms {g:Nat} {w w':World} {v:Value} {L:List FA} (h:OwnL w w' v L) (hg:g < w.heap.size) (hs:sumD L + L.length ≤ 4194304):∃ q d,v = .slice q L.length d ∧ MsIn g w' q d L:=by
 obtain ⟨q,d,hv,hc,hf⟩:=h.1.form
 refine ⟨q,d,hv,⟨hc,fun a ha => (h.2 a ha).1⟩,fun b o e hp => ?_,fun a ha b o e hp => ?_,hs⟩
 ·have:=(hf b o e (by omega)).1; omega
 ·rcases (h.2 a ha).2.2 with ⟨hv2,h0⟩ | ⟨k,cap,cur,hv2,hb,_⟩
  ·simp only [Value.slice.injEq] at hv2
   rw [hv2.1] at e; cases e
  ·simp only [Value.slice.injEq] at hv2
   rw [hv2.1] at e
   simp only [Option.some.injEq,Addr.mk.injEq] at e
   omega
theorem copened_any (g:Nat) (q:Option Addr) (n d:Nat) (p:Option Addr) (c:Nat) (b:List Int) (w:World) (hw:WstE g w) (hb:Ints .u8 w p c b) (hl:b.length ≤ 4194304) :
  Calls Tryz.prog 28 #[msV q n d g,.slice p b.length c] w fun e w' => ∃ q' d' L,e = .returned (msV q' L.length d' g) ∧ Hid (L.map FA.f = (fieldsP b).1 ∧ MsIn g w' q' d' L ∧ RE g (fieldsP b).2 w w' ∧ FrM w.heap.size q' L):=by
 have C1:=hide (fun v (hv:Below w.heap.size w v) => cread_any p c b v (hb.below hv))
 have HS:=hide (fun L => read_sum (L:=L) (wf_isB hb.2.2.1) hl)
 have HF:Hid (fieldsP b = ((readV b).1,bad3 ((readV b).2 != 0))):=hide rfl
 generalize readV b = R at C1 HS HF
 obtain ⟨R1,R2⟩:=R
 simp only at C1 HS HF
 rw [uh HF]
 have C2:=hide (fun v (hv:WstE g v) => cnote_bad g q n d (R2 != 0) v hv)
 obtain ⟨D,hD⟩:∃ D,(R2 != 0) = D:=⟨_,rfl⟩
 rw [hD] at C2 ⊢
 have HW:=hide hw
 have gl:=hw.lt
 clear hw hb HF
 unfold msV at C2 ⊢
 go_enter Tryz.func28,Tryz.ntmps28
 go_wp2_with fail
 refine (uh C1 _ (al2p _ _ _)).mono ?_
 rintro e w1 ⟨v1,L,rfl,hL,hO⟩
 obtain ⟨q',d',rfl,hm⟩:=ownL_ms (g:=g) (uh hO) (by simp; omega) (uh HS L (uh hL))
 have HFr:Hid (FrM w.heap.size q' L):=hide (fun r hr => by
  obtain ⟨q2,d2,e2,h2⟩:=ownL_ms (g:=r) (uh hO) (by simp; omega) (uh HS L (uh hL))
  simp only [Value.slice.injEq] at e2
  obtain ⟨rfl,_,rfl⟩:=e2
  exact ⟨h2.2.1,h2.2.2.1⟩)
 have HMr:Hid (MsIn (w.heap.size + 1) w1 q' d' L):=hide (by
  obtain ⟨q2,d2,e2,h2⟩:=ownL_ms (g:=w.heap.size + 1) (uh hO) (by simp) (uh HS L (uh hL))
  simp only [Value.slice.injEq] at e2
  obtain ⟨rfl,_,rfl⟩:=e2
  exact h2)
 have B1:=hide (bl_tr (al2p w _ _) (uh hO).1.2)
 have HM:=hide hm
 have X1:=hide (Box.below (Box.alloc (Box.new w #[.slice q n d,.pointer (some ⟨g,0,none⟩)] 74) _) (uh hO).1.2)
 have Y1:=hide (Box.below (Box.new (w.alloc (Obj.cells #[.slice q n d,.pointer (some ⟨g,0,none⟩)] 74)) #[.slice none 0 0,.pointer none] 74) (uh hO).1.2)
 simp only [alloc_size6] at Y1
 have x1:=(uh X1).cell
 have y1:=(uh Y1).cell
 have z1:=(uh Y1).frozen
 clear hO hm C1
 go_wp2_with fail
 try rw [hD]
 refine (uh C2 _ ((uh HW).below (uh B1))).mono ?_
 rintro e w2 ⟨rfl,hr⟩
 have R1':=hide ((RE.below (uh B1) (uh HW)).trans hr)
 rw [no_f3] at R1'
 have HM2:=hide ((uh HM).stay hr.1)
 have x2:∀ j,w2.cell? ⟨w.heap.size,j,none⟩ = (#[.slice q n d,.pointer (some ⟨g,0,none⟩)]:Array Value)[j]?:=fun j => (World.cell?_of_block (w:=w1) (hr.1.block (by simp only; omega) (uh X1).lt)).trans ((uh X1).cell j)
 have Y2:Hid (Box w2 (w.heap.size + 1) #[.slice none 0 0,.pointer none] 74):=hide ((hr.1.block (by omega) (uh Y1).lt).trans (uh Y1))
 have y2:=(uh Y2).cell
 have z2:=(uh Y2).frozen
 clear hr y1 z1
 go_wp2_with fail
 have Y3:=hide ((uh Y2).set2 (.slice q' L.length d') (.pointer (some ⟨g,0,none⟩)))
 refine bodyPost_ret ?_ rfl ⟨q',d',L,rfl,hide ⟨uh hL,((((uh HM2).sw (uh HMr)).stay ((Stay.set _ _ _ _).trans (Stay.set _ _ _ _))).sw (uh HM)),((uh R1').setNew (by omega) (by omega) _ _).setNew (by omega) (by omega) _ _,uh HFr⟩⟩
 simp [results,Tryz.results28,go_sem,(uh Y3).cell]
theorem ownD_off {B g:Nat} {w:World} {a:FA} (h:OwnD B w a) (hg:g < B):Off g a.q a.d.length:=fun b o e hp => by
 rcases h.2 with ⟨hv2,h0⟩ | ⟨k,cap,cur,hv2,hb,_⟩
 ·simp only [Value.slice.injEq] at hv2
  rw [hv2.1] at e; cases e
 ·simp only [Value.slice.injEq] at hv2
  rw [hv2.1] at e
  simp only [Option.some.injEq,Addr.mk.injEq] at e
  omega
theorem FaIn.stay {g:Nat} {w w':World} {a:FA} (h:FaIn w a) (ho:Off g a.q a.d.length) (s:Stay g w w'):FaIn w' a:=⟨h.1,h.2.1,h.2.2.1,h.2.2.2.stay7 ho s⟩
theorem Stay.box {g k:Nat} {w w':World} {cs:Array Value} {t:TypeId} (s:Stay g w w') (h:Box w k cs t) (hk:k ≠ g):Box w' k cs t:=(s.block hk h.lt).trans h
theorem clastm_any (g:Nat) (q:Option Addr) (d:Nat) (L:List FA) (num wire:Int) (w:World) (hw:WstE g w) (h:MsIn g w q d L) :
  Calls Tryz.prog 85 #[msV q L.length d g,.int .i64 num,.int .i64 wire] w fun e w' => ∃ a,e = .returned (.tuple #[faV a,.bool (lastV (L.map FA.f) num wire).2.1]) ∧ Hid (a.f = (lastV (L.map FA.f) num wire).1 ∧ FaIn w' a ∧ (∀ r,r < w.heap.size → Off r a.q a.d.length) ∧ RE g (bad3 ((lastV (L.map FA.f) num wire).2.2 != 0)) w w'):=by
 obtain ⟨s1,s2,s3⟩:=h.small
 have C1:=hide (fun v (hv:Below w.heap.size w v) => clast_any q d L num wire v (h.1.below hv) (by omega) (fun a ha => by have:=s3 a ha; omega))
 generalize lastV (L.map FA.f) num wire = R at C1 ⊢
 obtain ⟨R1,R2,R3⟩:=R
 simp only at C1 ⊢
 have C2:=hide (fun v (hv:WstE g v) => cnote_bad g q L.length d (R3 != 0) v hv)
 obtain ⟨D,hD⟩:∃ D,(R3 != 0) = D:=⟨_,rfl⟩
 rw [hD] at C2 ⊢
 have HW:=hide hw
 have gl:=hw.lt
 clear hw h s3
 unfold msV at C2 ⊢
 go_enter Tryz.func85,Tryz.ntmps85
 go_wp2_with fail
 refine (uh C1 _ (al2p _ _ _)).mono ?_
 rintro e w1 ⟨a,rfl,hq⟩
 obtain ⟨h1,h2,h3,h4⟩:=uh hq
 have H1:=hide h1
 have H2:=hide h2
 have H3:=hide (fun r (hr:r < w.heap.size) => ownD_off (g:=r) h3 (by simp; omega))
 have H4:=hide (ownD_off (g:=w.heap.size + 1) h3 (by simp))
 have B1:=hide (fun o => bl_tr (bl_tr (al2p w _ _) h4) (al1p w1 o))
 have X1:=hide (Box.below (Box.alloc (Box.new w #[.slice q L.length d,.pointer (some ⟨g,0,none⟩)] 74) _) h4)
 have Y1:=hide (Box.below (Box.new (w.alloc (Obj.cells #[.slice q L.length d,.pointer (some ⟨g,0,none⟩)] 74)) #[.int .i64 0,.int .i64 0,.int .u64 0,.slice none 0 0] 91) h4)
 simp only [alloc_size6] at Y1
 have l1:=(uh Y1).lt
 have x1:=fun o => ((uh X1).alloc o).cell
 clear hq h1 h2 h3 h4 C1
 obtain ⟨an,awr,ax,ad,aq,ac⟩:=a
 unfold faV
 simp only
 go_wp2_with fail
 try rw [hD]
 refine (uh C2 _ ((uh HW).below (uh B1 _))).mono ?_
 rintro e w2 ⟨rfl,hr⟩
 have R1':=hide ((RE.below (uh B1 _) (uh HW)).trans hr)
 rw [no_f3] at R1'
 have Y2:=hide (hr.1.box ((uh Y1).alloc _) (by omega))
 have y2:=(uh Y2).cell
 have z2:=(uh Y2).frozen
 have F2:=hide (hr.1.box (Box.new w1 #[.int .i64 an,.int .i64 awr,.int .u64 ax,.slice aq ad.length ac] 91) (by omega))
 have f2:=(uh F2).cell
 have H5:=hide (((uh H2).below (al1p w1 _)).stay (uh H3 g gl) hr.1)
 clear hr
 go_wp2_with fail
 have Y3:=hide ((uh Y2).set4 (.int .i64 an) (.int .i64 awr) (.int .u64 ax) (.slice aq ad.length ac))
 refine bodyPost_ret ?_ rfl ⟨⟨an,awr,ax,ad,aq,ac⟩,rfl,hide ⟨uh H1,(uh H5).stay (uh H4) ((((Stay.set _ _ _ _).trans (Stay.set _ _ _ _)).trans (Stay.set _ _ _ _)).trans (Stay.set _ _ _ _)),uh H3,((((uh R1').setNew (by omega) (by omega) _ _).setNew (by omega) (by omega) _ _).setNew (by omega) (by omega) _ _).setNew (by omega) (by omega) _ _⟩⟩
 simp [results,Tryz.results85,go_sem,(uh Y3).cell,faV]
theorem cnum_any (g:Nat) (q:Option Addr) (d:Nat) (L:List FA) (num:Int) (w:World) (hw:WstE g w) (h:MsIn g w q d L) :
  Calls Tryz.prog 45 #[msV q L.length d g,.int .i64 num] w fun e w' => e = .returned (.int .i64 (wholeP (L.map FA.f) num).1) ∧ RE g ((wholeP (L.map FA.f) num).2) w w':=by
 have C1:=hide (fun v (hv:Below w.heap.size w v) => clastm_any g q d L num 0 v (hw.below hv) (h.stay (Stay.below hv (Nat.le_of_lt hw.lt))))
 rw [show (wholeP (L.map FA.f) num).2 = bad3 ((lastV (L.map FA.f) num 0).2.2 != 0) from rfl]
 unfold wholeP i64w
 generalize lastV (L.map FA.f) num 0 = R at C1 ⊢
 obtain ⟨R1,R2,R3⟩:=R
 simp only at C1 ⊢
 generalize (R3 != 0) = D at C1 ⊢
 have HW:=hide hw
 clear hw h
 unfold msV at C1 ⊢
 go_enter Tryz.func45,Tryz.ntmps45
 go_wp2_with fail
 refine (uh C1 _ (al1p _ _)).mono ?_
 rintro e w1 ⟨a,rfl,hq⟩
 obtain ⟨h1,h2,h3,h4⟩:=uh hq
 have r1:=(RE.below (al1p w _) (uh HW)).trans h4
 rw [no_f3] at r1
 have R1':=hide (fun o => r1.trans (RE.below (al1p w1 o) (r1.wst (uh HW))))
 subst h1
 have H2:=hide h2
 clear hq h4 C1 r1
 obtain ⟨an,awr,ax,ad,aq,ac⟩:=a
 unfold faV
 simp only
 go_wp2_with fail
 go_ret
 exact ⟨by first | rfl | (show _ = Ending.returned (.int .i64 (IntKind.i64.wrap ax)); rw [IntKind.wrap_i64]; rfl) | (show _ = Ending.returned (.int .i64 (IntKind.i64.wrap ax)); simp [wrap64,IntKind.wrap_i64]),RE.eq (uh R1' _) (by rw [f3_no])⟩
theorem cflt_any (g:Nat) (q:Option Addr) (d:Nat) (L:List FA) (num:Int) (w:World) (hw:WstE g w) (h:MsIn g w q d L) :
  Calls Tryz.prog 174 #[msV q L.length d g,.int .i64 num] w fun e w' => e = .returned (.int .u32 ((lastF (L.map FA.f) num 5).1.2.2.1 % 4294967296)) ∧ RE g ((lastF (L.map FA.f) num 5).2) w w':=by
 have C1:=hide (fun v (hv:Below w.heap.size w v) => clastm_any g q d L num 5 v (hw.below hv) (h.stay (Stay.below hv (Nat.le_of_lt hw.lt))))
 rw [show (lastF (L.map FA.f) num 5).2 = bad3 ((lastV (L.map FA.f) num 5).2.2 != 0) from rfl]
 unfold lastF
 generalize lastV (L.map FA.f) num 5 = R at C1 ⊢
 obtain ⟨R1,R2,R3⟩:=R
 simp only at C1 ⊢
 generalize (R3 != 0) = D at C1 ⊢
 have HW:=hide hw
 clear hw h
 unfold msV at C1 ⊢
 go_enter Tryz.func174,Tryz.ntmps174
 go_wp2_with fail
 refine (uh C1 _ (al1p _ _)).mono ?_
 rintro e w1 ⟨a,rfl,hq⟩
 obtain ⟨h1,h2,h3,h4⟩:=uh hq
 have r1:=(RE.below (al1p w _) (uh HW)).trans h4
 rw [no_f3] at r1
 have R1':=hide (fun o => r1.trans (RE.below (al1p w1 o) (r1.wst (uh HW))))
 subst h1
 have H2:=hide h2
 clear hq h4 C1 r1
 obtain ⟨an,awr,ax,ad,aq,ac⟩:=a
 unfold faV
 simp only
 go_wp2_with fail
 go_ret
 exact ⟨rfl,RE.eq (uh R1' _) (by rw [f3_no])⟩
theorem ctxt_any (g:Nat) (q:Option Addr) (d:Nat) (L:List FA) (num:Int) (w:World) (hw:WstE g w) (h:MsIn g w q d L) :
  Calls Tryz.prog 89 #[msV q L.length d g,.int .i64 num] w fun e w' => e = .returned (strV (textP (L.map FA.f) num).1) ∧ RE g ((textP (L.map FA.f) num).2) w w':=by
 have C1:=hide (fun v (hv:Below w.heap.size w v) => clastm_any g q d L num 2 v (hw.below hv) (h.stay (Stay.below hv (Nat.le_of_lt hw.lt))))
 rw [show (textP (L.map FA.f) num).2 = bad3 ((lastV (L.map FA.f) num 2).2.2 != 0) from rfl]
 unfold textP strV
 generalize lastV (L.map FA.f) num 2 = R at C1 ⊢
 obtain ⟨R1,R2,R3⟩:=R
 simp only at C1 ⊢
 generalize (R3 != 0) = D at C1 ⊢
 have HW:=hide hw
 clear hw h
 unfold msV at C1 ⊢
 go_enter Tryz.func89,Tryz.ntmps89
 go_wp2_with fail
 refine (uh C1 _ (al1p _ _)).mono ?_
 rintro e w1 ⟨a,rfl,hq⟩
 obtain ⟨h1,h2,h3,h4⟩:=uh hq
 have r1:=(RE.below (al1p w _) (uh HW)).trans h4
 rw [no_f3] at r1
 have R1':=hide (fun o => r1.trans (RE.below (al1p w1 o) (r1.wst (uh HW))))
 subst h1
 have H2:=hide h2
 clear hq h4 C1 r1
 obtain ⟨an,awr,ax,ad,aq,ac⟩:=a
 unfold faV
 simp only
 have kc:=fun o => conv_str (dst:=9) Tryz.underlying28 Tryz.underlying5 Tryz.underlying9 (((uh H2).below (al1p w1 o)).2.2.2.ls)
 simp only at kc
 go_wp2_with fail
 go_ret
 exact ⟨rfl,RE.eq (uh R1' _) (by rw [f3_no])⟩
end Go.Proofs.YtaikppgoahdjbabGreat
