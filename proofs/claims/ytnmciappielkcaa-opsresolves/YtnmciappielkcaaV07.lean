import Derived.Deep.DeepAppendWide
import Derived.Laws.OwnMore
import Derived.Test.YtnmciappielkcaaV06
set_option maxRecDepth 100000
set_option maxHeartbeats 8000000
namespace Go.Proofs.Ytnmciappielkcaa
open Go.RowKit
set_option linter.unusedVariables false
def Wd {β:Type} (k:Nat) (cells:β → List Value):Prop:=0 < k ∧ (∀ a,(cells a).length = k) ∧ ∀ a,∀ u ∈ cells a,u.oneCell' = true
def Rc {β:Type} (k:Nat) (cells:β → List Value) (z:β) (w:World) (p:Option Addr) (cap:Nat) (l:List β):Prop :=
 l.length ≤ cap ∧ cap ≤ 9223372036854775807 ∧ (0 < l.length → ∃ b o,p = some ⟨b,o,none⟩ ∧ b < w.heap.size ∧ ∀ i,i < l.length → ∀ j u,(cells (l.getD i z))[j]? = some u → w.cell? ⟨b,o + i * k + j,none⟩ = some u) ∧ (p = none → cap = 0)
section
variable {β:Type} {k:Nat} {cells:β → List Value} {z:β} {w w' wr:World} {p:Option Addr} {cap:Nat} {l:List β} {t:TypeId} {v:Value}
theorem Rc.len (h:Rc k cells z w p cap l):l.length ≤ 9223372036854775807:=Nat.le_trans h.1 h.2.1
theorem Rc.nil (w:World):Rc k cells z w none 0 []:=⟨by simp,by omega,by simp,fun _ => rfl⟩
theorem Rc.lies (h:Rc k cells z w p cap l) (hp:0 < l.length):∃ b o,p = some ⟨b,o,none⟩ ∧ b < w.heap.size ∧ ∀ i,i < l.length → ∀ j u,(cells (l.getD i z))[j]? = some u → w.cell? ⟨b,o + i * k + j,none⟩ = some u:=h.2.2.1 hp
theorem Rc.block (h:Rc k cells z w p cap l) (hs:w.heap.size ≤ w'.heap.size) (hk:∀ b o,p = some ⟨b,o,none⟩ → 0 < l.length → w'.heap[b]? = w.heap[b]?):Rc k cells z w' p cap l:=by
 obtain ⟨h1,h2,h4,h5⟩:=h
 refine ⟨h1,h2,fun hp => ?_,h5⟩
 obtain ⟨b,o,e,g1,g2⟩:=h4 hp
 exact ⟨b,o,e,Nat.lt_of_lt_of_le g1 hs,fun i hi j u hu => (World.cell?_of_block (w:=w) (hk b o e hp)).trans (g2 i hi j u hu)⟩
theorem Rc.below (h:Rc k cells z w p cap l) (hb:Below w.heap.size w w'):Rc k cells z w' p cap l:=by
 refine h.block hb.size (fun b o e hp => ?_)
 obtain ⟨b',o',e',g1,_⟩:=h.lies hp
 rw [e] at e'
 simp only [Option.some.injEq,Addr.mk.injEq] at e'
 rw [e'.1]
 exact hb.block b' g1
def OwnR {β:Type} (t:TypeId) (k:Nat) (cells:β → List Value) (w wr:World) (v:Value) (l:List β):Prop:=wr.ownsRow w.heap.size t k v l.length (l.flatMap cells) ∧ Below w.heap.size w wr
theorem OwnR.nil (t:TypeId) (h:Below w.heap.size w wr):OwnR t k cells w wr (.slice none 0 0) []:=⟨World.ownsRow_nil _ _ _ _,h⟩
theorem OwnR.below (h:OwnR t k cells w wr v l) (hb:Below wr.heap.size wr w'):OwnR t k cells w w' v l:=by
 obtain ⟨⟨l1,h1⟩,h2⟩:=h
 refine ⟨⟨l1,?_⟩,bl_tr h2 hb⟩
 rcases h1 with ⟨rfl,h0⟩ | ⟨g,cap,cur,rfl,hb1,hh,hc,hm,hs,ht⟩
 ·exact .inl ⟨rfl,h0⟩
 ·exact .inr ⟨g,cap,cur,rfl,hb1,(hb.block g (lt_of_block hh)).trans hh,hc,hm,hs,ht⟩
theorem rc_len (hk:Wd k cells) (l:List β):(l.flatMap cells).length = l.length * k:=by
 induction l with
 | nil => simp
 | cons a r ih => rw [List.flatMap_cons,List.length_append,ih,hk.2.1,List.length_cons,Nat.add_mul]; omega
theorem rc_get (hk:Wd k cells):∀ (l:List β) (i j:Nat),i < l.length → j < k → (l.flatMap cells)[i * k + j]? = (cells (l.getD i z))[j]?
 | [],i,j,h,_ => by simp at h
 | a :: r,0,j,h,hj => by
   simp only [List.flatMap_cons,Nat.zero_mul,Nat.zero_add]
   rw [List.getElem?_append_left (by rw [hk.2.1]; exact hj)]
   rfl
 | a :: r,i + 1,j,h,hj => by
   simp only [List.flatMap_cons]
   rw [List.getElem?_append_right (by rw [hk.2.1,Nat.add_mul]; omega),hk.2.1,show (i + 1) * k + j - k = i * k + j by rw [Nat.add_mul]; omega,rc_get hk r i j (by simpa using h) hj]
   rfl
theorem OwnR.form (hk:Wd k cells) (h:OwnR t k cells w wr v l):∃ p cap,v = .slice p l.length cap ∧ Rc k cells z wr p cap l ∧ Fresh w.heap.size wr p (l.length * k):=by
 obtain ⟨⟨l1,h1⟩,h2⟩:=h
 have h0:wr.ownsRow w.heap.size t k v l.length (l.flatMap cells):=⟨l1,h1⟩
 rcases h1 with ⟨rfl,hn⟩ | ⟨g,cap,cur,rfl,hb,hh,hc,hm,hs,ht⟩
 ·exact ⟨none,0,by rw [hn],⟨by omega,by omega,fun hp => by omega,fun _ => rfl⟩,fun b o e => by cases e⟩
 ·refine ⟨some ⟨g,0,none⟩,cap,rfl,⟨hc,hm,fun hp => ⟨g,0,rfl,(h0.lt g rfl).2,fun i hi j u hu => ?_⟩,fun h => by cases h⟩,fun b o e hp => ?_⟩
  ·have hj:j < k:=by
    have:=(List.getElem?_eq_some_iff.1 hu).1
    rw [hk.2.1] at this; exact this
   have hlt:i * k + j < l.length * k:=by
    have:(i + 1) * k ≤ l.length * k:=Nat.mul_le_mul_right k hi
    rw [Nat.add_mul] at this
    omega
   have e:cur.toList[i * k + j]? = some u:=by
    have e1:(cur.toList.take (l.length * k))[i * k + j]? = cur.toList[i * k + j]?:=List.getElem?_take_of_lt hlt
    rw [← e1,ht,rc_get (z:=z) hk l i j hi hj,hu]
   simp [World.cell?,hh]
   simpa using e
  ·simp only [Option.some.injEq,Addr.mk.injEq] at e
   obtain ⟨rfl,rfl,_⟩:=e
   exact ⟨hb,fun i _ => h0.frozenAt (0 + i)⟩
theorem rc_cells {b o:Nat} (hk:Wd k cells) (h:∀ i,i < l.length → ∀ j u,(cells (l.getD i z))[j]? = some u → w.cell? ⟨b,o + i * k + j,none⟩ = some u):∀ j u,(l.flatMap cells)[j]? = some u → w.cell? ((⟨b,o,none⟩:Addr).add j) = some u:=by
 intro j u hj
 have hjl:j < l.length * k:=by
  have:=(List.getElem?_eq_some_iff.1 hj).1
  rw [rc_len hk] at this; exact this
 have hdk:j / k < l.length:=Nat.div_lt_of_lt_mul (by rw [Nat.mul_comm]; exact hjl)
 have hmk:j % k < k:=Nat.mod_lt _ hk.1
 have e1:j = j / k * k + j % k:=by rw [Nat.mul_comm]; exact (Nat.div_add_mod j k).symm
 have e2:=rc_get (z:=z) hk l (j / k) (j % k) hdk hmk
 rw [← e1] at e2
 rw [e2] at hj
 have:=h (j / k) hdk (j % k) u hj
 rw [Go.WideShapes.add_plain,show o + j = o + j / k * k + j % k by omega]
 exact this
theorem wpList_append_rc {P:Program} {ops:Array Oper} {rest:List Oper} {o:Oper} {a:Act} {Q:Exit → Act → World → Prop} (hk:Wd k cells) (z:β) (hgd:o.guard = none) (s x:Operand) (t:TypeId)
  (ho:o.op = .call { callee:=.builtin .append,args:=#[s,x],argTypes:=#[t,t] })
  (w0:World) (e:TypeId) (i:TypeInfo) (zv:Value) (bytes:Nat) (ht:P.underlying t = some (.slice e)) (hi:P.info? e = some i) (hz:i.zero = some zv)
  (hsize:i.size = k) (hby:i.bytes = bytes) (hzs:zv.cells.size = k)
  (v:Value) (l:List β) (hs:a.eval s = v) (hown:OwnR e k cells w0 w v l)
  (p:Option Addr) (c:Nat) (m:List β) (hx:a.eval x = .slice p m.length c) (hc:Rc k cells z w p c m)
  (h63:l.length + m.length ≤ maxLen) (hbytes:((l.length + m.length) + (l.length + m.length) / 4 + 192) * bytes ≤ 281474976710656)
  (h:∀ v' w',OwnR e k cells w0 w' v' (l ++ m) → w.grownBy w' v.ownBlock → wpList P ops Q rest (a.put o.dst v') w'):wpList P ops Q (o :: rest) a w:=by
 cases p with
 | none =>
   have hx0:m = []:=by
    rcases Nat.eq_zero_or_pos m.length with g | g
    ·exact List.eq_nil_of_length_eq_zero g
    ·obtain ⟨b,o,e,_⟩:=hc.lies g; cases e
   subst hx0
   have hc0:c = 0:=hc.2.2.2 rfl
   subst hc0
   refine wpList_append_own_none hgd s x t ho w0.heap.size e i k ht hi v _ _ hs hown.1 hx (h v w ?_ ⟨rfl,rfl,rfl,Nat.le_refl _,fun _ _ _ => rfl⟩)
   rw [List.append_nil]; exact hown
 | some ad =>
   have hcells:∀ j u,(m.flatMap cells)[j]? = some u → w.cell? (ad.add j) = some u:=by
    rcases Nat.eq_zero_or_pos m.length with g | g
    ·have:m = []:=List.eq_nil_of_length_eq_zero g
     subst this
     intro j u hj; simp at hj
    ·obtain ⟨b,o,e,hb,hcc⟩:=hc.lies g
     simp only [Option.some.injEq] at e
     subst e
     exact rc_cells hk hcc
   refine wpList_append_own_wide w hgd s x t ho w0.heap.size e i zv k bytes ht hi hz hsize hby hzs hk.1 v l.length (l.flatMap cells) hs hown.1 ad m.length c (m.flatMap cells) hx (rc_len hk m) hcells (fun u hu => by
    obtain ⟨f,_,hf⟩:=List.mem_flatMap.1 hu
    exact hk.2.2 f u hf) h63 hbytes hown.2.size ?_
   intro v' w' h1 h2 _
   refine h v' w' ⟨?_,hown.2.grown h2 hown.2.size (fun k hk => (hown.1.lt k hk).1)⟩ h2
   rw [List.length_append,List.flatMap_append]; exact h1
theorem rc_new {cs:Array Value} {x:β} (hk:Wd k cells) (w:World) (t:TypeId) (hc:cs = (cells x).toArray):Rc k cells z (w.alloc (.cells cs t)) (some ⟨w.heap.size,0,none⟩) 1 [x]:=by
 refine ⟨Nat.le_refl _,by omega,fun _ => ⟨w.heap.size,0,rfl,by simp,fun i hi j u hu => ?_⟩,fun h => by cases h⟩
 have hi0:i = 0:=by simp at hi; omega
 subst hi0
 rw [Box.cell (Box.new w cs t),hc]
 have e:0 + 0 * k + j = j:=by omega
 rw [e]
 simpa using hu
end
def Kept (TS:List TypeId) (B:Nat) (w w':World):Prop :=
 w.heap.size ≤ w'.heap.size ∧ (∀ b,b < B → b < w.heap.size → w'.heap[b]? = w.heap[b]?) ∧ ∀ (b:Nat) (cur:Array Value) (t:TypeId),t ∈ TS → w.heap[b]? = some (Obj.cells cur t (0,0)) → w'.heap[b]? = some (Obj.cells cur t (0,0))
theorem Kept.below {TS:List TypeId} {B:Nat} {w w':World} (h:Below w.heap.size w w'):Kept TS B w w':=⟨h.size,fun b _ hb => h.block b hb,fun b cur t _ hh => (h.block b (lt_of_block hh)).trans hh⟩
theorem Kept.trans {TS:List TypeId} {B:Nat} {a b c:World} (h:Kept TS B a b) (k:Kept TS B b c):Kept TS B a c :=
 ⟨Nat.le_trans h.1 k.1,fun i h1 h2 => (k.2.1 i h1 (Nat.lt_of_lt_of_le h2 h.1)).trans (h.2.1 i h1 h2),fun i cur t ht hh => k.2.2 i cur t ht (h.2.2 i cur t ht hh)⟩
theorem Kept.grown {TS:List TypeId} {B base k n:Nat} {e:TypeId} {w w':World} {v:Value} {xs:List Value} (ho:w.ownsRow base e k v n xs) (hB:B ≤ base) (hne:¬ e ∈ TS) (hg:w.grownBy w' v.ownBlock):Kept TS B w w':=by
 have key:∀ b,b < w.heap.size → (∀ g cap cur,v = .slice (some ⟨g,0,none⟩) n cap → base ≤ g → w.heap[g]? = some (Obj.cells cur e (0,0)) → b ≠ g) → w'.heap[b]? = w.heap[b]?:=fun b hb hn => by
  refine hg.block b hb (fun e2 => ?_)
  rcases ho.2 with ⟨hv,_⟩ | ⟨g,cap,cur,hv,hbg,hh,_⟩
  ·rw [hv] at e2; cases e2
  ·have:=hn g cap cur hv hbg hh
   rw [hv] at e2
   simp only [Value.ownBlock,Option.some.injEq] at e2
   exact this e2
 refine ⟨hg.size,fun b h1 h2 => key b h2 (fun g cap cur _ hbg _ => by omega),fun b cur t ht hh => (key b (lt_of_block hh) (fun g cap c2 _ _ hh2 e2 => ?_)).trans hh⟩
 subst e2
 rw [hh] at hh2
 simp only [Option.some.injEq,Obj.cells.injEq] at hh2
 rw [hh2.2.1] at ht
 exact hne ht
theorem Kept.set {TS:List TypeId} {B g j:Nat} {e:TypeId} {w:World} {cur:Array Value} {u:Value} (hp:w.heap[g]? = some (Obj.cells cur e (0,0))) (hB:B ≤ g) (hne:¬ e ∈ TS):Kept TS B w (w.setCell ⟨g,j,none⟩ u):=by
 refine ⟨by simp [World.setCell],fun b h1 h2 => Below.heap_setCell _ _ _ _ (by simp; omega),fun b c2 t ht hh => ?_⟩
 have hn:b ≠ g:=fun e2 => by
  subst e2
  rw [hp] at hh
  simp only [Option.some.injEq,Obj.cells.injEq] at hh
  rw [← hh.2.1] at ht
  exact hne ht
 rw [Below.heap_setCell _ _ _ _ hn]; exact hh
def Tag (t:TypeId) (B:Nat) (w:World) (p:Option Addr) (n:Nat):Prop:=0 < n → ∃ b o,p = some ⟨b,o,none⟩ ∧ b < w.heap.size ∧ (b < B ∨ ∃ cur:Array Value,w.heap[b]? = some (Obj.cells cur t (0,0)))
theorem Tag.kept {t:TypeId} {TS:List TypeId} {B n:Nat} {w w':World} {p:Option Addr} (h:Tag t B w p n) (ht:t ∈ TS) (k:Kept TS B w w'):Tag t B w' p n:=fun hp => by
 obtain ⟨b,o,e,hb,h1 | ⟨cur,h1⟩⟩:=h hp
 ·exact ⟨b,o,e,Nat.lt_of_lt_of_le hb k.1,.inl h1⟩
 ·exact ⟨b,o,e,Nat.lt_of_lt_of_le hb k.1,.inr ⟨cur,k.2.2 b cur t ht h1⟩⟩
theorem Tag.block {t:TypeId} {TS:List TypeId} {B n:Nat} {w w':World} {p:Option Addr} (h:Tag t B w p n) (ht:t ∈ TS) (k:Kept TS B w w'):∀ b o,p = some ⟨b,o,none⟩ → 0 < n → w'.heap[b]? = w.heap[b]?:=fun b o e hp => by
 obtain ⟨b',o',e',hb,h1⟩:=h hp
 rw [e] at e'
 simp only [Option.some.injEq,Addr.mk.injEq] at e'
 obtain ⟨rfl,_,_⟩:=e'
 rcases h1 with h1 | ⟨cur,h1⟩
 ·exact k.2.1 b h1 hb
 ·rw [k.2.2 b cur t ht h1,h1]
theorem Tag.nil (t:TypeId) (B:Nat) (w:World) (p:Option Addr):Tag t B w p 0:=fun hp => by omega
theorem Ls.kept {α:Type} [Inhabited α] {f:α → Value} {t:TypeId} {TS:List TypeId} {B:Nat} {w w':World} {p:Option Addr} {cap:Nat} {xs:List α} (h:Ls f w p cap xs) (g:Tag t B w p xs.length) (ht:t ∈ TS) (k:Kept TS B w w'):Ls f w' p cap xs:=by
 have hb:=g.block ht k
 obtain ⟨h1,h2,h4,h5⟩:=h
 refine ⟨h1,h2,fun hp => ?_,h5⟩
 obtain ⟨b,o,e,g1,g2⟩:=h4 hp
 exact ⟨b,o,e,Nat.lt_of_lt_of_le g1 k.1,fun i hi => (World.cell?_of_block (w:=w) (hb b o e hp)).trans (g2 i hi)⟩
theorem Rc.kept {β:Type} {n:Nat} {cells:β → List Value} {z:β} {t:TypeId} {TS:List TypeId} {B:Nat} {w w':World} {p:Option Addr} {cap:Nat} {l:List β} (h:Rc n cells z w p cap l) (g:Tag t B w p l.length) (ht:t ∈ TS) (k:Kept TS B w w'):Rc n cells z w' p cap l :=
 h.block k.1 (g.block ht k)
def Mrow {β:Type} (t:TypeId) (cells:β → List Value) (w:World) (b:Nat) (xs:List β):Prop:=w.heap[b]? = some (Obj.cells (xs.flatMap cells).toArray t (0,0))
def setMany (w:World) (b:Nat):Nat → List Value → World
 | _,[] => w
 | off,u :: us => setMany (w.setCell ⟨b,off,none⟩ u) b (off + 1) us
def writeA (a:Array Value):Nat → List Value → Array Value
 | _,[] => a
 | off,u :: us => writeA (a.setIfInBounds off u) (off + 1) us
theorem writeA_list:∀ (us:List Value) (a:Array Value) (off:Nat),off + us.length ≤ a.size → (writeA a off us).toList = a.toList.take off ++ us ++ a.toList.drop (off + us.length)
 | [],a,off,h => by simp [writeA]
 | u :: us,a,off,h => by
   simp only [List.length_cons] at h
   have hs:(a.setIfInBounds off u).size = a.size:=by simp
   rw [writeA,writeA_list us (a.setIfInBounds off u) (off + 1) (by rw [hs]; omega)]
   have e:(a.setIfInBounds off u).toList = a.toList.set off u:=by simp
   rw [e]
   have hl:off < a.toList.length:=by simp; omega
   rw [List.set_eq_take_append_cons_drop,if_pos hl]
   have t1:(a.toList.take off).length = off:=by simp; omega
   have e1:(a.toList.take off ++ u :: a.toList.drop (off + 1)).take (off + 1) = a.toList.take off ++ [u]:=by
    rw [List.take_append,t1,List.take_of_length_le (by omega),show off + 1 - off = 1 by omega]; rfl
   have e2:(a.toList.take off ++ u :: a.toList.drop (off + 1)).drop (off + 1 + us.length) = a.toList.drop (off + (u :: us).length):=by
    rw [List.drop_append,t1,List.drop_of_length_le (by omega),show off + 1 + us.length - off = us.length + 1 by omega]
    simp only [List.drop_succ_cons,List.nil_append,List.drop_drop,List.length_cons]
    congr 1
    omega
   rw [e1,e2]
   simp
theorem setMany_block:∀ (us:List Value) (w:World) (b off:Nat) (a:Array Value) (t:TypeId),w.heap[b]? = some (Obj.cells a t (0,0)) → (setMany w b off us).heap[b]? = some (Obj.cells (writeA a off us) t (0,0))
 | [],w,b,off,a,t,h => h
 | u :: us,w,b,off,a,t,h => setMany_block us _ b (off + 1) _ t (Box.same h off u)
theorem setMany_below {B:Nat} {a:World}:∀ (us:List Value) (w:World) (b off:Nat),Below B a w → B ≤ b → Below B a (setMany w b off us)
 | [],w,b,off,h,_ => h
 | u :: us,w,b,off,h,hb => setMany_below us _ b (off + 1) (h.setCell (p:=⟨b,off,none⟩) hb u) hb
section
variable {β:Type} {k:Nat} {cells:β → List Value} {w w':World} {t:TypeId} {b:Nat} {xs:List β}
theorem flat_set (hk:Wd k cells):∀ (xs:List β) (i:Nat) (x:β),i < xs.length → (xs.set i x).flatMap cells = (xs.flatMap cells).take (i * k) ++ cells x ++ (xs.flatMap cells).drop (i * k + k)
 | [],i,x,h => by simp at h
 | y :: r,0,x,h => by
   have hy:=hk.2.1 y
   simp only [List.set_cons_zero,List.flatMap_cons,Nat.zero_mul,List.take_zero,List.nil_append,Nat.zero_add]
   rw [List.drop_append,hy,List.drop_of_length_le (by omega),Nat.sub_self,List.drop_zero,List.nil_append]
 | y :: r,i + 1,x,h => by
   have hy:=hk.2.1 y
   simp only [List.set_cons_succ,List.flatMap_cons]
   have m1:(i + 1) * k = i * k + k:=by rw [Nat.add_mul]; omega
   have e1:(cells y ++ r.flatMap cells).take ((i + 1) * k) = cells y ++ (r.flatMap cells).take (i * k):=by
    rw [List.take_append,hy,m1,show i * k + k - k = i * k by omega,List.take_of_length_le (show (cells y).length ≤ i * k + k by omega)]
   have e2:(cells y ++ r.flatMap cells).drop ((i + 1) * k + k) = (r.flatMap cells).drop (i * k + k):=by
    rw [List.drop_append,hy,m1,show i * k + k + k - k = i * k + k by omega,List.drop_of_length_le (show (cells y).length ≤ i * k + k + k by omega),List.nil_append]
   rw [flat_set hk r i x (by simpa using h),e1,e2]
   simp [List.append_assoc]
theorem Mrow.set (hk:Wd k cells) (h:Mrow t cells w b xs) (x:β) {i:Nat} (hi:i < xs.length):Mrow t cells (setMany w b (i * k) (cells x)) b (xs.set i x):=by
 have hs:i * k + k ≤ (xs.flatMap cells).length:=by
  rw [rc_len hk]
  have:=Nat.mul_le_mul_right k hi
  rw [Nat.succ_mul] at this
  exact this
 have h1:=setMany_block (cells x) w b (i * k) _ t h
 unfold Mrow
 rw [h1]
 congr 2
 apply Array.toList_inj.1
 rw [writeA_list _ _ _ (by simpa [hk.2.1 x] using hs),flat_set hk xs i x hi,hk.2.1 x]
theorem Mrow.at (hk:Wd k cells) {z:β} (h:Mrow t cells w b xs) {i j:Nat} {u:Value} (hi:i < xs.length) (hu:(cells (xs.getD i z))[j]? = some u):w.cell? ⟨b,i * k + j,none⟩ = some u:=by
 have hj:j < k:=by
  have:=(List.getElem?_eq_some_iff.1 hu).1
  rw [hk.2.1] at this; exact this
 have e:=rc_get (z:=z) hk xs i j hi hj
 unfold Mrow at h
 simp [World.cell?,h]
 rw [e]; exact hu
theorem Mrow.frozen (h:Mrow t cells w b xs) (j:Nat):w.frozen? ⟨b,j,none⟩ = false:=by
 unfold Mrow at h
 simp [World.frozen?,h]
theorem Mrow.below (h:Mrow t cells w b xs) (hb:Below w.heap.size w w'):Mrow t cells w' b xs:=(hb.block b (lt_of_block h)).trans h
theorem made_flat (hk:Wd k cells) (z:β) (n:Nat):(madeCells (cells z).toArray (n * k)).toList = (List.replicate n z).flatMap cells:=by
 have h0:=hk.1
 apply List.ext_getElem?
 intro j
 by_cases hj:j < n * k
 ·have hd:j / k < (List.replicate n z).length:=by rw [List.length_replicate]; exact Nat.div_lt_of_lt_mul (by rw [Nat.mul_comm]; exact hj)
  have hm:j % k < k:=Nat.mod_lt _ h0
  have e:=rc_get (z:=z) hk (List.replicate n z) (j / k) (j % k) hd hm
  rw [show j / k * k + j % k = j from by rw [Nat.mul_comm]; exact Nat.div_add_mod j k] at e
  rw [e]
  have e2:(List.replicate n z).getD (j / k) z = z:=by
   rw [List.getD_eq_getElem?_getD,List.getElem?_eq_getElem hd,List.getElem_replicate]; rfl
  rw [e2]
  have hl:j % k < (cells z).length:=by rw [hk.2.1]; exact hm
  simp [madeCells,hj,hk.2.1]
  rw [List.getElem?_eq_getElem hl]
  rfl
 ·have e1:((List.replicate n z).flatMap cells).length = n * k:=by rw [rc_len hk,List.length_replicate]
  rw [List.getElem?_eq_none (l:=(List.replicate n z).flatMap cells) (by rw [e1]; omega),List.getElem?_eq_none (by simp [madeCells]; omega)]
theorem Mrow.made (hk:Wd k cells) (z:β) {zv:Value} {base g n:Nat} (hz:zv.cells = (cells z).toArray) (ho:w.ownsRow base t k (.slice (some ⟨g,0,none⟩) n n) n (madeCells zv.cells (n * k)).toList):Mrow t cells w g (List.replicate n z):=by
 rcases ho.2 with ⟨hv,_⟩ | ⟨g',cap,cur,hv,hb,hh,hc,hm,hs,ht⟩
 ·cases hv
 ·simp only [Value.slice.injEq,Option.some.injEq,Addr.mk.injEq] at hv
  obtain ⟨⟨rfl,_,_⟩,_,rfl⟩:=hv
  unfold Mrow
  rw [hh]
  congr 2
  apply Array.toList_inj.1
  rw [List.take_of_length_le (by simp [hs])] at ht
  rw [ht,hz,made_flat hk]
theorem Mrow.own (hk:Wd k cells) {a:World} (h:Mrow t cells w b xs) (hb:a.heap.size ≤ b) (hl:xs.length ≤ maxLen) (ha:Below a.heap.size a w):OwnR t k cells a w (.slice (some ⟨b,0,none⟩) xs.length xs.length) xs :=
 ⟨⟨rc_len hk xs,.inr ⟨b,xs.length,_,rfl,hb,h,Nat.le_refl _,hl,by simp [rc_len hk],by simp; rw [List.take_of_length_le (by rw [rc_len hk]; omega)]⟩⟩,ha⟩
theorem set_mid {α:Type} (ys:List α) (m:Nat) (z x:α):(ys ++ List.replicate (m + 1) z).set ys.length x = (ys ++ [x]) ++ List.replicate m z:=by
 rw [List.replicate_succ,List.set_append_right _ _ (Nat.le_refl _),Nat.sub_self,List.set_cons_zero,List.append_assoc]; rfl
end
end Go.Proofs.Ytnmciappielkcaa
