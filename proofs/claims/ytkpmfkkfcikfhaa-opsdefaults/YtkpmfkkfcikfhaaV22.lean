import Derived.Laws.OwnMore
import Derived.Test.YtkpmfkkfcikfhaaV06
set_option maxRecDepth 100000
set_option maxHeartbeats 8000000
namespace Go.Proofs.Ytkpmfkkfcikfhaa
open Go.RowKit
set_option linter.unusedVariables false
def Mrow {β:Type} (t:TypeId) (cells:β → List Value) (w:World) (b:Nat) (xs:List β):Prop:=w.heap[b]? = some (Obj.cells (xs.flatMap cells).toArray t (0,0))
def setMany (w:World) (b:Nat):Nat → List Value → World
 | _,[] => w
 | off,u :: us => setMany (w.setCell ⟨b,off,none⟩ u) b (off + 1) us
def writeA (a:Array Value):Nat → List Value → Array Value
 | _,[] => a
 | off,u :: us => writeA (a.setIfInBounds off u) (off + 1) us
theorem writeA_list:∀ (us:List Value) (a:Array Value) (off:Nat),off + us.length ≤ a.size → (writeA a off us).toList = a.toList.take off ++ us ++ a.toList.drop (off + us.length)
 | [],a,off,h => by simp [writeA]
 | u :: us,a,off,h => by
   simp only [List.length_cons] at h
   have hs:(a.setIfInBounds off u).size = a.size:=by simp
   rw [writeA,writeA_list us (a.setIfInBounds off u) (off + 1) (by rw [hs]; omega)]
   have e:(a.setIfInBounds off u).toList = a.toList.set off u:=by simp
   rw [e]
   have hl:off < a.toList.length:=by simp; omega
   rw [List.set_eq_take_append_cons_drop,if_pos hl]
   have t1:(a.toList.take off).length = off:=by simp; omega
   have e1:(a.toList.take off ++ u :: a.toList.drop (off + 1)).take (off + 1) = a.toList.take off ++ [u]:=by
    rw [List.take_append,t1,List.take_of_length_le (by omega),show off + 1 - off = 1 by omega]; rfl
   have e2:(a.toList.take off ++ u :: a.toList.drop (off + 1)).drop (off + 1 + us.length) = a.toList.drop (off + (u :: us).length):=by
    rw [List.drop_append,t1,List.drop_of_length_le (by omega),show off + 1 + us.length - off = us.length + 1 by omega]
    simp only [List.drop_succ_cons,List.nil_append,List.drop_drop,List.length_cons]
    congr 1
    omega
   rw [e1,e2]
   simp
theorem setMany_block:∀ (us:List Value) (w:World) (b off:Nat) (a:Array Value) (t:TypeId),w.heap[b]? = some (Obj.cells a t (0,0)) → (setMany w b off us).heap[b]? = some (Obj.cells (writeA a off us) t (0,0))
 | [],w,b,off,a,t,h => h
 | u :: us,w,b,off,a,t,h => setMany_block us _ b (off + 1) _ t (Box.same h off u)
theorem setMany_below {B:Nat} {a:World}:∀ (us:List Value) (w:World) (b off:Nat),Below B a w → B ≤ b → Below B a (setMany w b off us)
 | [],w,b,off,h,_ => h
 | u :: us,w,b,off,h,hb => setMany_below us _ b (off + 1) (h.setCell (p:=⟨b,off,none⟩) hb u) hb
section
variable {β:Type} {k:Nat} {cells:β → List Value} {w w':World} {t:TypeId} {b:Nat} {xs:List β}
theorem flat_set (hk:Wd k cells):∀ (xs:List β) (i:Nat) (x:β),i < xs.length → (xs.set i x).flatMap cells = (xs.flatMap cells).take (i * k) ++ cells x ++ (xs.flatMap cells).drop (i * k + k)
 | [],i,x,h => by simp at h
 | y :: r,0,x,h => by
   have hy:=hk.2.1 y
   simp only [List.set_cons_zero,List.flatMap_cons,Nat.zero_mul,List.take_zero,List.nil_append,Nat.zero_add]
   rw [List.drop_append,hy,List.drop_of_length_le (by omega),Nat.sub_self,List.drop_zero,List.nil_append]
 | y :: r,i + 1,x,h => by
   have hy:=hk.2.1 y
   simp only [List.set_cons_succ,List.flatMap_cons]
   have m1:(i + 1) * k = i * k + k:=by rw [Nat.add_mul]; omega
   have e1:(cells y ++ r.flatMap cells).take ((i + 1) * k) = cells y ++ (r.flatMap cells).take (i * k):=by
    rw [List.take_append,hy,m1,show i * k + k - k = i * k by omega,List.take_of_length_le (show (cells y).length ≤ i * k + k by omega)]
   have e2:(cells y ++ r.flatMap cells).drop ((i + 1) * k + k) = (r.flatMap cells).drop (i * k + k):=by
    rw [List.drop_append,hy,m1,show i * k + k + k - k = i * k + k by omega,List.drop_of_length_le (show (cells y).length ≤ i * k + k + k by omega),List.nil_append]
   rw [flat_set hk r i x (by simpa using h),e1,e2]
   simp [List.append_assoc]
theorem Mrow.set (hk:Wd k cells) (h:Mrow t cells w b xs) (x:β) {i:Nat} (hi:i < xs.length):Mrow t cells (setMany w b (i * k) (cells x)) b (xs.set i x):=by
 have hs:i * k + k ≤ (xs.flatMap cells).length:=by
  rw [rc_len hk]
  have:=Nat.mul_le_mul_right k hi
  rw [Nat.succ_mul] at this
  exact this
 have h1:=setMany_block (cells x) w b (i * k) _ t h
 unfold Mrow
 rw [h1]
 congr 2
 apply Array.toList_inj.1
 rw [writeA_list _ _ _ (by simpa [hk.2.1 x] using hs),flat_set hk xs i x hi,hk.2.1 x]
theorem Mrow.at (hk:Wd k cells) {z:β} (h:Mrow t cells w b xs) {i j:Nat} {u:Value} (hi:i < xs.length) (hu:(cells (xs.getD i z))[j]? = some u):w.cell? ⟨b,i * k + j,none⟩ = some u:=by
 have hj:j < k:=by
  have:=(List.getElem?_eq_some_iff.1 hu).1
  rw [hk.2.1] at this; exact this
 have e:=rc_get (z:=z) hk xs i j hi hj
 unfold Mrow at h
 simp [World.cell?,h]
 rw [e]; exact hu
theorem Mrow.frozen (h:Mrow t cells w b xs) (j:Nat):w.frozen? ⟨b,j,none⟩ = false:=by
 unfold Mrow at h
 simp [World.frozen?,h]
theorem Mrow.below (h:Mrow t cells w b xs) (hb:Below w.heap.size w w'):Mrow t cells w' b xs:=(hb.block b (lt_of_block h)).trans h
theorem made_flat (hk:Wd k cells) (z:β) (n:Nat):(madeCells (cells z).toArray (n * k)).toList = (List.replicate n z).flatMap cells:=by
 have h0:=hk.1
 apply List.ext_getElem?
 intro j
 by_cases hj:j < n * k
 ·have hd:j / k < (List.replicate n z).length:=by rw [List.length_replicate]; exact Nat.div_lt_of_lt_mul (by rw [Nat.mul_comm]; exact hj)
  have hm:j % k < k:=Nat.mod_lt _ h0
  have e:=rc_get (z:=z) hk (List.replicate n z) (j / k) (j % k) hd hm
  rw [show j / k * k + j % k = j from by rw [Nat.mul_comm]; exact Nat.div_add_mod j k] at e
  rw [e]
  have e2:(List.replicate n z).getD (j / k) z = z:=by
   rw [List.getD_eq_getElem?_getD,List.getElem?_eq_getElem hd,List.getElem_replicate]; rfl
  rw [e2]
  have hl:j % k < (cells z).length:=by rw [hk.2.1]; exact hm
  simp [madeCells,hj,hk.2.1]
  rw [List.getElem?_eq_getElem hl]
  rfl
 ·have e1:((List.replicate n z).flatMap cells).length = n * k:=by rw [rc_len hk,List.length_replicate]
  rw [List.getElem?_eq_none (l:=(List.replicate n z).flatMap cells) (by rw [e1]; omega),List.getElem?_eq_none (by simp [madeCells]; omega)]
theorem Mrow.made (hk:Wd k cells) (z:β) {zv:Value} {base g n:Nat} (hz:zv.cells = (cells z).toArray) (ho:w.ownsRow base t k (.slice (some ⟨g,0,none⟩) n n) n (madeCells zv.cells (n * k)).toList):Mrow t cells w g (List.replicate n z):=by
 rcases ho.2 with ⟨hv,_⟩ | ⟨g',cap,cur,hv,hb,hh,hc,hm,hs,ht⟩
 ·cases hv
 ·simp only [Value.slice.injEq,Option.some.injEq,Addr.mk.injEq] at hv
  obtain ⟨⟨rfl,_,_⟩,_,rfl⟩:=hv
  unfold Mrow
  rw [hh]
  congr 2
  apply Array.toList_inj.1
  rw [List.take_of_length_le (by simp [hs])] at ht
  rw [ht,hz,made_flat hk]
theorem Mrow.own (hk:Wd k cells) {a:World} (h:Mrow t cells w b xs) (hb:a.heap.size ≤ b) (hl:xs.length ≤ maxLen) (ha:Below a.heap.size a w):OwnR t k cells a w (.slice (some ⟨b,0,none⟩) xs.length xs.length) xs :=
 ⟨⟨rc_len hk xs,.inr ⟨b,xs.length,_,rfl,hb,h,Nat.le_refl _,hl,by simp [rc_len hk],by simp; rw [List.take_of_length_le (by rw [rc_len hk]; omega)]⟩⟩,ha⟩
theorem set_mid {α:Type} (ys:List α) (m:Nat) (z x:α):(ys ++ List.replicate (m + 1) z).set ys.length x = (ys ++ [x]) ++ List.replicate m z:=by
 rw [List.replicate_succ,List.set_append_right _ _ (Nat.le_refl _),Nat.sub_self,List.set_cons_zero,List.append_assoc]; rfl
end
end Go.Proofs.Ytkpmfkkfcikfhaa
