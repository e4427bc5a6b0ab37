import Derived.Deep.RegionHeld3
import Derived.Lib.SliceRun
import Derived.WalkMore
import Derived.Laws.BytesString
import Derived.Laws.BytesArg
import Derived.Lib.SlBytesConst
import Derived.Laws.OwnMore
import Derived.Test.YtbmmcbagdomonaaGreatV04
import Derived.Test.YtbmmcbagdomonaaGreatV06
import Derived.Test.YtbmmcbagdomonaaGreatV07
import Derived.Test.YtbmmcbagdomonaaGreatV17
set_option maxRecDepth 100000
set_option maxHeartbeats 40000000
namespace Go.Proofs.YtbmmcbagdomonaaGreat
open Go.RowKit
set_option linter.unusedVariables false
theorem bl_mono7 {g h:Nat} {w w':World} (k:Below h w w') (hg:g ≤ h):Below g w w':=⟨k.os,k.tape,k.output,k.size,fun b hb => k.block b (by omega)⟩
theorem bl_tr7 {g:Nat} {a b c:World} (h:Below g a b) (k:Below g b c):Below g a c:=⟨k.os.trans h.os,k.tape.trans h.tape,k.output.trans h.output,Nat.le_trans h.size k.size,fun i hi => (k.block i hi).trans (h.block i hi)⟩
def Stay (g:Nat) (w w':World):Prop:=Below g w w' ∧ ∀ k,g < k → k < w.heap.size → w'.heap[k]? = w.heap[k]?
theorem Stay.refl (g:Nat) (w:World):Stay g w w:=⟨Below.refl _ _,fun _ _ _ => rfl⟩
theorem Stay.trans {g:Nat} {a b c:World} (h:Stay g a b) (k:Stay g b c):Stay g a c:=⟨bl_tr7 h.1 k.1,fun i h1 h2 => (k.2 i h1 (Nat.lt_of_lt_of_le h2 h.1.size)).trans (h.2 i h1 h2)⟩
theorem Stay.below {g:Nat} {w w':World} (h:Below w.heap.size w w') (hg:g ≤ w.heap.size):Stay g w w':=⟨bl_mono7 h hg,fun k _ h2 => h.block k h2⟩
theorem Stay.block {g:Nat} {w w':World} (h:Stay g w w') {k:Nat} (hk:k ≠ g) (hl:k < w.heap.size):w'.heap[k]? = w.heap[k]?:=by
 rcases Nat.lt_or_ge k g with h1 | h1
 ·exact h.1.block k h1
 ·exact h.2 k (by omega) hl
theorem Stay.box {g k:Nat} {w w':World} {cs:Array Value} {t:TypeId} (s:Stay g w w') (h:Box w k cs t) (hk:k ≠ g):Box w' k cs t:=(s.block hk h.lt).trans h
def Mrow {β:Type} (t:TypeId) (cells:β → List Value) (w:World) (b:Nat) (xs:List β):Prop:=w.heap[b]? = some (Obj.cells (xs.flatMap cells).toArray t (0,0))
def setMany (w:World) (b:Nat):Nat → List Value → World
 | _,[] => w
 | off,u :: us => setMany (w.setCell ⟨b,off,none⟩ u) b (off + 1) us
def writeA (a:Array Value):Nat → List Value → Array Value
 | _,[] => a
 | off,u :: us => writeA (a.setIfInBounds off u) (off + 1) us
theorem writeA_list:∀ (us:List Value) (a:Array Value) (off:Nat),off + us.length ≤ a.size → (writeA a off us).toList = a.toList.take off ++ us ++ a.toList.drop (off + us.length)
 | [],a,off,h => by simp [writeA]
 | u :: us,a,off,h => by
   simp only [List.length_cons] at h
   have hs:(a.setIfInBounds off u).size = a.size:=by simp
   rw [writeA,writeA_list us (a.setIfInBounds off u) (off + 1) (by rw [hs]; omega)]
   have e:(a.setIfInBounds off u).toList = a.toList.set off u:=by simp
   rw [e]
   have hl:off < a.toList.length:=by simp; omega
   rw [List.set_eq_take_append_cons_drop,if_pos hl]
   have t1:(a.toList.take off).length = off:=by simp; omega
   have e1:(a.toList.take off ++ u :: a.toList.drop (off + 1)).take (off + 1) = a.toList.take off ++ [u]:=by
    rw [List.take_append,t1,List.take_of_length_le (by omega),show off + 1 - off = 1 by omega]; rfl
   have e2:(a.toList.take off ++ u :: a.toList.drop (off + 1)).drop (off + 1 + us.length) = a.toList.drop (off + (u :: us).length):=by
    rw [List.drop_append,t1,List.drop_of_length_le (by omega),show off + 1 + us.length - off = us.length + 1 by omega]
    simp only [List.drop_succ_cons,List.nil_append,List.drop_drop,List.length_cons]
    congr 1
    omega
   rw [e1,e2]
   simp
theorem setMany_block:∀ (us:List Value) (w:World) (b off:Nat) (a:Array Value) (t:TypeId),w.heap[b]? = some (Obj.cells a t (0,0)) → (setMany w b off us).heap[b]? = some (Obj.cells (writeA a off us) t (0,0))
 | [],w,b,off,a,t,h => h
 | u :: us,w,b,off,a,t,h => setMany_block us _ b (off + 1) _ t (Box.same h off u)
theorem setMany_below {B:Nat} {a:World}:∀ (us:List Value) (w:World) (b off:Nat),Below B a w → B ≤ b → Below B a (setMany w b off us)
 | [],w,b,off,h,_ => h
 | u :: us,w,b,off,h,hb => setMany_below us _ b (off + 1) (h.setCell (p:=⟨b,off,none⟩) hb u) hb
section
variable {β:Type} {k:Nat} {cells:β → List Value} {w w':World} {t:TypeId} {b:Nat} {xs:List β}
theorem flat_set (hk:Wd k cells):∀ (xs:List β) (i:Nat) (x:β),i < xs.length → (xs.set i x).flatMap cells = (xs.flatMap cells).take (i * k) ++ cells x ++ (xs.flatMap cells).drop (i * k + k)
 | [],i,x,h => by simp at h
 | y :: r,0,x,h => by
   have hy:=hk.2.1 y
   simp only [List.set_cons_zero,List.flatMap_cons,Nat.zero_mul,List.take_zero,List.nil_append,Nat.zero_add]
   rw [List.drop_append,hy,List.drop_of_length_le (by omega),Nat.sub_self,List.drop_zero,List.nil_append]
 | y :: r,i + 1,x,h => by
   have hy:=hk.2.1 y
   simp only [List.set_cons_succ,List.flatMap_cons]
   have m1:(i + 1) * k = i * k + k:=by rw [Nat.add_mul]; omega
   have e1:(cells y ++ r.flatMap cells).take ((i + 1) * k) = cells y ++ (r.flatMap cells).take (i * k):=by
    rw [List.take_append,hy,m1,show i * k + k - k = i * k by omega,List.take_of_length_le (show (cells y).length ≤ i * k + k by omega)]
   have e2:(cells y ++ r.flatMap cells).drop ((i + 1) * k + k) = (r.flatMap cells).drop (i * k + k):=by
    rw [List.drop_append,hy,m1,show i * k + k + k - k = i * k + k by omega,List.drop_of_length_le (show (cells y).length ≤ i * k + k + k by omega),List.nil_append]
   rw [flat_set hk r i x (by simpa using h),e1,e2]
   simp [List.append_assoc]
theorem Mrow.set (hk:Wd k cells) (h:Mrow t cells w b xs) (x:β) {i:Nat} (hi:i < xs.length):Mrow t cells (setMany w b (i * k) (cells x)) b (xs.set i x):=by
 have hs:i * k + k ≤ (xs.flatMap cells).length:=by
  rw [rc_len hk]
  have:=Nat.mul_le_mul_right k hi
  rw [Nat.succ_mul] at this
  exact this
 have h1:=setMany_block (cells x) w b (i * k) _ t h
 unfold Mrow
 rw [h1]
 congr 2
 apply Array.toList_inj.1
 rw [writeA_list _ _ _ (by simpa [hk.2.1 x] using hs),flat_set hk xs i x hi,hk.2.1 x]
theorem Mrow.at (hk:Wd k cells) {z:β} (h:Mrow t cells w b xs) {i j:Nat} {u:Value} (hi:i < xs.length) (hu:(cells (xs.getD i z))[j]? = some u):w.cell? ⟨b,i * k + j,none⟩ = some u:=by
 have hj:j < k:=by
  have:=(List.getElem?_eq_some_iff.1 hu).1
  rw [hk.2.1] at this; exact this
 have e:=rc_get (z:=z) hk xs i j hi hj
 unfold Mrow at h
 simp [World.cell?,h]
 rw [e]; exact hu
theorem Mrow.frozen (h:Mrow t cells w b xs) (j:Nat):w.frozen? ⟨b,j,none⟩ = false:=by
 unfold Mrow at h
 simp [World.frozen?,h]
theorem Mrow.below (h:Mrow t cells w b xs) (hb:Below w.heap.size w w'):Mrow t cells w' b xs:=(hb.block b (lt_of_block h)).trans h
theorem made_flat (hk:Wd k cells) (z:β) (n:Nat):(madeCells (cells z).toArray (n * k)).toList = (List.replicate n z).flatMap cells:=by
 have h0:=hk.1
 apply List.ext_getElem?
 intro j
 by_cases hj:j < n * k
 ·have hd:j / k < (List.replicate n z).length:=by rw [List.length_replicate]; exact Nat.div_lt_of_lt_mul (by rw [Nat.mul_comm]; exact hj)
  have hm:j % k < k:=Nat.mod_lt _ h0
  have e:=rc_get (z:=z) hk (List.replicate n z) (j / k) (j % k) hd hm
  rw [show j / k * k + j % k = j from by rw [Nat.mul_comm]; exact Nat.div_add_mod j k] at e
  rw [e]
  have e2:(List.replicate n z).getD (j / k) z = z:=by
   rw [List.getD_eq_getElem?_getD,List.getElem?_eq_getElem hd,List.getElem_replicate]; rfl
  rw [e2]
  have hl:j % k < (cells z).length:=by rw [hk.2.1]; exact hm
  simp [madeCells,hj,hk.2.1]
  rw [List.getElem?_eq_getElem hl]
  rfl
 ·have e1:((List.replicate n z).flatMap cells).length = n * k:=by rw [rc_len hk,List.length_replicate]
  rw [List.getElem?_eq_none (l:=(List.replicate n z).flatMap cells) (by rw [e1]; omega),List.getElem?_eq_none (by simp [madeCells]; omega)]
theorem Mrow.made (hk:Wd k cells) (z:β) {zv:Value} {base g n:Nat} (hz:zv.cells = (cells z).toArray) (ho:w.ownsRow base t k (.slice (some ⟨g,0,none⟩) n n) n (madeCells zv.cells (n * k)).toList):Mrow t cells w g (List.replicate n z):=by
 rcases ho.2 with ⟨hv,_⟩ | ⟨g',cap,cur,hv,hb,hh,hc,hm,hs,ht⟩
 ·cases hv
 ·simp only [Value.slice.injEq,Option.some.injEq,Addr.mk.injEq] at hv
  obtain ⟨⟨rfl,_,_⟩,_,rfl⟩:=hv
  unfold Mrow
  rw [hh]
  congr 2
  apply Array.toList_inj.1
  rw [List.take_of_length_le (by simp [hs])] at ht
  rw [ht,hz,made_flat hk]
theorem Mrow.own (hk:Wd k cells) {a:World} (h:Mrow t cells w b xs) (hb:a.heap.size ≤ b) (hl:xs.length ≤ maxLen) (ha:Below a.heap.size a w):OwnR t k cells a w (.slice (some ⟨b,0,none⟩) xs.length xs.length) xs :=
 ⟨⟨rc_len hk xs,.inr ⟨b,xs.length,_,rfl,hb,h,Nat.le_refl _,hl,by simp [rc_len hk],by simp; rw [List.take_of_length_le (by rw [rc_len hk]; omega)]⟩⟩,ha⟩
theorem set_mid {α:Type} (ys:List α) (m:Nat) (z x:α):(ys ++ List.replicate (m + 1) z).set ys.length x = (ys ++ [x]) ++ List.replicate m z:=by
 rw [List.replicate_succ,List.set_append_right _ _ (Nat.le_refl _),Nat.sub_self,List.set_cons_zero,List.append_assoc]; rfl
end
theorem flat_one {α:Type} (f:α → Value) (l:List α):l.flatMap (fun x => [f x]) = l.map f:=by
 induction l with
 | nil => rfl
 | cons a r ih => rw [List.flatMap_cons,List.map_cons,ih]; rfl
theorem map_take7 {α β:Type} (f:α → β) (z:α) (l:List α) (n:Nat) (h:n < l.length):(l.take (n + 1)).map f = (l.take n).map f ++ [f (l.getD n z)]:=by
 rw [List.take_add_one,List.map_append,List.getD_eq_getElem?_getD,List.getElem?_eq_getElem h]; rfl
def TenWr (T:Ten):Prop:=T.2.1.length ≤ 1000 ∧ T.2.2.1.length ≤ 10000000 ∧ T.2.2.2.1.length ≤ 10000000 ∧ T.2.2.2.2.length ≤ 10000000
def NoSm (a:NoA):Prop:=a.op ≠ [] ∧ a.op.length ≤ 100000 ∧ a.nm.length ≤ 100000 ∧ (∀ s ∈ a.ins,s.length ≤ 100000) ∧ (∀ s ∈ a.outs,s.length ≤ 100000) ∧ ∀ x ∈ a.at',AtSm x ∧ kindB x.kd = true
def MoSm (a:MoA):Prop:=a.nm.length ≤ 100000 ∧ (∀ x ∈ a.nodes,NoSm x) ∧ (∀ x ∈ a.inits,x.nm.length ≤ 100000 ∧ TenWr x.T) ∧ (∀ x ∈ a.inp,x.nm.length ≤ 100000) ∧ ∀ x ∈ a.out,x.nm.length ≤ 100000
theorem countF_le:∀ (l:List Int) (n:Int),0 ≤ n → n ≤ 4096 → (∀ x ∈ l,0 ≤ x) → 0 ≤ (countF n l).1 ∧ (countF n l).1 ≤ 4096
 | [],n,h0,h1,_ => ⟨h0,h1⟩
 | x :: r,n,h0,h1,hp => by
   rw [countF]
   split
   ·exact ⟨by decide,by decide⟩
   ·split
    ·exact ⟨by decide,by decide⟩
    ·exact countF_le r _ (Int.mul_nonneg h0 (hp x (by simp))) (by omega) (fun y hy => hp y (by simp [hy]))
theorem count_le (d:List Int):0 ≤ (countV d).1 ∧ (countV d).1 ≤ 4096:=by
 unfold countV
 split
 ·exact ⟨by decide,by decide⟩
 ·rename_i h
  split
  ·exact ⟨by decide,by decide⟩
  ·split
   ·exact ⟨by decide,by decide⟩
   ·exact countF_le d 1 (by decide) (by decide) (fun x hx => by
     have h1:(d.any fun x => decide (x < 0)) = false:=by simpa using h
     rw [List.any_eq_false] at h1
     have:=h1 x hx
     simp at this
     exact this)
theorem count_dims {d:List Int} (h:(countV d).2 = 0):d.length ≤ 8:=by
 unfold countV at h
 split at h
 ·cases h
 ·split at h
  ·cases h
  ·omega
theorem mayT_small {t:TenD} (h:mayT t = true) (hd:muchD t.2.1 = false):TenWr t:=by
 unfold mayT at h
 unfold muchD at hd
 simp only [Bool.and_eq_true,Bool.or_eq_true,bne_iff_ne,beq_iff_eq] at h
 have hd2:(countV t.2.1).2 ≠ 8:=by simpa using hd
 obtain ⟨_,h1,h2⟩:=h
 have h0:(countV t.2.1).2 = 0:=by
  rcases count_cases t.2.1 with g | g | g
  ·exact g
  ·exact absurd g h1
  ·exact absurd g hd2
 have hl:=count_dims h0
 obtain ⟨c0,c1⟩:=count_le t.2.1
 rcases h2 with g | ⟨_,g⟩
 ·exact absurd h0 g
 ·unfold elemsN at g
  exact ⟨by omega,by omega,by omega,by omega⟩
theorem muchN_le {s:Str} (h:muchN s = false):s.length ≤ 256:=by
 unfold muchN at h
 have:=of_decide_eq_false h
 omega
theorem mayA_small {a:AtA} (h:mayA a.d = true) (hm:muchA a.d = false):AtSm a ∧ kindB a.kd = true:=by
 obtain ⟨nm,kd,f,i,s,T,A,fl,qf,cf,is,qi,ci⟩:=a
 unfold muchA AtA.d at hm
 unfold mayA zeroR AtA.d at h
 simp only [Bool.or_eq_false_iff] at hm
 obtain ⟨m1,m2,m3,m4,m5⟩:=hm
 have l1:=muchN_le m1
 have l2:=of_decide_eq_false m2
 have l4:=of_decide_eq_false m4
 have l5:=of_decide_eq_false m5
 simp only [Bool.and_eq_true] at h
 obtain ⟨h1,_,_,_,h5,_,_⟩:=h
 have ht:TenWr T:=by
  by_cases h4:kd = 4
  ·rw [if_pos h4] at h1
   exact mayT_small h1 m3
  ·have:emptyT T = true:=by simpa [h4] using h5
   unfold emptyT at this
   simp only [Bool.and_eq_true,beq_iff_eq] at this
   exact ⟨by omega,by omega,by omega,by omega⟩
 refine ⟨⟨by simp only; omega,by simp only; omega,by simp only; omega,by simp only; omega,ht.1,ht.2.1,ht.2.2.1,ht.2.2.2⟩,?_⟩
 simp only
 by_cases h4:kd = 4
 ·subst h4; rfl
 ·rw [if_neg h4] at h1; exact h1
theorem any_no {α:Type} {P:α → Bool} {l:List α} (h:l.any P = false):∀ x ∈ l,P x = false:=fun x hx => by
 rw [List.any_eq_false] at h
 simpa using h x hx
theorem mayNo_small {a:NoA} (h:mayNo a.d = true) (hm:muchNo a.d = false):NoSm a:=by
 unfold mayNo NoA.d at h
 unfold muchNo NoA.d at hm
 simp only [Bool.and_eq_true,List.all_eq_true,List.mem_map,forall_exists_index,and_imp,forall_apply_eq_imp_iff₂,Bool.not_eq_true',decide_eq_false_iff_not] at h
 simp only [Bool.or_eq_false_iff] at hm
 obtain ⟨m1,m2,_,m4,_,m6,_,m8⟩:=hm
 refine ⟨h.1,by have:=muchN_le m1; omega,by have:=muchN_le m2; omega,fun s hs => by have:=muchN_le (any_no m4 s hs); omega,fun s hs => by have:=muchN_le (any_no m6 s hs); omega,fun x hx => mayA_small (h.2 x hx) (any_no m8 _ (List.mem_map.2 ⟨x,hx,rfl⟩))⟩
theorem check_small {a:MoA} (h:checkM a.d = 0):MoSm a:=by
 rw [← check_code] at h
 have h1:mayM a.d = true:=by
  cases hm:mayM a.d
  ·rw [hm] at h; cases h
  ·rfl
 rw [h1] at h
 have h2:muchM a.d = false:=by
  cases hm:muchM a.d
  ·rfl
  ·rw [hm] at h; cases h
 unfold mayM MoA.d at h1
 unfold muchM MoA.d at h2
 simp only [Bool.and_eq_true,List.all_eq_true,List.mem_map,forall_exists_index,and_imp,forall_apply_eq_imp_iff₂] at h1
 simp only [Bool.or_eq_false_iff] at h2
 obtain ⟨_,a1,a2,a3,a4⟩:=h1
 obtain ⟨b0,_,b1,_,b2,_,b3,_,b4⟩:=h2
 have key:∀ (x:VaA),muchV x.d = false → x.nm.length ≤ 100000:=fun x hx => by
  unfold muchV VaA.d at hx
  simp only [Bool.or_eq_false_iff] at hx
  have:=muchN_le hx.1; omega
 refine ⟨by have:=muchN_le b0; omega,fun x hx => mayNo_small (a1 x hx) (any_no b1 _ (List.mem_map.2 ⟨x,hx,rfl⟩)),fun x hx => ?_,fun x hx => key x (any_no b3 _ (List.mem_map.2 ⟨x,hx,rfl⟩)),fun x hx => key x (any_no b4 _ (List.mem_map.2 ⟨x,hx,rfl⟩))⟩
 have hm:=any_no b2 _ (List.mem_map.2 ⟨x,hx,rfl⟩)
 unfold muchI InA.d at hm
 simp only [Bool.or_eq_false_iff] at hm
 exact ⟨by have:=muchN_le hm.1; omega,mayT_small (a2 x hx) hm.2⟩
end Go.Proofs.YtbmmcbagdomonaaGreat
