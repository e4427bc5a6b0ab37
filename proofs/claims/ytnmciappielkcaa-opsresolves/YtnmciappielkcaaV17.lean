import Derived.SizedLaws
import Derived.Deep.Grids
import Derived.Deep.Strs
import Derived.Test.YtnmciappielkcaaV05
import Derived.Test.YtnmciappielkcaaV08
import Derived.Test.YtnmciappielkcaaV09
import Derived.Test.YtnmciappielkcaaV10
import Derived.Test.YtnmciappielkcaaV13
set_option maxRecDepth 100000
set_option maxHeartbeats 8000000
namespace Go.Proofs.Ytnmciappielkcaa
open Go.RowKit
set_option linter.unusedVariables false
theorem part_ints {H:Type} {enc:TypeId × Value → H} {P:Program} {W:World} {n:Nat} {t e:TypeId} {k:IntKind} {cs:List Value} {y:DataW H × List MemPlace} (ht:P.underlying t = some (.slice e)) (he:P.underlying e = some (.int k)) (hc:P.cellsOf e = 1)
  (h:DataW.trod enc P W 0 (fun _ => true) true n t cs = some y) :
  ∃ p cap xs,cs = [.slice p xs.length cap] ∧ Ints k W p cap xs ∧ ((∀ m ∈ y.1.weights P t,m ≤ reachBytes) → cap * P.bytesOf e ≤ reachBytes):=by
 rcases Go.ChangeShapes.open_ints ht he hc h with ⟨hcs,hx⟩ | ⟨a,len,cap,zs,hcs,_,hle,hmax,hall,hx,hcell,hwf⟩
 ·subst hcs
  exact ⟨none,0,[],rfl,⟨Nat.le_refl _,by omega,fun x hx => (by cases hx),fun h => absurd h (by simp),fun _ => rfl⟩,fun _ => by simp⟩
 ·subst hcs
  simp only [if_true] at hall
  have hl:(zs.take len).length = len:=by rw [List.length_take]; omega
  refine ⟨some a,cap,zs.take len,by rw [hl],⟨by omega,hmax,fun x hx => hwf x (List.mem_of_mem_take hx),fun hp => ?_,fun h => by cases h⟩,fun hw => ?_⟩
  ·obtain ⟨b,off,rfl,hc2⟩:=ints_at hcell (by omega)
   have hb:b < W.heap.size:=by
    have:=hc2 0 (by omega)
    rcases Nat.lt_or_ge b W.heap.size with g | g
    ·exact g
    ·exfalso
     have hn:W.heap[b]? = none:=by simp [g]
     simp [World.cell?,hn] at this
   refine ⟨b,off,rfl,hb,fun i hi => ?_⟩
   rw [hl] at hi
   rw [hc2 i (by omega)]
   congr 2
   simp [List.getD_eq_getElem?_getD,List.getElem?_take_of_lt hi]
  ·have:=hw ((len + (cap - len)) * P.bytesOf e) (by
    rw [hx]
    simp only [DataW.weights,ht,Go.ChangeShapes.lits,List.length_map,List.mem_cons]
    left
    rw [hl,List.length_drop,hall])
   rw [show len + (cap - len) = cap by omega] at this
   exact this
theorem part_bools {H:Type} {enc:TypeId × Value → H} {P:Program} {W:World} {n:Nat} {t e:TypeId} {cs:List Value} {y:DataW H × List MemPlace} (ht:P.underlying t = some (.slice e)) (he:P.underlying e = some .bool) (hc:P.cellsOf e = 1)
  (h:DataW.trod enc P W 0 (fun _ => true) true n t cs = some y) :
  ∃ p cap xs,cs = [.slice p xs.length cap] ∧ Ls Value.bool W p cap xs ∧ ((∀ m ∈ y.1.weights P t,m ≤ reachBytes) → cap * P.bytesOf e ≤ reachBytes):=by
 rcases Go.Deep.open_bools ht he hc h with ⟨hcs,hx⟩ | ⟨a,len,cap,B,hcs,_,hle,hmax,hx,hcell⟩
 ·subst hcs
  exact ⟨none,0,[],rfl,Ls.nil _,fun _ => by simp⟩
 ·subst hcs
  have hl:((List.range len).map B).length = len:=by simp
  refine ⟨some a,cap,(List.range len).map B,by rw [hl],⟨by omega,hmax,fun hp => ?_,fun h => by cases h⟩,fun hw => ?_⟩
  ·obtain ⟨b,off,spot⟩:=a
   have hspot:spot = none:=by simpa [Addr.add] using World.cell?_spot (hcell 0 (by omega))
   subst hspot
   have hc2:∀ j,j < cap → W.cell? ⟨b,off + j,none⟩ = some (.bool (B j)):=fun j hj => by rw [← Go.WideShapes.add_plain]; exact hcell j hj
   have hb:b < W.heap.size:=by
    have:=hc2 0 (by omega)
    rcases Nat.lt_or_ge b W.heap.size with g | g
    ·exact g
    ·exfalso
     have hn:W.heap[b]? = none:=by simp [g]
     simp [World.cell?,hn] at this
   refine ⟨b,off,rfl,hb,fun i hi => ?_⟩
   rw [hl] at hi
   rw [hc2 i (by omega),List.getD_eq_getElem?_getD,List.getElem?_map]
   simp [hi]
  ·have:=hw ((len + (cap - len)) * P.bytesOf e) (by
    rw [hx]
    simp [Go.Deep.boolRow,DataW.weights,ht])
   rw [show len + (cap - len) = cap by omega] at this
   exact this
theorem Rc.tag {β:Type} {k:Nat} {cells:β → List Value} {z:β} {w:World} {p:Option Addr} {cap:Nat} {l:List β} (t:TypeId) (h:Rc k cells z w p cap l):Tag t w.heap.size w p l.length:=fun hp => by
 obtain ⟨b,o,e,hb,_⟩:=h.lies hp
 exact ⟨b,o,e,hb,.inl hb⟩
theorem Ints.tag {k:IntKind} {w:World} {p:Option Addr} {cap:Nat} {xs:List Int} (t:TypeId) (h:Ints k w p cap xs):Tag t w.heap.size w p xs.length:=fun hp => by
 obtain ⟨b,o,e,hb,_⟩:=h.lies hp
 exact ⟨b,o,e,hb,.inl hb⟩
theorem Ls.tag {α:Type} [Inhabited α] {f:α → Value} {w:World} {p:Option Addr} {cap:Nat} {xs:List α} (t:TypeId) (h:Ls f w p cap xs):Tag t w.heap.size w p xs.length:=fun hp => by
 obtain ⟨b,o,e,hb,_⟩:=h.lies hp
 exact ⟨b,o,e,hb,.inl hb⟩
theorem str_of (s:ByteArray):∃ x:Str,isB x ∧ s = strOfNums x:=by
 refine ⟨s.data.toList.map fun b => (b.toNat:Int),fun c hc => ?_,?_⟩
 ·obtain ⟨b,_,rfl⟩:=List.mem_map.1 hc
  have:=b.toNat_lt
  exact ⟨by omega,by omega⟩
 ·obtain ⟨⟨l⟩⟩:=s
  have e:((fun n:Int => UInt8.ofNat n.toNat) ∘ fun b:UInt8 => (b.toNat:Int)) = id:=by
   funext b
   simp
  unfold strOfNums
  congr 1
  simp only [List.map_map]
  rw [e]
  simp
theorem part_str {H:Type} {enc:TypeId × Value → H} {P:Program} {W:World} {n:Nat} {t:TypeId} {cs:List Value} {y:DataW H × List MemPlace} (ht:P.underlying t = some .string)
  (h:DataW.trod enc P W 0 (fun _ => true) true n t cs = some y):∃ s:Str,cs = [strV s] ∧ isB s:=by
 obtain ⟨s,h1,_,_⟩:=DataW.trod_string ht h
 obtain ⟨x,hx,rfl⟩:=str_of s
 exact ⟨x,h1,hx⟩
theorem part_strs {H:Type} {enc:TypeId × Value → H} {P:Program} {W:World} {n:Nat} {t e:TypeId} {cs:List Value} {y:DataW H × List MemPlace} (ht:P.underlying t = some (.slice e)) (he:P.underlying e = some .string) (hc:P.cellsOf e = 1)
  (h:DataW.trod enc P W 0 (fun _ => true) true n t cs = some y) :
  ∃ p cap,∃ xs:List Str,cs = [.slice p xs.length cap] ∧ (∀ s ∈ xs,isB s) ∧ Ls strV W p cap xs:=by
 rcases Go.Deep.open_strs ht he hc h with ⟨hcs,hx⟩ | ⟨a,len,cap,m,Sx,hcs,_,hle,hmax,hm,hx,hcell⟩
 ·subst hcs
  exact ⟨none,0,[],rfl,fun s hs => (by cases hs),Ls.nil _⟩
 ·subst hcs
  simp only [if_true] at hm
  subst hm
  obtain ⟨f,hf⟩:=Go.Deep.choose_lt (α:=Str) (p:=fun i x => isB x ∧ Sx i = strOfNums x) (fun i (hi:i < m) => str_of (Sx i))
  have hl:((List.range len).map f).length = len:=by simp
  have hget:∀ i,i < len → ((List.range len).map f).getD i default = f i:=fun i hi => by
   rw [List.getD_eq_getElem?_getD,List.getElem?_map,List.getElem?_range hi]; rfl
  refine ⟨some a,m,(List.range len).map f,by rw [hl],fun s hs => ?_,by omega,hmax,fun hp => ?_,fun h => by cases h⟩
  ·obtain ⟨i,hi,rfl⟩:=List.mem_map.1 hs
   exact (hf i (by have:=List.mem_range.1 hi; omega)).1
  ·rw [hl] at hp
   obtain ⟨b,off,spot⟩:=a
   have h00:=(hcell 0 (by omega)).1
   have hspot:spot = none:=by simpa [Addr.add] using World.cell?_spot h00
   subst hspot
   have key:∀ i,i < m → W.cell? ⟨b,off + i,none⟩ = some (.string (Sx i)):=fun i hi => by
    have:=(hcell i hi).1
    rw [Go.WideShapes.add_plain] at this
    exact this
   refine ⟨b,off,rfl,?_,fun i hi => ?_⟩
   ·have h0:=key 0 (by omega)
    rcases Nat.lt_or_ge b W.heap.size with g | g
    ·exact g
    ·exfalso
     have hn:W.heap[b]? = none:=by simp [g]
     simp [World.cell?,hn] at h0
   ·rw [hl] at hi
    rw [hget i hi,key i (by omega),(hf i (by omega)).2]
    rfl
theorem part_rows {H:Type} {enc:TypeId × Value → H} {P:Program} {W:World} {n:Nat} {t e:TypeId} {cs:List Value} {y:DataW H × List MemPlace} {β:Type} {k:Nat} {cells:β → List Value} {z:β} {In Sm:β → Prop} (hk:Wd k cells)
  (ht:P.underlying t = some (.slice e)) (hc:P.cellsOf e = k)
  (hel:∀ (n:Nat) (cs:List Value) (y:DataW H × List MemPlace),DataW.trod enc P W 0 (fun _ => true) true n e cs = some y → ∃ a,cs = cells a ∧ In a ∧ ((∀ m ∈ y.1.weights P e,m ≤ reachBytes) → Sm a))
  (h:DataW.trod enc P W 0 (fun _ => true) true n t cs = some y) :
  ∃ p cap,∃ L:List β,cs = [.slice p L.length cap] ∧ Rc k cells z W p cap L ∧ (∀ a ∈ L,In a) ∧ ((∀ m ∈ y.1.weights P t,m ≤ reachBytes) → (∀ a ∈ L,Sm a) ∧ cap * P.bytesOf e ≤ reachBytes):=by
 rcases Go.Deep.open_slice ht h with ⟨hcs,hx⟩ | ⟨a,len,cap,m,n,D,Pl,hcs,_,hle,hmax,hm,hx,hall⟩
 ·subst hcs
  exact ⟨none,0,[],rfl,Rc.nil _,fun a ha => (by cases ha),fun _ => ⟨fun a ha => (by cases ha),by simp⟩⟩
 ·subst hcs
  simp only [if_true] at hm
  subst hm
  rw [hc] at hall
  have hall2:∀ i,i < m → ∃ f:β,(∀ j u,(cells f)[j]? = some u → W.cell? ((a.add (i * k)).add j) = some u) ∧ In f ∧ ((∀ m ∈ (D i).weights P e,m ≤ reachBytes) → Sm f):=fun i hi => by
   obtain ⟨cs,h1,h2⟩:=hall i hi
   obtain ⟨f,rfl,g1,g2⟩:=hel _ _ _ h2
   refine ⟨f,fun j u hu => ?_,g1,g2⟩
   obtain ⟨_,_,hc⟩:=World.cells?_some h1
   have hj:j < k:=by
    have:=(List.getElem?_eq_some_iff.1 hu).1
    rw [hk.2.1] at this; exact this
   exact (hc j hj).trans hu
  haveI:Inhabited β:=⟨z⟩
  obtain ⟨f,hf2⟩:=Go.Deep.choose_lt hall2
  have hl:((List.range len).map f).length = len:=by simp
  have hget:∀ i,i < len → ((List.range len).map f).getD i z = f i:=fun i hi => by
   rw [List.getD_eq_getElem?_getD,List.getElem?_map,List.getElem?_range hi]; rfl
  refine ⟨some a,m,(List.range len).map f,by rw [hl],⟨by rw [hl]; exact hle,hmax,fun hp => ?_,fun h => by cases h⟩,fun x hx => ?_,fun hw => ⟨fun x hx2 => ?_,?_⟩⟩
  ·rw [hl] at hp
   obtain ⟨b,off,spot⟩:=a
   have u0:∃ u,(cells (f 0))[0]? = some u:=by
    have:=hk.2.1 (f 0)
    exact ⟨(cells (f 0))[0]'(by rw [this]; exact hk.1),List.getElem?_eq_getElem _⟩
   obtain ⟨u,hu0⟩:=u0
   have h00:=(hf2 0 (by omega)).1 0 u hu0
   have hspot:spot = none:=by simpa [Addr.add] using World.cell?_spot h00
   subst hspot
   have key:∀ i,i < m → ∀ j u,(cells (f i))[j]? = some u → W.cell? ⟨b,off + i * k + j,none⟩ = some u:=fun i hi j u hu => by
    have:=(hf2 i hi).1 j u hu
    rw [Go.WideShapes.add_plain,Go.WideShapes.add_plain] at this
    exact this
   refine ⟨b,off,rfl,?_,fun i hi j u hu => ?_⟩
   ·have h0:=key 0 (by omega) 0 u hu0
    rcases Nat.lt_or_ge b W.heap.size with g | g
    ·exact g
    ·exfalso
     have hn:W.heap[b]? = none:=by simp [g]
     simp [World.cell?,hn] at h0
   ·rw [hl] at hi
    rw [hget i hi] at hu
    exact key i (by omega) j u hu
  ·obtain ⟨i,hi,rfl⟩:=List.mem_map.1 hx
   exact (hf2 i (by have:=List.mem_range.1 hi; omega)).2.1
  ·obtain ⟨i,hi,rfl⟩:=List.mem_map.1 hx2
   refine (hf2 i (by have:=List.mem_range.1 hi; omega)).2.2 fun q hq => hw q ?_
   rw [hx]
   simp only
   rw [DataW.weights,ht]
   refine List.mem_cons_of_mem _ (List.mem_append_left _ ?_)
   exact weights_mem_all (List.mem_map.2 ⟨i,hi,rfl⟩) q hq
  ·rw [hx] at hw
   simp only at hw
   rw [DataW.weights,ht] at hw
   have h1:=hw _ List.mem_cons_self
   simp only [List.length_map,List.length_range] at h1
   rw [show len + (m - len) = m by omega] at h1
   exact h1
end Go.Proofs.Ytnmciappielkcaa
