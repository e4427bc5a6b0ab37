import Derived.SizedLaws
import Derived.Deep.Grids
import Derived.Test.YtkpmfkkfcikfhaaV07
set_option maxRecDepth 100000
set_option maxHeartbeats 8000000
namespace Go.Proofs.Ytkpmfkkfcikfhaa
open Go.RowKit
set_option linter.unusedVariables false
theorem part_ints {H:Type} {enc:TypeId × Value → H} {P:Program} {W:World} {n:Nat} {t e:TypeId} {k:IntKind} {cs:List Value} {y:DataW H × List MemPlace} (ht:P.underlying t = some (.slice e)) (he:P.underlying e = some (.int k)) (hc:P.cellsOf e = 1)
  (h:DataW.trod enc P W 0 (fun _ => true) true n t cs = some y) :
  ∃ p cap xs,cs = [.slice p xs.length cap] ∧ Ints k W p cap xs ∧ ((∀ m ∈ y.1.weights P t,m ≤ reachBytes) → cap * P.bytesOf e ≤ reachBytes):=by
 rcases Go.ChangeShapes.open_ints ht he hc h with ⟨hcs,hx⟩ | ⟨a,len,cap,zs,hcs,_,hle,hmax,hall,hx,hcell,hwf⟩
 ·subst hcs
  exact ⟨none,0,[],rfl,⟨Nat.le_refl _,by omega,fun x hx => (by cases hx),fun h => absurd h (by simp),fun _ => rfl⟩,fun _ => by simp⟩
 ·subst hcs
  simp only [if_true] at hall
  have hl:(zs.take len).length = len:=by rw [List.length_take]; omega
  refine ⟨some a,cap,zs.take len,by rw [hl],⟨by omega,hmax,fun x hx => hwf x (List.mem_of_mem_take hx),fun hp => ?_,fun h => by cases h⟩,fun hw => ?_⟩
  ·obtain ⟨b,off,rfl,hc2⟩:=ints_at hcell (by omega)
   have hb:b < W.heap.size:=by
    have:=hc2 0 (by omega)
    rcases Nat.lt_or_ge b W.heap.size with g | g
    ·exact g
    ·exfalso
     have hn:W.heap[b]? = none:=by simp [g]
     simp [World.cell?,hn] at this
   refine ⟨b,off,rfl,hb,fun i hi => ?_⟩
   rw [hl] at hi
   rw [hc2 i (by omega)]
   congr 2
   simp [List.getD_eq_getElem?_getD,List.getElem?_take_of_lt hi]
  ·have:=hw ((len + (cap - len)) * P.bytesOf e) (by
    rw [hx]
    simp only [DataW.weights,ht,Go.ChangeShapes.lits,List.length_map,List.mem_cons]
    left
    rw [hl,List.length_drop,hall])
   rw [show len + (cap - len) = cap by omega] at this
   exact this
theorem part_bools {H:Type} {enc:TypeId × Value → H} {P:Program} {W:World} {n:Nat} {t e:TypeId} {cs:List Value} {y:DataW H × List MemPlace} (ht:P.underlying t = some (.slice e)) (he:P.underlying e = some .bool) (hc:P.cellsOf e = 1)
  (h:DataW.trod enc P W 0 (fun _ => true) true n t cs = some y) :
  ∃ p cap xs,cs = [.slice p xs.length cap] ∧ Ls Value.bool W p cap xs ∧ ((∀ m ∈ y.1.weights P t,m ≤ reachBytes) → cap * P.bytesOf e ≤ reachBytes):=by
 rcases Go.Deep.open_bools ht he hc h with ⟨hcs,hx⟩ | ⟨a,len,cap,B,hcs,_,hle,hmax,hx,hcell⟩
 ·subst hcs
  exact ⟨none,0,[],rfl,Ls.nil _,fun _ => by simp⟩
 ·subst hcs
  have hl:((List.range len).map B).length = len:=by simp
  refine ⟨some a,cap,(List.range len).map B,by rw [hl],⟨by omega,hmax,fun hp => ?_,fun h => by cases h⟩,fun hw => ?_⟩
  ·obtain ⟨b,off,spot⟩:=a
   have hspot:spot = none:=by simpa [Addr.add] using World.cell?_spot (hcell 0 (by omega))
   subst hspot
   have hc2:∀ j,j < cap → W.cell? ⟨b,off + j,none⟩ = some (.bool (B j)):=fun j hj => by rw [← Go.WideShapes.add_plain]; exact hcell j hj
   have hb:b < W.heap.size:=by
    have:=hc2 0 (by omega)
    rcases Nat.lt_or_ge b W.heap.size with g | g
    ·exact g
    ·exfalso
     have hn:W.heap[b]? = none:=by simp [g]
     simp [World.cell?,hn] at this
   refine ⟨b,off,rfl,hb,fun i hi => ?_⟩
   rw [hl] at hi
   rw [hc2 i (by omega),List.getD_eq_getElem?_getD,List.getElem?_map]
   simp [hi]
  ·have:=hw ((len + (cap - len)) * P.bytesOf e) (by
    rw [hx]
    simp [Go.Deep.boolRow,DataW.weights,ht])
   rw [show len + (cap - len) = cap by omega] at this
   exact this
end Go.Proofs.Ytkpmfkkfcikfhaa
