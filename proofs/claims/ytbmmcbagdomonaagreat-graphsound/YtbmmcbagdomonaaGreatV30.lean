import Derived.Deep.Strs
import Derived.Test.YtbmmcbagdomonaaGreatV03
import Derived.Test.YtbmmcbagdomonaaGreatV04
import Derived.Test.YtbmmcbagdomonaaGreatV17
import Derived.Test.YtbmmcbagdomonaaGreatV29
set_option maxRecDepth 100000
set_option maxHeartbeats 40000000
namespace Go.Proofs.YtbmmcbagdomonaaGreat
open Go.RowKit
set_option linter.unusedVariables false
set_option linter.unusedSimpArgs false
theorem aggSe_run (w:World):(isAgg 49).run Tryz.prog w = .ok true w:=by kernel_rfl
theorem sizeSe_run (w:World):(sizeOf 49).run Tryz.prog w = .ok 36 w:=by kernel_rfl
def Ones (cs:Array Value):Prop:=∀ v ∈ cs.toList,v.oneCell' = true
theorem load_box8 {w:World} {g:Nat} {cs:Array Value} {t:TypeId} (h:Box w g cs t) (hs:cs.size = 36):(loadCells ⟨g,0,none⟩ 36).run Tryz.prog w = .ok cs w:=by
 have:=run_loadCells_list (P:=Tryz.prog) w ⟨g,0,none⟩ cs.toList (fun j v hj => by
  rw [Go.WideShapes.add_plain,Nat.zero_add,h.cell]
  simpa using hj)
 rw [Array.length_toList,hs] at this
 simpa using this
theorem loadVar_box8 {w:World} {g:Nat} {cs:Array Value} {t:TypeId} (h:Box w g cs t) (hs:cs.size = 36):(loadVar 49 ⟨g,0,none⟩).run Tryz.prog w = .ok (.agg cs) w:=by
 unfold loadVar
 simp only [Sem.run_bind,aggSe_run,Result.andThen_ok,if_true,sizeSe_run,load_box8 h hs,Sem.run_pure]
theorem wpList_load8 {w:World} {ops:Array Oper} {rest:List Oper} {o:Oper} {a:Act} {Q:Exit → Act → World → Prop} (hgd:o.guard = none) (p:Operand) (ho:o.op = .load 49 p)
  {g:Nat} {cs:Array Value} {t:TypeId} (hp:a.eval p = .pointer (some ⟨g,0,none⟩)) (hb:Box w g cs t) (hs:cs.size = 36)
  (h:wpList Tryz.prog ops Q rest (a.put o.dst (.agg cs)) w):wpList Tryz.prog ops Q (o :: rest) a w:=by
 refine wpList_plain hgd fun K hK => ?_
 unfold Oper.wp
 simp only [execOp,ho,Instr.loadAt,hp,Instr.sureAddr,Sem.run_bind,Sem.run_pure,Result.andThen_ok,loadVar_box8 hb hs]
 exact hK _ _ h
theorem setRow_stay8 {w:World} {g:Nat} {cs:Array Value}:Stay g w (w.setRow g cs) :=
 ⟨⟨rfl,rfl,rfl,by simp [World.setRow],fun k hk => setRow_other w g k cs (by omega)⟩,fun k h1 h2 => setRow_other w g k cs (by omega)⟩
theorem wpList_store8 {w:World} {ops:Array Oper} {rest:List Oper} {o:Oper} {a:Act} {Q:Exit → Act → World → Prop} (hgd:o.guard = none) (p x:Operand) (ho:o.op = .store 49 p x)
  {g:Nat} {cs old:Array Value} {t:TypeId} (hp:a.eval p = .pointer (some ⟨g,0,none⟩)) (hx:a.eval x = .agg cs) (hb:Box w g old t) (hs:cs.size = 36) (hso:old.size = 36) (h1:Ones cs)
  (h:∀ w',Box w' g cs t → Stay g w w' → w'.heap.size = w.heap.size → wpList Tryz.prog ops Q rest (a.put o.dst undef) w'):wpList Tryz.prog ops Q (o :: rest) a w:=by
 refine wpList_plain hgd fun K hK => ?_
 have hst:=run_storeCells_at Tryz.prog g 0 t cs.toList 0 old w hb (by simp [hs,hso]) h1
 simp only [Nat.zero_add,Nat.add_zero,List.take_zero,List.nil_append,Array.length_toList] at hst
 rw [List.drop_of_length_le (by simp [hs,hso]),List.append_nil,Array.toArray_toList] at hst
 unfold Oper.wp
 simp only [execOp,ho,Instr.storeAt,storeVar,hp,hx,Value.cells,Instr.sureAddr,Sem.run_bind,Sem.run_pure,Result.andThen_ok,sizeSe_run,hs,ne_eq,not_true_eq_false,if_false,hst]
 exact hK _ _ (h _ (setRow_heap w g old cs t (0,0) hb) setRow_stay8 (by simp [World.setRow]))
theorem Rc.tag {β:Type} {k:Nat} {cells:β → List Value} {z:β} {w:World} {p:Option Addr} {cap:Nat} {l:List β} (t:TypeId) (h:Rc k cells z w p cap l):Tag t w.heap.size w p l.length:=fun hp => by
 obtain ⟨b,o,e,hb,_⟩:=h.lies hp
 exact ⟨b,o,e,hb,.inl hb⟩
theorem Ints.tag {k:IntKind} {w:World} {p:Option Addr} {cap:Nat} {xs:List Int} (t:TypeId) (h:Ints k w p cap xs):Tag t w.heap.size w p xs.length:=fun hp => by
 obtain ⟨b,o,e,hb,_⟩:=h.lies hp
 exact ⟨b,o,e,hb,.inl hb⟩
theorem Ls.tag {α:Type} [Inhabited α] {f:α → Value} {w:World} {p:Option Addr} {cap:Nat} {xs:List α} (t:TypeId) (h:Ls f w p cap xs):Tag t w.heap.size w p xs.length:=fun hp => by
 obtain ⟨b,o,e,hb,_⟩:=h.lies hp
 exact ⟨b,o,e,hb,.inl hb⟩
theorem str_of (s:ByteArray):∃ x:Str,isB x ∧ s = strOfNums x:=by
 refine ⟨s.data.toList.map fun b => (b.toNat:Int),fun c hc => ?_,?_⟩
 ·obtain ⟨b,_,rfl⟩:=List.mem_map.1 hc
  have:=b.toNat_lt
  exact ⟨by omega,by omega⟩
 ·obtain ⟨⟨l⟩⟩:=s
  have e:((fun n:Int => UInt8.ofNat n.toNat) ∘ fun b:UInt8 => (b.toNat:Int)) = id:=by
   funext b
   simp
  unfold strOfNums
  congr 1
  simp only [List.map_map]
  rw [e]
  simp
theorem part_str {H:Type} {enc:TypeId × Value → H} {P:Program} {W:World} {n:Nat} {t:TypeId} {cs:List Value} {y:DataW H × List MemPlace} (ht:P.underlying t = some .string)
  (h:DataW.trod enc P W 0 (fun _ => true) true n t cs = some y):∃ s:Str,cs = [strV s] ∧ isB s:=by
 obtain ⟨s,h1,_,_⟩:=DataW.trod_string ht h
 obtain ⟨x,hx,rfl⟩:=str_of s
 exact ⟨x,h1,hx⟩
theorem part_strs {H:Type} {enc:TypeId × Value → H} {P:Program} {W:World} {n:Nat} {t e:TypeId} {cs:List Value} {y:DataW H × List MemPlace} (ht:P.underlying t = some (.slice e)) (he:P.underlying e = some .string) (hc:P.cellsOf e = 1)
  (h:DataW.trod enc P W 0 (fun _ => true) true n t cs = some y) :
  ∃ p cap,∃ xs:List Str,cs = [.slice p xs.length cap] ∧ (∀ s ∈ xs,isB s) ∧ Ls strV W p cap xs:=by
 rcases Go.Deep.open_strs ht he hc h with ⟨hcs,hx⟩ | ⟨a,len,cap,m,Sx,hcs,_,hle,hmax,hm,hx,hcell⟩
 ·subst hcs
  exact ⟨none,0,[],rfl,fun s hs => (by cases hs),Ls.nil _⟩
 ·subst hcs
  simp only [if_true] at hm
  subst hm
  obtain ⟨f,hf⟩:=Go.Deep.choose_lt (α:=Str) (p:=fun i x => isB x ∧ Sx i = strOfNums x) (fun i (hi:i < m) => str_of (Sx i))
  have hl:((List.range len).map f).length = len:=by simp
  have hget:∀ i,i < len → ((List.range len).map f).getD i default = f i:=fun i hi => by
   rw [List.getD_eq_getElem?_getD,List.getElem?_map,List.getElem?_range hi]; rfl
  refine ⟨some a,m,(List.range len).map f,by rw [hl],fun s hs => ?_,by omega,hmax,fun hp => ?_,fun h => by cases h⟩
  ·obtain ⟨i,hi,rfl⟩:=List.mem_map.1 hs
   exact (hf i (by have:=List.mem_range.1 hi; omega)).1
  ·rw [hl] at hp
   obtain ⟨b,off,spot⟩:=a
   have h00:=(hcell 0 (by omega)).1
   have hspot:spot = none:=by simpa [Addr.add] using World.cell?_spot h00
   subst hspot
   have key:∀ i,i < m → W.cell? ⟨b,off + i,none⟩ = some (.string (Sx i)):=fun i hi => by
    have:=(hcell i hi).1
    rw [Go.WideShapes.add_plain] at this
    exact this
   refine ⟨b,off,rfl,?_,fun i hi => ?_⟩
   ·have h0:=key 0 (by omega)
    rcases Nat.lt_or_ge b W.heap.size with g | g
    ·exact g
    ·exfalso
     have hn:W.heap[b]? = none:=by simp [g]
     simp [World.cell?,hn] at h0
   ·rw [hl] at hi
    rw [hget i hi,key i (by omega),(hf i (by omega)).2]
    rfl
theorem part_rows {H:Type} {enc:TypeId × Value → H} {P:Program} {W:World} {n:Nat} {t e:TypeId} {cs:List Value} {y:DataW H × List MemPlace} {β:Type} {k:Nat} {cells:β → List Value} {z:β} {In Sm:β → Prop} (hk:Wd k cells)
  (ht:P.underlying t = some (.slice e)) (hc:P.cellsOf e = k)
  (hel:∀ (n:Nat) (cs:List Value) (y:DataW H × List MemPlace),DataW.trod enc P W 0 (fun _ => true) true n e cs = some y → ∃ a,cs = cells a ∧ In a ∧ ((∀ m ∈ y.1.weights P e,m ≤ reachBytes) → Sm a))
  (h:DataW.trod enc P W 0 (fun _ => true) true n t cs = some y) :
  ∃ p cap,∃ L:List β,cs = [.slice p L.length cap] ∧ Rc k cells z W p cap L ∧ (∀ a ∈ L,In a) ∧ ((∀ m ∈ y.1.weights P t,m ≤ reachBytes) → (∀ a ∈ L,Sm a) ∧ cap * P.bytesOf e ≤ reachBytes):=by
 rcases Go.Deep.open_slice ht h with ⟨hcs,hx⟩ | ⟨a,len,cap,m,n,D,Pl,hcs,_,hle,hmax,hm,hx,hall⟩
 ·subst hcs
  exact ⟨none,0,[],rfl,Rc.nil _,fun a ha => (by cases ha),fun _ => ⟨fun a ha => (by cases ha),by simp⟩⟩
 ·subst hcs
  simp only [if_true] at hm
  subst hm
  rw [hc] at hall
  have hall2:∀ i,i < m → ∃ f:β,(∀ j u,(cells f)[j]? = some u → W.cell? ((a.add (i * k)).add j) = some u) ∧ In f ∧ ((∀ m ∈ (D i).weights P e,m ≤ reachBytes) → Sm f):=fun i hi => by
   obtain ⟨cs,h1,h2⟩:=hall i hi
   obtain ⟨f,rfl,g1,g2⟩:=hel _ _ _ h2
   refine ⟨f,fun j u hu => ?_,g1,g2⟩
   obtain ⟨_,_,hc⟩:=World.cells?_some h1
   have hj:j < k:=by
    have:=(List.getElem?_eq_some_iff.1 hu).1
    rw [hk.2.1] at this; exact this
   exact (hc j hj).trans hu
  haveI:Inhabited β:=⟨z⟩
  obtain ⟨f,hf2⟩:=Go.Deep.choose_lt hall2
  have hl:((List.range len).map f).length = len:=by simp
  have hget:∀ i,i < len → ((List.range len).map f).getD i z = f i:=fun i hi => by
   rw [List.getD_eq_getElem?_getD,List.getElem?_map,List.getElem?_range hi]; rfl
  refine ⟨some a,m,(List.range len).map f,by rw [hl],⟨by rw [hl]; exact hle,hmax,fun hp => ?_,fun h => by cases h⟩,fun x hx => ?_,fun hw => ⟨fun x hx2 => ?_,?_⟩⟩
  ·rw [hl] at hp
   obtain ⟨b,off,spot⟩:=a
   have u0:∃ u,(cells (f 0))[0]? = some u:=by
    have:=hk.2.1 (f 0)
    exact ⟨(cells (f 0))[0]'(by rw [this]; exact hk.1),List.getElem?_eq_getElem _⟩
   obtain ⟨u,hu0⟩:=u0
   have h00:=(hf2 0 (by omega)).1 0 u hu0
   have hspot:spot = none:=by simpa [Addr.add] using World.cell?_spot h00
   subst hspot
   have key:∀ i,i < m → ∀ j u,(cells (f i))[j]? = some u → W.cell? ⟨b,off + i * k + j,none⟩ = some u:=fun i hi j u hu => by
    have:=(hf2 i hi).1 j u hu
    rw [Go.WideShapes.add_plain,Go.WideShapes.add_plain] at this
    exact this
   refine ⟨b,off,rfl,?_,fun i hi j u hu => ?_⟩
   ·have h0:=key 0 (by omega) 0 u hu0
    rcases Nat.lt_or_ge b W.heap.size with g | g
    ·exact g
    ·exfalso
     have hn:W.heap[b]? = none:=by simp [g]
     simp [World.cell?,hn] at h0
   ·rw [hl] at hi
    rw [hget i hi] at hu
    exact key i (by omega) j u hu
  ·obtain ⟨i,hi,rfl⟩:=List.mem_map.1 hx
   exact (hf2 i (by have:=List.mem_range.1 hi; omega)).2.1
  ·obtain ⟨i,hi,rfl⟩:=List.mem_map.1 hx2
   refine (hf2 i (by have:=List.mem_range.1 hi; omega)).2.2 fun q hq => hw q ?_
   rw [hx]
   simp only
   rw [DataW.weights,ht]
   refine List.mem_cons_of_mem _ (List.mem_append_left _ ?_)
   exact weights_mem_all (List.mem_map.2 ⟨i,hi,rfl⟩) q hq
  ·rw [hx] at hw
   simp only at hw
   rw [DataW.weights,ht] at hw
   have h1:=hw _ List.mem_cons_self
   simp only [List.length_map,List.length_range] at h1
   rw [show len + (m - len) = m by omega] at h1
   exact h1
theorem ten_part {H:Type} {enc:TypeId × Value → H} {W:World} {n:Nat} {cs:List Value} {y:DataW H × List MemPlace} (h:DataW.trod enc Tryz.prog W 0 (fun _ => true) true n 47 cs = some y) :
  ∃ T A,cs = (tenCells T A).toList ∧ TenT W.heap.size W T A ∧ ((∀ m ∈ y.1.weights Tryz.prog 47,m ≤ reachBytes) → TenSm T):=by
 obtain ⟨xs,n,_,hx,hsz,hlen,hfs⟩:=DataW.trod_struct Tryz.underlying47 h
 rw [show Tryz.prog.cellsOf 47 = 5 by kernel_rfl] at hsz
 match cs,hsz with
 | [v0,v1,v2,v3,v4],_ =>
   match xs,hlen with
   | [y0,y1,y2,y3,y4],_ =>
     have h0:=hfs 0 _ rfl
     change DataW.trod enc Tryz.prog W 0 (fun _ => true) true n 3 (([v0,v1,v2,v3,v4].drop 0).take (Tryz.prog.cellsOf 3)) = some y0 at h0
     rw [show Tryz.prog.cellsOf 3 = 1 by kernel_rfl] at h0
     change DataW.trod enc Tryz.prog W 0 (fun _ => true) true n 3 [v0] = some y0 at h0
     have h1:=hfs 1 _ rfl
     change DataW.trod enc Tryz.prog W 0 (fun _ => true) true n 30 (([v0,v1,v2,v3,v4].drop 1).take (Tryz.prog.cellsOf 30)) = some y1 at h1
     rw [show Tryz.prog.cellsOf 30 = 1 by kernel_rfl] at h1
     change DataW.trod enc Tryz.prog W 0 (fun _ => true) true n 30 [v1] = some y1 at h1
     have h2:=hfs 2 _ rfl
     change DataW.trod enc Tryz.prog W 0 (fun _ => true) true n 44 (([v0,v1,v2,v3,v4].drop 2).take (Tryz.prog.cellsOf 44)) = some y2 at h2
     rw [show Tryz.prog.cellsOf 44 = 1 by kernel_rfl] at h2
     change DataW.trod enc Tryz.prog W 0 (fun _ => true) true n 44 [v2] = some y2 at h2
     have h3:=hfs 3 _ rfl
     change DataW.trod enc Tryz.prog W 0 (fun _ => true) true n 45 (([v0,v1,v2,v3,v4].drop 3).take (Tryz.prog.cellsOf 45)) = some y3 at h3
     rw [show Tryz.prog.cellsOf 45 = 1 by kernel_rfl] at h3
     change DataW.trod enc Tryz.prog W 0 (fun _ => true) true n 45 [v3] = some y3 at h3
     have h4:=hfs 4 _ rfl
     change DataW.trod enc Tryz.prog W 0 (fun _ => true) true n 39 (([v0,v1,v2,v3,v4].drop 4).take (Tryz.prog.cellsOf 39)) = some y4 at h4
     rw [show Tryz.prog.cellsOf 39 = 1 by kernel_rfl] at h4
     change DataW.trod enc Tryz.prog W 0 (fun _ => true) true n 39 [v4] = some y4 at h4
     obtain ⟨a0,e0,f0,w0⟩:=DataW.trod_int Tryz.underlying3 h0
     obtain ⟨p1,c1,x1,e1,i1,k1⟩:=part_ints Tryz.underlying30 Tryz.underlying3 (by kernel_rfl) h1
     obtain ⟨p2,c2,x2,e2,i2,k2⟩:=part_ints Tryz.underlying44 Tryz.underlying43 (by kernel_rfl) h2
     obtain ⟨p3,c3,x3,e3,i3,k3⟩:=part_ints Tryz.underlying45 Tryz.underlying2 (by kernel_rfl) h3
     obtain ⟨p4,c4,x4,e4,i4,k4⟩:=part_bools Tryz.underlying39 Tryz.underlying4 (by kernel_rfl) h4
     simp only [List.cons.injEq,and_true] at e0 e1 e2 e3 e4
     subst e0 e1 e2 e3 e4
     have hw2:(∀ m ∈ y.1.weights Tryz.prog 47,m ≤ reachBytes) → ∀ m ∈ DataW.weightsEach Tryz.prog [3,30,44,45,39] [y0.1,y1.1,y2.1,y3.1,y4.1],m ≤ reachBytes:=by
      intro hw m hm
      apply hw m
      rw [hx]
      simp only [DataW.weights,Tryz.underlying47]
      exact hm
     simp only [DataW.weightsEach,List.mem_append] at hw2
     refine ⟨(a0,x1,x2,x3,x4),⟨p1,c1,p2,c2,p3,c3,p4,c4⟩,rfl,⟨⟨w0,i1,i2,i3,i4⟩,i1.tag _,i2.tag _,i3.tag _,i4.tag _⟩,fun hw => ?_⟩
     rw [show Tryz.prog.bytesOf 3 = 8 by kernel_rfl] at k1
     rw [show Tryz.prog.bytesOf 43 = 4 by kernel_rfl] at k2
     rw [show Tryz.prog.bytesOf 2 = 8 by kernel_rfl] at k3
     rw [show Tryz.prog.bytesOf 4 = 1 by kernel_rfl] at k4
     have q1:=k1 (fun m hm => hw2 hw m (by simp [hm]))
     have q2:=k2 (fun m hm => hw2 hw m (by simp [hm]))
     have q3:=k3 (fun m hm => hw2 hw m (by simp [hm]))
     have q4:=k4 (fun m hm => hw2 hw m (by simp [hm]))
     have l1:=i1.1
     have l2:=i2.1
     have l3:=i3.1
     have l4:=i4.1
     unfold reachBytes at q1 q2 q3 q4
     exact ⟨by simp only; omega,by simp only; omega,by simp only; omega,by simp only; omega⟩
theorem va_part {H:Type} {enc:TypeId × Value → H} {W:World} {n:Nat} {cs:List Value} {y:DataW H × List MemPlace} (h:DataW.trod enc Tryz.prog W 0 (fun _ => true) true n 63 cs = some y) :
  ∃ a:VaA,cs = vaCells a ∧ VaIn W.heap.size W a ∧ ((∀ m ∈ y.1.weights Tryz.prog 63,m ≤ reachBytes) → True):=by
 obtain ⟨xs,n,_,hx,hsz,hlen,hfs⟩:=DataW.trod_struct Tryz.underlying63 h
 rw [show Tryz.prog.cellsOf 63 = 3 by kernel_rfl] at hsz
 match cs,hsz with
 | [v0,v1,v2],_ =>
   match xs,hlen with
   | [y0,y1,y2],_ =>
     have h0:=hfs 0 _ rfl
     change DataW.trod enc Tryz.prog W 0 (fun _ => true) true n 9 (([v0,v1,v2].drop 0).take (Tryz.prog.cellsOf 9)) = some y0 at h0
     rw [show Tryz.prog.cellsOf 9 = 1 by kernel_rfl] at h0
     change DataW.trod enc Tryz.prog W 0 (fun _ => true) true n 9 [v0] = some y0 at h0
     have h1:=hfs 1 _ rfl
     change DataW.trod enc Tryz.prog W 0 (fun _ => true) true n 3 (([v0,v1,v2].drop 1).take (Tryz.prog.cellsOf 3)) = some y1 at h1
     rw [show Tryz.prog.cellsOf 3 = 1 by kernel_rfl] at h1
     change DataW.trod enc Tryz.prog W 0 (fun _ => true) true n 3 [v1] = some y1 at h1
     have h2:=hfs 2 _ rfl
     change DataW.trod enc Tryz.prog W 0 (fun _ => true) true n 30 (([v0,v1,v2].drop 2).take (Tryz.prog.cellsOf 30)) = some y2 at h2
     rw [show Tryz.prog.cellsOf 30 = 1 by kernel_rfl] at h2
     change DataW.trod enc Tryz.prog W 0 (fun _ => true) true n 30 [v2] = some y2 at h2
     obtain ⟨a0,e0,w0⟩:=part_str Tryz.underlying9 h0
     obtain ⟨a1,e1,f1,w1⟩:=DataW.trod_int Tryz.underlying3 h1
     obtain ⟨p2,c2,x2,e2,i2,k2⟩:=part_ints Tryz.underlying30 Tryz.underlying3 (by kernel_rfl) h2
     simp only [List.cons.injEq,and_true] at e0 e1 e2
     subst e0 e1 e2
     have hw2:(∀ m ∈ y.1.weights Tryz.prog 63,m ≤ reachBytes) → ∀ m ∈ DataW.weightsEach Tryz.prog [9,3,30] [y0.1,y1.1,y2.1],m ≤ reachBytes:=by
      intro hw m hm
      apply hw m
      rw [hx]
      simp only [DataW.weights,Tryz.underlying63]
      exact hm
     simp only [DataW.weightsEach,List.mem_append] at hw2
     exact ⟨⟨a0,a1,x2,p2,c2⟩,rfl,⟨w0,w1,i2,i2.tag _⟩,fun _ => trivial⟩
theorem in_part {H:Type} {enc:TypeId × Value → H} {W:World} {n:Nat} {cs:List Value} {y:DataW H × List MemPlace} (h:DataW.trod enc Tryz.prog W 0 (fun _ => true) true n 61 cs = some y) :
  ∃ a:InA,cs = inCells a ∧ InIn W.heap.size W a ∧ ((∀ m ∈ y.1.weights Tryz.prog 61,m ≤ reachBytes) → TenSm a.T):=by
 obtain ⟨xs,n,_,hx,hsz,hlen,hfs⟩:=DataW.trod_struct Tryz.underlying61 h
 rw [show Tryz.prog.cellsOf 61 = 6 by kernel_rfl] at hsz
 match cs,hsz with
 | [v0,v1,v2,v3,v4,v5],_ =>
   match xs,hlen with
   | [y0,y1],_ =>
     have h0:=hfs 0 _ rfl
     change DataW.trod enc Tryz.prog W 0 (fun _ => true) true n 9 (([v0,v1,v2,v3,v4,v5].drop 0).take (Tryz.prog.cellsOf 9)) = some y0 at h0
     rw [show Tryz.prog.cellsOf 9 = 1 by kernel_rfl] at h0
     change DataW.trod enc Tryz.prog W 0 (fun _ => true) true n 9 [v0] = some y0 at h0
     have h1:=hfs 1 _ rfl
     change DataW.trod enc Tryz.prog W 0 (fun _ => true) true n 47 (([v0,v1,v2,v3,v4,v5].drop 1).take (Tryz.prog.cellsOf 47)) = some y1 at h1
     rw [show Tryz.prog.cellsOf 47 = 5 by kernel_rfl] at h1
     change DataW.trod enc Tryz.prog W 0 (fun _ => true) true n 47 [v1,v2,v3,v4,v5] = some y1 at h1
     obtain ⟨a0,e0,w0⟩:=part_str Tryz.underlying9 h0
     obtain ⟨T1,A1,e1,i1,k1⟩:=ten_part h1
     simp only [List.cons.injEq,and_true] at e0
     subst e0
     have hw2:(∀ m ∈ y.1.weights Tryz.prog 61,m ≤ reachBytes) → ∀ m ∈ DataW.weightsEach Tryz.prog [9,47] [y0.1,y1.1],m ≤ reachBytes:=by
      intro hw m hm
      apply hw m
      rw [hx]
      simp only [DataW.weights,Tryz.underlying61]
      exact hm
     simp only [DataW.weightsEach,List.mem_append] at hw2
     refine ⟨⟨a0,T1,A1⟩,?_,⟨w0,i1⟩,fun hw => k1 (fun m hm => hw2 hw m (by simp [hm]))⟩
     show _ = strV a0 :: (tenCells T1 A1).toList
     rw [← e1]
theorem at_part {H:Type} {enc:TypeId × Value → H} {W:World} {n:Nat} {cs:List Value} {y:DataW H × List MemPlace} (h:DataW.trod enc Tryz.prog W 0 (fun _ => true) true n 121 cs = some y) :
  ∃ a:AtA,cs = atCells a ∧ AtIn W.heap.size W a ∧ ((∀ m ∈ y.1.weights Tryz.prog 121,m ≤ reachBytes) → TenSm a.T):=by
 obtain ⟨xs,n,_,hx,hsz,hlen,hfs⟩:=DataW.trod_struct Tryz.underlying121 h
 rw [show Tryz.prog.cellsOf 121 = 12 by kernel_rfl] at hsz
 match cs,hsz with
 | [v0,v1,v2,v3,v4,v5,v6,v7,v8,v9,v10,v11],_ =>
   match xs,hlen with
   | [y0,y1,y2,y3,y4,y5,y6,y7],_ =>
     have h0:=hfs 0 _ rfl
     change DataW.trod enc Tryz.prog W 0 (fun _ => true) true n 9 (([v0,v1,v2,v3,v4,v5,v6,v7,v8,v9,v10,v11].drop 0).take (Tryz.prog.cellsOf 9)) = some y0 at h0
     rw [show Tryz.prog.cellsOf 9 = 1 by kernel_rfl] at h0
     change DataW.trod enc Tryz.prog W 0 (fun _ => true) true n 9 [v0] = some y0 at h0
     have h1:=hfs 1 _ rfl
     change DataW.trod enc Tryz.prog W 0 (fun _ => true) true n 3 (([v0,v1,v2,v3,v4,v5,v6,v7,v8,v9,v10,v11].drop 1).take (Tryz.prog.cellsOf 3)) = some y1 at h1
     rw [show Tryz.prog.cellsOf 3 = 1 by kernel_rfl] at h1
     change DataW.trod enc Tryz.prog W 0 (fun _ => true) true n 3 [v1] = some y1 at h1
     have h2:=hfs 2 _ rfl
     change DataW.trod enc Tryz.prog W 0 (fun _ => true) true n 43 (([v0,v1,v2,v3,v4,v5,v6,v7,v8,v9,v10,v11].drop 2).take (Tryz.prog.cellsOf 43)) = some y2 at h2
     rw [show Tryz.prog.cellsOf 43 = 1 by kernel_rfl] at h2
     change DataW.trod enc Tryz.prog W 0 (fun _ => true) true n 43 [v2] = some y2 at h2
     have h3:=hfs 3 _ rfl
     change DataW.trod enc Tryz.prog W 0 (fun _ => true) true n 2 (([v0,v1,v2,v3,v4,v5,v6,v7,v8,v9,v10,v11].drop 3).take (Tryz.prog.cellsOf 2)) = some y3 at h3
     rw [show Tryz.prog.cellsOf 2 = 1 by kernel_rfl] at h3
     change DataW.trod enc Tryz.prog W 0 (fun _ => true) true n 2 [v3] = some y3 at h3
     have h4:=hfs 4 _ rfl
     change DataW.trod enc Tryz.prog W 0 (fun _ => true) true n 9 (([v0,v1,v2,v3,v4,v5,v6,v7,v8,v9,v10,v11].drop 4).take (Tryz.prog.cellsOf 9)) = some y4 at h4
     rw [show Tryz.prog.cellsOf 9 = 1 by kernel_rfl] at h4
     change DataW.trod enc Tryz.prog W 0 (fun _ => true) true n 9 [v4] = some y4 at h4
     have h5:=hfs 5 _ rfl
     change DataW.trod enc Tryz.prog W 0 (fun _ => true) true n 47 (([v0,v1,v2,v3,v4,v5,v6,v7,v8,v9,v10,v11].drop 5).take (Tryz.prog.cellsOf 47)) = some y5 at h5
     rw [show Tryz.prog.cellsOf 47 = 5 by kernel_rfl] at h5
     change DataW.trod enc Tryz.prog W 0 (fun _ => true) true n 47 [v5,v6,v7,v8,v9] = some y5 at h5
     have h6:=hfs 6 _ rfl
     change DataW.trod enc Tryz.prog W 0 (fun _ => true) true n 44 (([v0,v1,v2,v3,v4,v5,v6,v7,v8,v9,v10,v11].drop 10).take (Tryz.prog.cellsOf 44)) = some y6 at h6
     rw [show Tryz.prog.cellsOf 44 = 1 by kernel_rfl] at h6
     change DataW.trod enc Tryz.prog W 0 (fun _ => true) true n 44 [v10] = some y6 at h6
     have h7:=hfs 7 _ rfl
     change DataW.trod enc Tryz.prog W 0 (fun _ => true) true n 45 (([v0,v1,v2,v3,v4,v5,v6,v7,v8,v9,v10,v11].drop 11).take (Tryz.prog.cellsOf 45)) = some y7 at h7
     rw [show Tryz.prog.cellsOf 45 = 1 by kernel_rfl] at h7
     change DataW.trod enc Tryz.prog W 0 (fun _ => true) true n 45 [v11] = some y7 at h7
     obtain ⟨a0,e0,w0⟩:=part_str Tryz.underlying9 h0
     obtain ⟨a1,e1,f1,w1⟩:=DataW.trod_int Tryz.underlying3 h1
     obtain ⟨a2,e2,f2,w2⟩:=DataW.trod_int Tryz.underlying43 h2
     obtain ⟨a3,e3,f3,w3⟩:=DataW.trod_int Tryz.underlying2 h3
     obtain ⟨a4,e4,w4⟩:=part_str Tryz.underlying9 h4
     obtain ⟨T5,A5,e5,i5,k5⟩:=ten_part h5
     obtain ⟨p6,c6,x6,e6,i6,k6⟩:=part_ints Tryz.underlying44 Tryz.underlying43 (by kernel_rfl) h6
     obtain ⟨p7,c7,x7,e7,i7,k7⟩:=part_ints Tryz.underlying45 Tryz.underlying2 (by kernel_rfl) h7
     simp only [List.cons.injEq,and_true] at e0 e1 e2 e3 e4 e6 e7
     subst e0 e1 e2 e3 e4 e6 e7
     have hw2:(∀ m ∈ y.1.weights Tryz.prog 121,m ≤ reachBytes) → ∀ m ∈ DataW.weightsEach Tryz.prog [9,3,43,2,9,47,44,45] [y0.1,y1.1,y2.1,y3.1,y4.1,y5.1,y6.1,y7.1],m ≤ reachBytes:=by
      intro hw m hm
      apply hw m
      rw [hx]
      simp only [DataW.weights,Tryz.underlying121]
      exact hm
     simp only [DataW.weightsEach,List.mem_append] at hw2
     refine ⟨⟨a0,a1,a2,a3,a4,T5,A5,x6,p6,c6,x7,p7,c7⟩,?_,⟨w0,w1,w2,w3,w4,i5,⟨i6,i6.tag _⟩,i7,i7.tag _⟩,fun hw => k5 (fun m hm => hw2 hw m (by simp [hm]))⟩
     show _ = [strV a0,.int .i64 a1,.int .u32 a2,.int .i64 a3,strV a4] ++ (tenCells T5 A5).toList ++ [.slice p6 x6.length c6,.slice p7 x7.length c7]
     rw [← e5]
     rfl
theorem no_part {H:Type} {enc:TypeId × Value → H} {W:World} {n:Nat} {cs:List Value} {y:DataW H × List MemPlace} (h:DataW.trod enc Tryz.prog W 0 (fun _ => true) true n 55 cs = some y) :
  ∃ a:NoA,cs = noCells a ∧ NoIn W.heap.size W a ∧ ((∀ m ∈ y.1.weights Tryz.prog 55,m ≤ reachBytes) → NoLt a):=by
 obtain ⟨xs,n,_,hx,hsz,hlen,hfs⟩:=DataW.trod_struct Tryz.underlying55 h
 rw [show Tryz.prog.cellsOf 55 = 5 by kernel_rfl] at hsz
 match cs,hsz with
 | [v0,v1,v2,v3,v4],_ =>
   match xs,hlen with
   | [y0,y1,y2,y3,y4],_ =>
     have h0:=hfs 0 _ rfl
     change DataW.trod enc Tryz.prog W 0 (fun _ => true) true n 9 (([v0,v1,v2,v3,v4].drop 0).take (Tryz.prog.cellsOf 9)) = some y0 at h0
     rw [show Tryz.prog.cellsOf 9 = 1 by kernel_rfl] at h0
     change DataW.trod enc Tryz.prog W 0 (fun _ => true) true n 9 [v0] = some y0 at h0
     have h1:=hfs 1 _ rfl
     change DataW.trod enc Tryz.prog W 0 (fun _ => true) true n 9 (([v0,v1,v2,v3,v4].drop 1).take (Tryz.prog.cellsOf 9)) = some y1 at h1
     rw [show Tryz.prog.cellsOf 9 = 1 by kernel_rfl] at h1
     change DataW.trod enc Tryz.prog W 0 (fun _ => true) true n 9 [v1] = some y1 at h1
     have h2:=hfs 2 _ rfl
     change DataW.trod enc Tryz.prog W 0 (fun _ => true) true n 52 (([v0,v1,v2,v3,v4].drop 2).take (Tryz.prog.cellsOf 52)) = some y2 at h2
     rw [show Tryz.prog.cellsOf 52 = 1 by kernel_rfl] at h2
     change DataW.trod enc Tryz.prog W 0 (fun _ => true) true n 52 [v2] = some y2 at h2
     have h3:=hfs 3 _ rfl
     change DataW.trod enc Tryz.prog W 0 (fun _ => true) true n 52 (([v0,v1,v2,v3,v4].drop 3).take (Tryz.prog.cellsOf 52)) = some y3 at h3
     rw [show Tryz.prog.cellsOf 52 = 1 by kernel_rfl] at h3
     change DataW.trod enc Tryz.prog W 0 (fun _ => true) true n 52 [v3] = some y3 at h3
     have h4:=hfs 4 _ rfl
     change DataW.trod enc Tryz.prog W 0 (fun _ => true) true n 53 (([v0,v1,v2,v3,v4].drop 4).take (Tryz.prog.cellsOf 53)) = some y4 at h4
     rw [show Tryz.prog.cellsOf 53 = 1 by kernel_rfl] at h4
     change DataW.trod enc Tryz.prog W 0 (fun _ => true) true n 53 [v4] = some y4 at h4
     obtain ⟨a0,e0,w0⟩:=part_str Tryz.underlying9 h0
     obtain ⟨a1,e1,w1⟩:=part_str Tryz.underlying9 h1
     obtain ⟨p2,c2,x2,e2,w2,i2⟩:=part_strs Tryz.underlying52 Tryz.underlying9 (by kernel_rfl) h2
     obtain ⟨p3,c3,x3,e3,w3,i3⟩:=part_strs Tryz.underlying52 Tryz.underlying9 (by kernel_rfl) h3
     obtain ⟨p4,c4,x4,e4,r4,i4,k4⟩:=part_rows (z:=noAtA) atWd Tryz.underlying53 (by kernel_rfl) (fun n cs y h => at_part h) h4
     simp only [List.cons.injEq,and_true] at e0 e1 e2 e3 e4
     subst e0 e1 e2 e3 e4
     have hw2:(∀ m ∈ y.1.weights Tryz.prog 55,m ≤ reachBytes) → ∀ m ∈ DataW.weightsEach Tryz.prog [9,9,52,52,53] [y0.1,y1.1,y2.1,y3.1,y4.1],m ≤ reachBytes:=by
      intro hw m hm
      apply hw m
      rw [hx]
      simp only [DataW.weights,Tryz.underlying55]
      exact hm
     simp only [DataW.weightsEach,List.mem_append] at hw2
     exact ⟨⟨a0,a1,x2,p2,c2,x3,p3,c3,x4,p4,c4⟩,rfl,⟨w0,w1,⟨w2,i2,i2.tag _⟩,⟨w3,i3,i3.tag _⟩,i4,r4,r4.tag _⟩,fun hw => (k4 (fun m hm => hw2 hw m (by simp [hm]))).1⟩
theorem mo_part {H:Type} {enc:TypeId × Value → H} {W:World} {n:Nat} {cs:List Value} {y:DataW H × List MemPlace} (h:DataW.trod enc Tryz.prog W 0 (fun _ => true) true n 26 cs = some y) :
  ∃ a:MoA,cs = (moCells a).toList ∧ MoIn W.heap.size W a ∧ ((∀ m ∈ y.1.weights Tryz.prog 26,m ≤ reachBytes) → MoLt a):=by
 obtain ⟨xs,n,_,hx,hsz,hlen,hfs⟩:=DataW.trod_struct Tryz.underlying26 h
 rw [show Tryz.prog.cellsOf 26 = 6 by kernel_rfl] at hsz
 match cs,hsz with
 | [v0,v1,v2,v3,v4,v5],_ =>
   match xs,hlen with
   | [y0,y1,y2,y3,y4,y5],_ =>
     have h0:=hfs 0 _ rfl
     change DataW.trod enc Tryz.prog W 0 (fun _ => true) true n 2 (([v0,v1,v2,v3,v4,v5].drop 0).take (Tryz.prog.cellsOf 2)) = some y0 at h0
     rw [show Tryz.prog.cellsOf 2 = 1 by kernel_rfl] at h0
     change DataW.trod enc Tryz.prog W 0 (fun _ => true) true n 2 [v0] = some y0 at h0
     have h1:=hfs 1 _ rfl
     change DataW.trod enc Tryz.prog W 0 (fun _ => true) true n 9 (([v0,v1,v2,v3,v4,v5].drop 1).take (Tryz.prog.cellsOf 9)) = some y1 at h1
     rw [show Tryz.prog.cellsOf 9 = 1 by kernel_rfl] at h1
     change DataW.trod enc Tryz.prog W 0 (fun _ => true) true n 9 [v1] = some y1 at h1
     have h2:=hfs 2 _ rfl
     change DataW.trod enc Tryz.prog W 0 (fun _ => true) true n 22 (([v0,v1,v2,v3,v4,v5].drop 2).take (Tryz.prog.cellsOf 22)) = some y2 at h2
     rw [show Tryz.prog.cellsOf 22 = 1 by kernel_rfl] at h2
     change DataW.trod enc Tryz.prog W 0 (fun _ => true) true n 22 [v2] = some y2 at h2
     have h3:=hfs 3 _ rfl
     change DataW.trod enc Tryz.prog W 0 (fun _ => true) true n 23 (([v0,v1,v2,v3,v4,v5].drop 3).take (Tryz.prog.cellsOf 23)) = some y3 at h3
     rw [show Tryz.prog.cellsOf 23 = 1 by kernel_rfl] at h3
     change DataW.trod enc Tryz.prog W 0 (fun _ => true) true n 23 [v3] = some y3 at h3
     have h4:=hfs 4 _ rfl
     change DataW.trod enc Tryz.prog W 0 (fun _ => true) true n 24 (([v0,v1,v2,v3,v4,v5].drop 4).take (Tryz.prog.cellsOf 24)) = some y4 at h4
     rw [show Tryz.prog.cellsOf 24 = 1 by kernel_rfl] at h4
     change DataW.trod enc Tryz.prog W 0 (fun _ => true) true n 24 [v4] = some y4 at h4
     have h5:=hfs 5 _ rfl
     change DataW.trod enc Tryz.prog W 0 (fun _ => true) true n 24 (([v0,v1,v2,v3,v4,v5].drop 5).take (Tryz.prog.cellsOf 24)) = some y5 at h5
     rw [show Tryz.prog.cellsOf 24 = 1 by kernel_rfl] at h5
     change DataW.trod enc Tryz.prog W 0 (fun _ => true) true n 24 [v5] = some y5 at h5
     obtain ⟨a0,e0,f0,w0⟩:=DataW.trod_int Tryz.underlying2 h0
     obtain ⟨a1,e1,w1⟩:=part_str Tryz.underlying9 h1
     obtain ⟨p2,c2,x2,e2,r2,i2,k2⟩:=part_rows (z:=noNoA) noWd Tryz.underlying22 (by kernel_rfl) (fun n cs y h => no_part h) h2
     obtain ⟨p3,c3,x3,e3,r3,i3,k3⟩:=part_rows (z:=noInA) inWd Tryz.underlying23 (by kernel_rfl) (fun n cs y h => in_part h) h3
     obtain ⟨p4,c4,x4,e4,r4,i4,k4⟩:=part_rows (z:=noVaA) vaWd Tryz.underlying24 (by kernel_rfl) (fun n cs y h => va_part h) h4
     obtain ⟨p5,c5,x5,e5,r5,i5,k5⟩:=part_rows (z:=noVaA) vaWd Tryz.underlying24 (by kernel_rfl) (fun n cs y h => va_part h) h5
     simp only [List.cons.injEq,and_true] at e0 e1 e2 e3 e4 e5
     subst e0 e1 e2 e3 e4 e5
     have hw2:(∀ m ∈ y.1.weights Tryz.prog 26,m ≤ reachBytes) → ∀ m ∈ DataW.weightsEach Tryz.prog [2,9,22,23,24,24] [y0.1,y1.1,y2.1,y3.1,y4.1,y5.1],m ≤ reachBytes:=by
      intro hw m hm
      apply hw m
      rw [hx]
      simp only [DataW.weights,Tryz.underlying26]
      exact hm
     simp only [DataW.weightsEach,List.mem_append] at hw2
     exact ⟨⟨a0,a1,x2,p2,c2,x3,p3,c3,x4,p4,c4,x5,p5,c5⟩,rfl,⟨w0,w1,⟨i2,r2,r2.tag _⟩,⟨i3,r3,r3.tag _⟩,⟨i4,r4,r4.tag _⟩,i5,r5,r5.tag _⟩,fun hw => ⟨(k2 (fun m hm => hw2 hw m (by simp [hm]))).1,(k3 (fun m hm => hw2 hw m (by simp [hm]))).1⟩⟩
theorem mo_open {H:Type} {enc:TypeId × Value → H} {W:World} {base:Nat} {v:Value} {d:DataW H} {ps:List MemPlace}
  (hv:Value.okWide Tryz.prog W .any base 26 v) (h:DataW.Trod enc Tryz.prog W 0 (fun _ => true) true 26 v d ps) :
  ∃ a:MoA,v = moV a ∧ MoIn W.heap.size W a ∧ ((∀ m ∈ d.weights Tryz.prog 26,m ≤ reachBytes) → MoLt a):=by
 obtain ⟨cs,rfl,hsz⟩:=Go.WideShapes.okWide_struct Tryz.underlying26 hv
 obtain ⟨fuel,hf⟩:=h
 obtain ⟨a,e,h1,h2⟩:=mo_part hf
 obtain ⟨l⟩:=cs
 simp only [Value.cells] at e
 refine ⟨a,?_,h1,h2⟩
 unfold moV
 rw [Array.toList_inj.1 e]
end Go.Proofs.YtbmmcbagdomonaaGreat
