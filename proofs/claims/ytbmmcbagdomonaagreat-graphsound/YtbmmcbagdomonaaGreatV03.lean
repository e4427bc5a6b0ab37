import Derived.SizedLaws
import Derived.Deep.Grids
import Derived.Test.YtbmmcbagdomonaaGreatV02
set_option maxRecDepth 100000
set_option maxHeartbeats 40000000
namespace Go.Proofs.YtbmmcbagdomonaaGreat
open Go.RowKit
set_option linter.unusedVariables false
def isB (r:List Int):Prop:=∀ c ∈ r,0 ≤ c ∧ c < 256
theorem take_succ (ds:List Int) (n:Nat) (h:n < ds.length):ds.take (n + 1) = ds.take n ++ [ds.getD n 0]:=by
 rw [List.take_add_one]; simp [List.getElem?_eq_getElem h]
abbrev Ten:=Int × List Int × List Int × List Int × List Bool
structure TA where
 pd:Option Addr
 cd:Nat
 pf:Option Addr
 cf:Nat
 pi:Option Addr
 ci:Nat
 pb:Option Addr
 cb:Nat
def tenCells (T:Ten) (A:TA):Array Value:=#[.int .i64 T.1,.slice A.pd T.2.1.length A.cd,.slice A.pf T.2.2.1.length A.cf,.slice A.pi T.2.2.2.1.length A.ci,.slice A.pb T.2.2.2.2.length A.cb]
def tenV (T:Ten) (A:TA):Value:=.agg (tenCells T A)
def TenIn (w:World) (T:Ten) (A:TA):Prop :=
 (Lit.int .i64 T.1).wf = true ∧ Ints .i64 w A.pd A.cd T.2.1 ∧ Ints .u32 w A.pf A.cf T.2.2.1 ∧ Ints .i64 w A.pi A.ci T.2.2.2.1 ∧ Ls Value.bool w A.pb A.cb T.2.2.2.2
theorem TenIn.below {w w':World} {T:Ten} {A:TA} (h:TenIn w T A) (hb:Below w.heap.size w w'):TenIn w' T A :=
 ⟨h.1,h.2.1.below hb,h.2.2.1.below hb,h.2.2.2.1.below hb,h.2.2.2.2.below hb⟩
def noTen:Ten:=(0,[],[],[],[])
def noTA:TA:=⟨none,0,none,0,none,0,none,0⟩
theorem nilInts (k:IntKind) (w:World):Ints k w none 0 []:=⟨by simp,by omega,by simp,by simp,fun _ => rfl⟩
def Apart (p q:Option Addr) (n m:Nat):Prop:=∀ b o c u,p = some ⟨b,o,none⟩ → q = some ⟨c,u,none⟩ → 0 < n → 0 < m → b ≠ c
def TenOwn (B:Nat) (w:World) (T:Ten) (A:TA):Prop :=
 TenIn w T A ∧ Fresh B w A.pd T.2.1.length ∧ Fresh B w A.pf T.2.2.1.length ∧ Fresh B w A.pi T.2.2.2.1.length ∧ Fresh B w A.pb T.2.2.2.2.length ∧
  Apart A.pd A.pf T.2.1.length T.2.2.1.length ∧ Apart A.pd A.pi T.2.1.length T.2.2.2.1.length ∧ Apart A.pd A.pb T.2.1.length T.2.2.2.2.length ∧
  Apart A.pf A.pi T.2.2.1.length T.2.2.2.1.length ∧ Apart A.pf A.pb T.2.2.1.length T.2.2.2.2.length ∧ Apart A.pi A.pb T.2.2.2.1.length T.2.2.2.2.length
theorem TenOwn.below {B:Nat} {w w':World} {T:Ten} {A:TA} (h:TenOwn B w T A) (hb:Below w.heap.size w w'):TenOwn B w' T A:=by
 obtain ⟨h0,h1,h2,h3,h4,h5⟩:=h
 exact ⟨h0.below hb,h1.below h0.2.1.ls rfl hb,h2.below h0.2.2.1.ls rfl hb,h3.below h0.2.2.2.1.ls rfl hb,h4.below h0.2.2.2.2 rfl hb,h5⟩
theorem TenOwn.mono {B C:Nat} {w:World} {T:Ten} {A:TA} (h:TenOwn B w T A) (hc:C ≤ B):TenOwn C w T A:=by
 obtain ⟨h0,h1,h2,h3,h4,h5⟩:=h
 exact ⟨h0,h1.mono hc,h2.mono hc,h3.mono hc,h4.mono hc,h5⟩
theorem fresh_apart {α:Type} [Inhabited α] {f:α → Value} {w wq:World} {p q:Option Addr} {c n m:Nat} {xs:List α} (h:Ls f w p c xs) (hn:n = xs.length) (hs:w.heap.size ≤ wq.heap.size) {wr:World} (hf:Fresh wq.heap.size wr q m):Apart p q n m:=by
 intro b o c u e1 e2 h1 h2 e
 obtain ⟨b',o',e',hb,_⟩:=h.lies (by omega)
 rw [e1] at e'
 simp only [Option.some.injEq,Addr.mk.injEq] at e'
 have:=(hf c u e2 h2).1
 omega
def widthV (k:Int):Int:=if k = 1 then 4 else if k = 7 then 8 else if k = 9 then 1 else 0
abbrev Str:=List Int
abbrev F3:=Bool × Bool × Bool
def f3 (a b:F3):F3:=(a.1 || b.1,a.2.1 || b.2.1,a.2.2 || b.2.2)
def no3:F3:=(false,false,false)
def bad3 (b:Bool):F3:=(b,false,false)
def big3 (b:Bool):F3:=(false,false,b)
theorem f3_no (a:F3):f3 a no3 = a:=by obtain ⟨a,b,c⟩:=a; simp [f3,no3]
theorem no_f3 (a:F3):f3 no3 a = a:=by obtain ⟨a,b,c⟩:=a; simp [f3,no3]
theorem f3_assoc (a b c:F3):f3 (f3 a b) c = f3 a (f3 b c):=by simp [f3,Bool.or_assoc]
def fAll (l:List F3):F3:=l.foldl f3 no3
theorem foldl_f3 (a:F3):∀ l:List F3,l.foldl f3 a = f3 a (fAll l)
 | [] => (f3_no a).symm
 | x :: r => by
   unfold fAll
   rw [List.foldl_cons,List.foldl_cons,foldl_f3 (f3 a x) r,foldl_f3 (f3 no3 x) r,no_f3,f3_assoc]
theorem fAll_cons (x:F3) (r:List F3):fAll (x :: r) = f3 x (fAll r):=by
 show (x :: r).foldl f3 no3 = _
 rw [List.foldl_cons,no_f3,foldl_f3]
abbrev TenD:=Ten
abbrev AttrD:=Str × Int × Int × Int × Str × TenD × List Int × List Int
abbrev NodeD:=Str × Str × List Str × List Str × List AttrD
abbrev ValD:=Str × Int × List Int
abbrev InitD:=Str × TenD
abbrev ModelD:=Int × Str × List NodeD × List InitD × List ValD × List ValD
def countF:Int → List Int → Int × Int
 | n,[] => (n,0)
 | n,x :: r => if 4096 < x then (0,8) else if 4096 < n * x then (0,8) else countF (n * x) r
def countV (d:List Int):Int × Int :=
 if d.any (fun x => decide (x < 0)) = true then (0,1) else if 8 < d.length then (0,8) else if d.any (fun x => x == 0) = true then (0,0) else countF 1 d
def knownB (t:Int):Bool:=t == 1 || t == 7 || t == 9
def emptyT (t:TenD):Bool:=t.1 == 0 && (t.2.1.length + t.2.2.1.length + t.2.2.2.1.length + t.2.2.2.2.length == 0)
def hasT (t:TenD):Nat × Nat :=
 let all:=t.2.2.1.length + t.2.2.2.1.length + t.2.2.2.2.length
 if t.1 = 1 then (t.2.2.1.length,all - t.2.2.1.length) else if t.1 = 7 then (t.2.2.2.1.length,all - t.2.2.2.1.length) else (t.2.2.2.2.length,all - t.2.2.2.2.length)
def dimsW (d:List Int):F3:=f3 (bad3 ((countV d).2 == 1)) (big3 ((countV d).2 == 8))
def tensW (t:TenD):F3 :=
 if knownB t.1 = false then bad3 true
 else f3 (dimsW t.2.1) (bad3 ((countV t.2.1).2 == 0 && decide (((hasT t).1:Int) ≠ (countV t.2.1).1 ∨ 0 < (hasT t).2)))
def longW (s:Str):F3:=big3 (decide (256 < s.length))
def attrW (x:AttrD):F3 :=
 let k:=x.2.1
 fAll [longW x.1,
  bad3 (k != 1 && x.2.2.1 != 0 || k != 2 && x.2.2.2.1 != 0 || k != 3 && decide (x.2.2.2.2.1 ≠ []) || k != 4 && !emptyT x.2.2.2.2.2.1 || k != 6 && decide (0 < x.2.2.2.2.2.2.1.length) || k != 7 && decide (0 < x.2.2.2.2.2.2.2.length)),
  big3 (decide (4096 < x.2.2.2.2.1.length ∨ 4096 < x.2.2.2.2.2.2.1.length ∨ 4096 < x.2.2.2.2.2.2.2.length)),
  (if k = 1 ∨ k = 2 ∨ k = 3 ∨ k = 6 ∨ k = 7 then no3 else if k = 4 then tensW x.2.2.2.2.2.1 else bad3 true)]
def nodeW (n:NodeD):F3 :=
 fAll ([longW n.1,longW n.2.1,bad3 (decide (n.1 = [])),big3 (decide (64 < n.2.2.1.length ∨ 64 < n.2.2.2.1.length ∨ 64 < n.2.2.2.2.length))] ++ n.2.2.1.map longW ++ n.2.2.2.1.map longW ++ n.2.2.2.2.map attrW)
def valW (v:ValD):F3:=fAll [longW v.1,bad3 (!knownB v.2.1),dimsW v.2.2]
def valuesW (l:List ValD):F3:=fAll (big3 (decide (64 < l.length)) :: l.map valW)
def modelW (m:ModelD):F3 :=
 fAll ([bad3 (m.1 != 17),longW m.2.1,big3 (decide (1024 < m.2.2.1.length ∨ 1024 < m.2.2.2.1.length))] ++ m.2.2.1.map nodeW ++ (m.2.2.2.1.map fun x => f3 (longW x.1) (tensW x.2)) ++ [valuesW m.2.2.2.2.1,valuesW m.2.2.2.2.2])
def checkM (m:ModelD):Int:=if (modelW m).1 = true then 1 else if (modelW m).2.2 = true then 8 else 0
theorem Tryz.infoU32:(Tryz.prog.info? 43).map (fun i => (i.zero,i.size,i.bytes)) = some (some (.int .u32 0),1,4):=by kernel_rfl
theorem Tryz.infoI64T:(Tryz.prog.info? 2).map (fun i => (i.zero,i.size,i.bytes)) = some (some (.int .i64 0),1,8):=by kernel_rfl
theorem Tryz.infoBT:(Tryz.prog.info? 4).map (fun i => (i.zero,i.size,i.bytes)) = some (some (.bool false),1,1):=by kernel_rfl
theorem alloc_size (w:World) (o:Obj):(w.alloc o).heap.size = w.heap.size + 1:=by simp
theorem part_ints {H:Type} {enc:TypeId × Value → H} {P:Program} {W:World} {n:Nat} {t e:TypeId} {k:IntKind} {cs:List Value} {y:DataW H × List MemPlace} (ht:P.underlying t = some (.slice e)) (he:P.underlying e = some (.int k)) (hc:P.cellsOf e = 1)
  (h:DataW.trod enc P W 0 (fun _ => true) true n t cs = some y) :
  ∃ p cap xs,cs = [.slice p xs.length cap] ∧ Ints k W p cap xs ∧ ((∀ m ∈ y.1.weights P t,m ≤ reachBytes) → cap * P.bytesOf e ≤ reachBytes):=by
 rcases Go.ChangeShapes.open_ints ht he hc h with ⟨hcs,hx⟩ | ⟨a,len,cap,zs,hcs,_,hle,hmax,hall,hx,hcell,hwf⟩
 ·subst hcs
  exact ⟨none,0,[],rfl,⟨Nat.le_refl _,by omega,fun x hx => (by cases hx),fun h => absurd h (by simp),fun _ => rfl⟩,fun _ => by simp⟩
 ·subst hcs
  simp only [if_true] at hall
  have hl:(zs.take len).length = len:=by rw [List.length_take]; omega
  refine ⟨some a,cap,zs.take len,by rw [hl],⟨by omega,hmax,fun x hx => hwf x (List.mem_of_mem_take hx),fun hp => ?_,fun h => by cases h⟩,fun hw => ?_⟩
  ·obtain ⟨b,off,rfl,hc2⟩:=ints_at hcell (by omega)
   have hb:b < W.heap.size:=by
    have:=hc2 0 (by omega)
    rcases Nat.lt_or_ge b W.heap.size with g | g
    ·exact g
    ·exfalso
     have hn:W.heap[b]? = none:=by simp [g]
     simp [World.cell?,hn] at this
   refine ⟨b,off,rfl,hb,fun i hi => ?_⟩
   rw [hl] at hi
   rw [hc2 i (by omega)]
   congr 2
   simp [List.getD_eq_getElem?_getD,List.getElem?_take_of_lt hi]
  ·have:=hw ((len + (cap - len)) * P.bytesOf e) (by
    rw [hx]
    simp only [DataW.weights,ht,Go.ChangeShapes.lits,List.length_map,List.mem_cons]
    left
    rw [hl,List.length_drop,hall])
   rw [show len + (cap - len) = cap by omega] at this
   exact this
theorem part_bools {H:Type} {enc:TypeId × Value → H} {P:Program} {W:World} {n:Nat} {t e:TypeId} {cs:List Value} {y:DataW H × List MemPlace} (ht:P.underlying t = some (.slice e)) (he:P.underlying e = some .bool) (hc:P.cellsOf e = 1)
  (h:DataW.trod enc P W 0 (fun _ => true) true n t cs = some y) :
  ∃ p cap xs,cs = [.slice p xs.length cap] ∧ Ls Value.bool W p cap xs ∧ ((∀ m ∈ y.1.weights P t,m ≤ reachBytes) → cap * P.bytesOf e ≤ reachBytes):=by
 rcases Go.Deep.open_bools ht he hc h with ⟨hcs,hx⟩ | ⟨a,len,cap,B,hcs,_,hle,hmax,hx,hcell⟩
 ·subst hcs
  exact ⟨none,0,[],rfl,Ls.nil _,fun _ => by simp⟩
 ·subst hcs
  have hl:((List.range len).map B).length = len:=by simp
  refine ⟨some a,cap,(List.range len).map B,by rw [hl],⟨by omega,hmax,fun hp => ?_,fun h => by cases h⟩,fun hw => ?_⟩
  ·obtain ⟨b,off,spot⟩:=a
   have hspot:spot = none:=by simpa [Addr.add] using World.cell?_spot (hcell 0 (by omega))
   subst hspot
   have hc2:∀ j,j < cap → W.cell? ⟨b,off + j,none⟩ = some (.bool (B j)):=fun j hj => by rw [← Go.WideShapes.add_plain]; exact hcell j hj
   have hb:b < W.heap.size:=by
    have:=hc2 0 (by omega)
    rcases Nat.lt_or_ge b W.heap.size with g | g
    ·exact g
    ·exfalso
     have hn:W.heap[b]? = none:=by simp [g]
     simp [World.cell?,hn] at this
   refine ⟨b,off,rfl,hb,fun i hi => ?_⟩
   rw [hl] at hi
   rw [hc2 i (by omega),List.getD_eq_getElem?_getD,List.getElem?_map]
   simp [hi]
  ·have:=hw ((len + (cap - len)) * P.bytesOf e) (by
    rw [hx]
    simp [Go.Deep.boolRow,DataW.weights,ht])
   rw [show len + (cap - len) = cap by omega] at this
   exact this
end Go.Proofs.YtbmmcbagdomonaaGreat
