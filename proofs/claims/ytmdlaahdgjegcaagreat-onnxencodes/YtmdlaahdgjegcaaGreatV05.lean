import Derived.Deep.DeepAppendWide
import Derived.Laws.BytesArg
import Derived.Laws.OwnMore
import Derived.Test.YtmdlaahdgjegcaaGreatV01
import Derived.Test.YtmdlaahdgjegcaaGreatV02
import Derived.Test.YtmdlaahdgjegcaaGreatV04
set_option maxRecDepth 100000
set_option maxHeartbeats 8000000
namespace Go.Proofs.YtmdlaahdgjegcaaGreat
open Go.RowKit
set_option linter.unusedVariables false
def Wd {β:Type} (k:Nat) (cells:β → List Value):Prop:=0 < k ∧ (∀ a,(cells a).length = k) ∧ ∀ a,∀ u ∈ cells a,u.oneCell' = true
def Rc {β:Type} (k:Nat) (cells:β → List Value) (z:β) (w:World) (p:Option Addr) (cap:Nat) (l:List β):Prop :=
 l.length ≤ cap ∧ cap ≤ 9223372036854775807 ∧ (0 < l.length → ∃ b o,p = some ⟨b,o,none⟩ ∧ b < w.heap.size ∧ ∀ i,i < l.length → ∀ j u,(cells (l.getD i z))[j]? = some u → w.cell? ⟨b,o + i * k + j,none⟩ = some u) ∧ (p = none → cap = 0)
section
variable {β:Type} {k:Nat} {cells:β → List Value} {z:β} {w w' wr:World} {p:Option Addr} {cap:Nat} {l:List β} {t:TypeId} {v:Value}
theorem Rc.len (h:Rc k cells z w p cap l):l.length ≤ 9223372036854775807:=Nat.le_trans h.1 h.2.1
theorem Rc.nil (w:World):Rc k cells z w none 0 []:=⟨by simp,by omega,by simp,fun _ => rfl⟩
theorem Rc.lies (h:Rc k cells z w p cap l) (hp:0 < l.length):∃ b o,p = some ⟨b,o,none⟩ ∧ b < w.heap.size ∧ ∀ i,i < l.length → ∀ j u,(cells (l.getD i z))[j]? = some u → w.cell? ⟨b,o + i * k + j,none⟩ = some u:=h.2.2.1 hp
theorem Rc.block (h:Rc k cells z w p cap l) (hs:w.heap.size ≤ w'.heap.size) (hk:∀ b o,p = some ⟨b,o,none⟩ → 0 < l.length → w'.heap[b]? = w.heap[b]?):Rc k cells z w' p cap l:=by
 obtain ⟨h1,h2,h4,h5⟩:=h
 refine ⟨h1,h2,fun hp => ?_,h5⟩
 obtain ⟨b,o,e,g1,g2⟩:=h4 hp
 exact ⟨b,o,e,Nat.lt_of_lt_of_le g1 hs,fun i hi j u hu => (World.cell?_of_block (w:=w) (hk b o e hp)).trans (g2 i hi j u hu)⟩
theorem Rc.below (h:Rc k cells z w p cap l) (hb:Below w.heap.size w w'):Rc k cells z w' p cap l:=by
 refine h.block hb.size (fun b o e hp => ?_)
 obtain ⟨b',o',e',g1,_⟩:=h.lies hp
 rw [e] at e'
 simp only [Option.some.injEq,Addr.mk.injEq] at e'
 rw [e'.1]
 exact hb.block b' g1
def OwnR {β:Type} (t:TypeId) (k:Nat) (cells:β → List Value) (w wr:World) (v:Value) (l:List β):Prop:=wr.ownsRow w.heap.size t k v l.length (l.flatMap cells) ∧ Below w.heap.size w wr
theorem rc_len (hk:Wd k cells) (l:List β):(l.flatMap cells).length = l.length * k:=by
 induction l with
 | nil => simp
 | cons a r ih => rw [List.flatMap_cons,List.length_append,ih,hk.2.1,List.length_cons,Nat.add_mul]; omega
theorem rc_get (hk:Wd k cells):∀ (l:List β) (i j:Nat),i < l.length → j < k → (l.flatMap cells)[i * k + j]? = (cells (l.getD i z))[j]?
 | [],i,j,h,_ => by simp at h
 | a :: r,0,j,h,hj => by
   simp only [List.flatMap_cons,Nat.zero_mul,Nat.zero_add]
   rw [List.getElem?_append_left (by rw [hk.2.1]; exact hj)]
   rfl
 | a :: r,i + 1,j,h,hj => by
   simp only [List.flatMap_cons]
   rw [List.getElem?_append_right (by rw [hk.2.1,Nat.add_mul]; omega),hk.2.1,show (i + 1) * k + j - k = i * k + j by rw [Nat.add_mul]; omega,rc_get hk r i j (by simpa using h) hj]
   rfl
theorem rc_new {cs:Array Value} {x:β} (hk:Wd k cells) (w:World) (t:TypeId) (hc:cs = (cells x).toArray):Rc k cells z (w.alloc (.cells cs t)) (some ⟨w.heap.size,0,none⟩) 1 [x]:=by
 refine ⟨Nat.le_refl _,by omega,fun _ => ⟨w.heap.size,0,rfl,by simp,fun i hi j u hu => ?_⟩,fun h => by cases h⟩
 have hi0:i = 0:=by simp at hi; omega
 subst hi0
 rw [Box.cell (Box.new w cs t),hc]
 have e:0 + 0 * k + j = j:=by omega
 rw [e]
 simpa using hu
end
def Kept (TS:List TypeId) (B:Nat) (w w':World):Prop :=
 w.heap.size ≤ w'.heap.size ∧ (∀ b,b < B → b < w.heap.size → w'.heap[b]? = w.heap[b]?) ∧ ∀ (b:Nat) (cur:Array Value) (t:TypeId),t ∈ TS → w.heap[b]? = some (Obj.cells cur t (0,0)) → w'.heap[b]? = some (Obj.cells cur t (0,0))
theorem Kept.below {TS:List TypeId} {B:Nat} {w w':World} (h:Below w.heap.size w w'):Kept TS B w w':=⟨h.size,fun b _ hb => h.block b hb,fun b cur t _ hh => (h.block b (lt_of_block hh)).trans hh⟩
theorem Kept.trans {TS:List TypeId} {B:Nat} {a b c:World} (h:Kept TS B a b) (k:Kept TS B b c):Kept TS B a c :=
 ⟨Nat.le_trans h.1 k.1,fun i h1 h2 => (k.2.1 i h1 (Nat.lt_of_lt_of_le h2 h.1)).trans (h.2.1 i h1 h2),fun i cur t ht hh => k.2.2 i cur t ht (h.2.2 i cur t ht hh)⟩
theorem Kept.set {TS:List TypeId} {B g j:Nat} {e:TypeId} {w:World} {cur:Array Value} {u:Value} (hp:w.heap[g]? = some (Obj.cells cur e (0,0))) (hB:B ≤ g) (hne:¬ e ∈ TS):Kept TS B w (w.setCell ⟨g,j,none⟩ u):=by
 refine ⟨by simp [World.setCell],fun b h1 h2 => Below.heap_setCell _ _ _ _ (by simp; omega),fun b c2 t ht hh => ?_⟩
 have hn:b ≠ g:=fun e2 => by
  subst e2
  rw [hp] at hh
  simp only [Option.some.injEq,Obj.cells.injEq] at hh
  rw [← hh.2.1] at ht
  exact hne ht
 rw [Below.heap_setCell _ _ _ _ hn]; exact hh
def Tag (t:TypeId) (B:Nat) (w:World) (p:Option Addr) (n:Nat):Prop:=0 < n → ∃ b o,p = some ⟨b,o,none⟩ ∧ b < w.heap.size ∧ (b < B ∨ ∃ cur:Array Value,w.heap[b]? = some (Obj.cells cur t (0,0)))
theorem Tag.kept {t:TypeId} {TS:List TypeId} {B n:Nat} {w w':World} {p:Option Addr} (h:Tag t B w p n) (ht:t ∈ TS) (k:Kept TS B w w'):Tag t B w' p n:=fun hp => by
 obtain ⟨b,o,e,hb,h1 | ⟨cur,h1⟩⟩:=h hp
 ·exact ⟨b,o,e,Nat.lt_of_lt_of_le hb k.1,.inl h1⟩
 ·exact ⟨b,o,e,Nat.lt_of_lt_of_le hb k.1,.inr ⟨cur,k.2.2 b cur t ht h1⟩⟩
theorem Tag.block {t:TypeId} {TS:List TypeId} {B n:Nat} {w w':World} {p:Option Addr} (h:Tag t B w p n) (ht:t ∈ TS) (k:Kept TS B w w'):∀ b o,p = some ⟨b,o,none⟩ → 0 < n → w'.heap[b]? = w.heap[b]?:=fun b o e hp => by
 obtain ⟨b',o',e',hb,h1⟩:=h hp
 rw [e] at e'
 simp only [Option.some.injEq,Addr.mk.injEq] at e'
 obtain ⟨rfl,_,_⟩:=e'
 rcases h1 with h1 | ⟨cur,h1⟩
 ·exact k.2.1 b h1 hb
 ·rw [k.2.2 b cur t ht h1,h1]
theorem Tag.nil (t:TypeId) (B:Nat) (w:World) (p:Option Addr):Tag t B w p 0:=fun hp => by omega
theorem own_tag {t:TypeId} {B base k n:Nat} {w:World} {p:Option Addr} {m c:Nat} {xs:List Value} (h:w.ownsRow base t k (.slice p m c) n xs):Tag t B w p n:=fun hp => by
 rcases h.2 with ⟨_,hn⟩ | ⟨g,cap,cur,hv,hb,hh,_⟩
 ·omega
 ·simp only [Value.slice.injEq] at hv
  exact ⟨g,0,hv.1,lt_of_block hh,.inr ⟨cur,hh⟩⟩
theorem Ls.kept {α:Type} [Inhabited α] {f:α → Value} {t:TypeId} {TS:List TypeId} {B:Nat} {w w':World} {p:Option Addr} {cap:Nat} {xs:List α} (h:Ls f w p cap xs) (g:Tag t B w p xs.length) (ht:t ∈ TS) (k:Kept TS B w w'):Ls f w' p cap xs:=by
 have hb:=g.block ht k
 obtain ⟨h1,h2,h4,h5⟩:=h
 refine ⟨h1,h2,fun hp => ?_,h5⟩
 obtain ⟨b,o,e,g1,g2⟩:=h4 hp
 exact ⟨b,o,e,Nat.lt_of_lt_of_le g1 k.1,fun i hi => (World.cell?_of_block (w:=w) (hb b o e hp)).trans (g2 i hi)⟩
theorem Rc.kept {β:Type} {n:Nat} {cells:β → List Value} {z:β} {t:TypeId} {TS:List TypeId} {B:Nat} {w w':World} {p:Option Addr} {cap:Nat} {l:List β} (h:Rc n cells z w p cap l) (g:Tag t B w p l.length) (ht:t ∈ TS) (k:Kept TS B w w'):Rc n cells z w' p cap l :=
 h.block k.1 (g.block ht k)
abbrev Str:=List Int
abbrev F3:=Bool × Bool × Bool
def f3 (a b:F3):F3:=(a.1 || b.1,a.2.1 || b.2.1,a.2.2 || b.2.2)
def no3:F3:=(false,false,false)
def bad3 (b:Bool):F3:=(b,false,false)
def odd3 (b:Bool):F3:=(false,b,false)
def big3 (b:Bool):F3:=(false,false,b)
theorem f3_no (a:F3):f3 a no3 = a:=by obtain ⟨a,b,c⟩:=a; simp [f3,no3]
theorem no_f3 (a:F3):f3 no3 a = a:=by obtain ⟨a,b,c⟩:=a; simp [f3,no3]
theorem f3_assoc (a b c:F3):f3 (f3 a b) c = f3 a (f3 b c):=by simp [f3,Bool.or_assoc]
theorem bad3_no:bad3 false = no3:=rfl
theorem big3_no:big3 false = no3:=rfl
def fAll (l:List F3):F3:=l.foldl f3 no3
theorem foldl_f3 (a:F3):∀ l:List F3,l.foldl f3 a = f3 a (fAll l)
 | [] => (f3_no a).symm
 | x :: r => by
   unfold fAll
   rw [List.foldl_cons,List.foldl_cons,foldl_f3 (f3 a x) r,foldl_f3 (f3 no3 x) r,no_f3,f3_assoc]
theorem fAll_cons (x:F3) (r:List F3):fAll (x :: r) = f3 x (fAll r):=by
 show (x :: r).foldl f3 no3 = _
 rw [List.foldl_cons,no_f3,foldl_f3]
theorem fAll_append (l m:List F3):fAll (l ++ m) = f3 (fAll l) (fAll m):=by
 unfold fAll
 rw [List.foldl_append,foldl_f3]
 rfl
abbrev TenD:=Ten
abbrev AttrD:=Str × Int × Int × Int × Str × TenD × List Int × List Int
abbrev NodeD:=Str × Str × List Str × List Str × List AttrD
abbrev ValD:=Str × Int × List Int
abbrev InitD:=Str × TenD
abbrev ModelD:=Int × Str × List NodeD × List InitD × List ValD × List ValD
def noModel:ModelD:=(0,[],[],[],[],[])
abbrev Rd7 (α:Type):=α × F3
def i64w (x:Int):Int:=IntKind.i64.wrap x
def fieldsP (b:List Int):Rd7 (List Fld):=((readV b).1,bad3 ((readV b).2 != 0))
def wholeP (l:List Fld) (num:Int):Rd7 Int:=(i64w (lastV l num 0).1.2.2.1,bad3 ((lastV l num 0).2.2 != 0))
def textP (l:List Fld) (num:Int):Rd7 Str:=((lastV l num 2).1.2.2.2,bad3 ((lastV l num 2).2.2 != 0))
def nameP (l:List Fld) (num:Int):Rd7 Str:=((textP l num).1,f3 (textP l num).2 (big3 (decide (256 < (textP l num).1.length))))
def messageP (l:List Fld) (num:Int):Rd7 (List Int × Bool):=(((joinV l num).1,(joinV l num).2.1),bad3 ((joinV l num).2.2 != 0))
def eachP (l:List Fld) (num:Int) (most:Nat):Rd7 (List (List Int)) :=
 ((allV l num).map fun f => f.2.2.2,f3 (bad3 ((allV l num).any fun f => f.2.1 != 2)) (big3 (decide (most < (allV l num).length))))
def namesP (l:List Fld) (num:Int):Rd7 (List Str):=((eachP l num 64).1,f3 (eachP l num 64).2 (big3 ((eachP l num 64).1.any fun s => decide (256 < s.length))))
def intsP (l:List Fld) (num:Int):Rd7 (List Int):=((listV int1 l num).1.map i64w,bad3 ((listV int1 l num).2 != 0))
def floatsP (l:List Fld) (num:Int):Rd7 (List Int):=((listV fix1 l num).1,bad3 ((listV fix1 l num).2 != 0))
def countF:Int → List Int → Int × Int
 | n,[] => (n,0)
 | n,x :: r => if 4096 < x then (0,8) else if 4096 < n * x then (0,8) else countF (n * x) r
def countV (d:List Int):Int × Int :=
 if d.any (fun x => decide (x < 0)) = true then (0,1) else if 8 < d.length then (0,8) else if d.any (fun x => x == 0) = true then (0,0) else countF 1 d
def knownB (t:Int):Bool:=t == 1 || t == 7 || t == 9
def dimsP (l:List Int):Rd7 (List Int × Bool):=((l,(countV l).2 == 0),f3 (bad3 ((countV l).2 == 1)) (big3 ((countV l).2 == 8)))
def sizeP (t:Int):Nat:=if t = 1 then 4 else if t = 7 then 8 else 1
def atP (k:Nat) (b:List Int) (i:Nat):Int:=leV ((b.drop (i * k)).take k)
def rawP (t:Int) (n:Int) (b:List Int):Rd7 (List Int × List Int × List Bool) :=
 if (b.length:Int) = n * (sizeP t:Int) then
  let xs:=(List.range n.toNat).map (atP (sizeP t) b)
  if t = 1 then ((xs.map (· % 4294967296),[],[]),no3)
  else if t = 7 then (([],xs.map i64w,[]),no3)
  else (([],[],xs.map (· == 1)),bad3 (xs.any fun x => decide (1 < x)))
 else (([],[],[]),bad3 true)
def boolsP (l:List Int):Rd7 (List Bool):=(l.map (· == 1),bad3 (l.any fun x => x != 0 && x != 1))
def elementsP (t:Int) (n:Int) (l:List Fld):Rd7 (List Int × List Int × List Bool) :=
 let f:=floatsP l 4
 let small:=intsP l 5
 let numbers:=intsP l 7
 let raws:=allV l 9
 let fl:=f3 f.2 (f3 small.2 numbers.2)
 let all:=f.1.length + small.1.length + numbers.1.length
 if 0 < raws.length then
  let r:=rawP t n (raws.getD (raws.length - 1) noFld).2.2.2
  (r.1,f3 fl (f3 (bad3 (decide (0 < all))) r.2))
 else if t = 1 then ((f.1,[],[]),f3 fl (bad3 (decide ((f.1.length:Int) ≠ n ∨ (all:Int) ≠ n))))
 else if t = 7 then (([],numbers.1,[]),f3 fl (bad3 (decide ((numbers.1.length:Int) ≠ n ∨ (all:Int) ≠ n))))
 else (([],[],(boolsP small.1).1),f3 fl (f3 (boolsP small.1).2 (bad3 (decide ((small.1.length:Int) ≠ n ∨ (all:Int) ≠ n)))))
def tensorP (b:List Int):Rd7 (Str × TenD) :=
 let l:=fieldsP b
 let i1:=intsP l.1 1
 let d:=dimsP i1.1
 let kind:=wholeP l.1 2
 let a:=eachP l.1 3 l.1.length
 let place:=wholeP l.1 14
 let name:=nameP l.1 8
 let r:=eachP l.1 9 l.1.length
 let fl:=fAll [l.2,i1.2,d.2,kind.2,bad3 (kind.1 == 0),odd3 (kind.1 != 0 && !knownB kind.1),a.2,(if 0 < a.1.length then no3 else place.2),odd3 (decide (0 < a.1.length) || place.1 != 0),name.2,r.2,(floatsP l.1 4).2,(intsP l.1 5).2,(intsP l.1 7).2]
 if d.1.2 && knownB kind.1 then
  let e:=elementsP kind.1 (countV d.1.1).1 l.1
  ((name.1,(kind.1,d.1.1,e.1.1,e.1.2.1,e.1.2.2)),f3 fl e.2)
 else ((name.1,(0,d.1.1,[],[],[])),fl)
def lastF (l:List Fld) (num wire:Int):Rd7 Fld:=((lastV l num wire).1,bad3 ((lastV l num wire).2.2 != 0))
def attrP (b:List Int):Rd7 AttrD :=
 let l:=fieldsP b
 let name:=nameP l.1 1
 let f:=lastF l.1 2 5
 let number:=wholeP l.1 3
 let text:=textP l.1 4
 let body:=messageP l.1 5
 let floats:=floatsP l.1 7
 let ints:=intsP l.1 8
 let t:Rd7 TenD:=if body.1.2 then ((tensorP body.1.1).1.2,(tensorP body.1.1).2) else (noTen,no3)
 let kind:=wholeP l.1 20
 let fl:=fAll [l.2,name.2,f.2,number.2,text.2,body.2,floats.2,ints.2,t.2,big3 (decide (4096 < text.1.length ∨ 4096 < floats.1.length ∨ 4096 < ints.1.length)),kind.2]
 if kind.1 = 0 then ((name.1,0,0,0,[],noTen,[],[]),f3 fl (bad3 true))
 else if kind.1 = 1 then ((name.1,1,f.1.2.2.1 % 4294967296,0,[],noTen,[],[]),fl)
 else if kind.1 = 2 then ((name.1,2,0,number.1,[],noTen,[],[]),fl)
 else if kind.1 = 3 then ((name.1,3,0,0,text.1,noTen,[],[]),fl)
 else if kind.1 = 4 then ((name.1,4,0,0,[],t.1,[],[]),f3 fl (bad3 (!body.1.2)))
 else if kind.1 = 6 then ((name.1,6,0,0,[],noTen,floats.1,[]),fl)
 else if kind.1 = 7 then ((name.1,7,0,0,[],noTen,[],ints.1),fl)
 else ((name.1,kind.1,0,0,[],noTen,[],[]),f3 fl (odd3 true))
def oursB (s:Str):Bool:=decide (s = []) || decide (s = [97,105,46,111,110,110,120])
def nodeP (b:List Int):Rd7 NodeD :=
 let l:=fieldsP b
 let op:=nameP l.1 4
 let name:=nameP l.1 3
 let ins:=namesP l.1 1
 let outs:=namesP l.1 2
 let dom:=textP l.1 7
 let a:=eachP l.1 5 64
 ((op.1,name.1,ins.1,outs.1,a.1.map fun x => (attrP x).1),fAll ([l.2,op.2,name.2,ins.2,outs.2,bad3 (decide (op.1 = [])),dom.2,odd3 (!oursB dom.1),a.2] ++ a.1.map fun x => (attrP x).2))
def dimP (b:List Int):Rd7 Int :=
 let f:=fieldsP b
 ((wholeP f.1 1).1,fAll [f.2,bad3 ((lastV f.1 1 0).2.2 != 0),odd3 (!(lastV f.1 1 0).2.1),(wholeP f.1 1).2])
def shapeP (b:List Int):Rd7 (List Int) :=
 let l:=fieldsP b
 let a:=eachP l.1 1 l.1.length
 let d:=dimsP (a.1.map fun x => (dimP x).1)
 (d.1.1,fAll ([l.2,a.2] ++ (a.1.map fun x => (dimP x).2) ++ [d.2]))
def valueP (b:List Int):Rd7 ValD :=
 let l:=fieldsP b
 let name:=nameP l.1 1
 let sort:=messageP l.1 2
 let fl:=fAll [l.2,name.2,sort.2]
 if sort.1.2 = false then ((name.1,0,[]),f3 fl (bad3 true))
 else
  let sf:=fieldsP sort.1.1
  let tensor:=messageP sf.1 1
  let fl:=fAll [fl,sf.2,tensor.2]
  if tensor.1.2 = false then ((name.1,0,[]),f3 fl (odd3 true))
  else
   let f:=fieldsP tensor.1.1
   let kind:=wholeP f.1 1
   let body:=messageP f.1 2
   let fl:=fAll [fl,f.2,kind.2,odd3 (!knownB kind.1),body.2]
   if body.1.2 = false then ((name.1,kind.1,[]),f3 fl (odd3 true))
   else ((name.1,kind.1,(shapeP body.1.1).1),f3 fl (shapeP body.1.1).2)
def valuesP (l:List Fld) (num:Int):Rd7 (List ValD) :=
 let a:=eachP l num 64
 (a.1.map fun x => (valueP x).1,fAll (a.2 :: a.1.map fun x => (valueP x).2))
def graphP (b:List Int):Rd7 (Str × List NodeD × List InitD × List ValD × List ValD) :=
 let l:=fieldsP b
 let name:=nameP l.1 2
 let a:=eachP l.1 1 1024
 let c:=eachP l.1 5 1024
 let i:=valuesP l.1 11
 let o:=valuesP l.1 12
 let s:=eachP l.1 15 l.1.length
 ((name.1,a.1.map (fun x => (nodeP x).1),c.1.map (fun x => (tensorP x).1),i.1,o.1),
  fAll ([l.2,name.2,a.2] ++ (a.1.map fun x => (nodeP x).2) ++ [c.2] ++ (c.1.map fun x => (tensorP x).2) ++ [i.2,o.2,s.2,odd3 (decide (0 < s.1.length))]))
def versF:Int → List (List Int) → Int
 | v,[] => v
 | v,x :: r => versF (if oursB (textP (fieldsP x).1 1).1 then (wholeP (fieldsP x).1 2).1 else v) r
def setsP (l:List Fld):F3 :=
 let a:=eachP l 8 l.length
 fAll ([a.2] ++ (a.1.map fun x => fAll [(fieldsP x).2,(textP (fieldsP x).1 1).2,(wholeP (fieldsP x).1 2).2]) ++ [odd3 (versF 0 a.1 != 17)])
def decodeV (b:List Int):ModelD × Int :=
 if 4194304 < b.length then (noModel,8)
 else
  let l:=fieldsP b
  let body:=messageP l.1 7
  let g:=graphP body.1.1
  let fl:=fAll [l.2,(wholeP l.1 1).2,body.2,bad3 (!body.1.2),g.2,setsP l.1]
  if fl.1 = true then (noModel,6) else if fl.2.1 = true then (noModel,7) else if fl.2.2 = true then (noModel,8)
  else ((17,g.1.1,g.1.2.1,g.1.2.2.1,g.1.2.2.2.1,g.1.2.2.2.2),0)
def emptyT (t:TenD):Bool:=t.1 == 0 && (t.2.1.length + t.2.2.1.length + t.2.2.2.1.length + t.2.2.2.2.length == 0)
def hasT (t:TenD):Nat × Nat :=
 let all:=t.2.2.1.length + t.2.2.2.1.length + t.2.2.2.2.length
 if t.1 = 1 then (t.2.2.1.length,all - t.2.2.1.length) else if t.1 = 7 then (t.2.2.2.1.length,all - t.2.2.2.1.length) else (t.2.2.2.2.length,all - t.2.2.2.2.length)
def dimsW (d:List Int):F3:=f3 (bad3 ((countV d).2 == 1)) (big3 ((countV d).2 == 8))
def tensW (t:TenD):F3 :=
 if knownB t.1 = false then bad3 true
 else f3 (dimsW t.2.1) (bad3 ((countV t.2.1).2 == 0 && decide (((hasT t).1:Int) ≠ (countV t.2.1).1 ∨ 0 < (hasT t).2)))
def longW (s:Str):F3:=big3 (decide (256 < s.length))
def attrW (x:AttrD):F3 :=
 let k:=x.2.1
 fAll [longW x.1,
  bad3 (k != 1 && x.2.2.1 != 0 || k != 2 && x.2.2.2.1 != 0 || k != 3 && decide (x.2.2.2.2.1 ≠ []) || k != 4 && !emptyT x.2.2.2.2.2.1 || k != 6 && decide (0 < x.2.2.2.2.2.2.1.length) || k != 7 && decide (0 < x.2.2.2.2.2.2.2.length)),
  big3 (decide (4096 < x.2.2.2.2.1.length ∨ 4096 < x.2.2.2.2.2.2.1.length ∨ 4096 < x.2.2.2.2.2.2.2.length)),
  (if k = 1 ∨ k = 2 ∨ k = 3 ∨ k = 6 ∨ k = 7 then no3 else if k = 4 then tensW x.2.2.2.2.2.1 else bad3 true)]
def nodeW (n:NodeD):F3 :=
 fAll ([longW n.1,longW n.2.1,bad3 (decide (n.1 = [])),big3 (decide (64 < n.2.2.1.length ∨ 64 < n.2.2.2.1.length ∨ 64 < n.2.2.2.2.length))] ++ n.2.2.1.map longW ++ n.2.2.2.1.map longW ++ n.2.2.2.2.map attrW)
def valW (v:ValD):F3:=fAll [longW v.1,bad3 (!knownB v.2.1),dimsW v.2.2]
def valuesW (l:List ValD):F3:=fAll (big3 (decide (64 < l.length)) :: l.map valW)
def modelW (m:ModelD):F3 :=
 fAll ([bad3 (m.1 != 17),longW m.2.1,big3 (decide (1024 < m.2.2.1.length ∨ 1024 < m.2.2.2.1.length))] ++ m.2.2.1.map nodeW ++ (m.2.2.2.1.map fun x => f3 (longW x.1) (tensW x.2)) ++ [valuesW m.2.2.2.2.1,valuesW m.2.2.2.2.2])
def checkM (m:ModelD):Int:=if (modelW m).1 = true then 1 else if (modelW m).2.2 = true then 8 else 0
def u64w (x:Int):Int:=IntKind.u64.wrap x
def numF (num x:Int):Fld:=(num,0,x,[])
def blkF (num:Int) (b:List Int):Fld:=(num,2,0,b)
def wordF (num:Int) (s:Str):List Fld:=if s = [] then [] else [blkF num s]
def packF (num:Int) (l:List Int):List Fld:=if l.length = 0 then [] else [blkF num (l.flatMap fun x => varV (u64w x))]
def rawB (t:TenD):List Int:=(t.2.2.1.flatMap fun x => fxL x 4) ++ (t.2.2.2.1.flatMap fun x => fxL (u64w x) 8) ++ t.2.2.2.2.map fun b => if b then 1 else 0
def tensF (name:Str) (t:TenD):List Fld:=packF 1 t.2.1 ++ [numF 2 (u64w t.1)] ++ wordF 8 name ++ [blkF 9 (rawB t)]
def attrF (x:AttrD):List Fld :=
 let k:=x.2.1
 wordF 1 x.1 ++
 (if k = 1 then [((2:Int),(5:Int),x.2.2.1,[])]
  else if k = 2 then [numF 3 (u64w x.2.2.2.1)]
  else if k = 3 then [blkF 4 x.2.2.2.2.1]
  else if k = 4 then [blkF 5 (msgB (tensF [] x.2.2.2.2.2.1))]
  else if k = 6 then (if x.2.2.2.2.2.2.1.length = 0 then [] else [blkF 7 (x.2.2.2.2.2.2.1.flatMap fun y => fxL y 4)])
  else if k = 7 then packF 8 x.2.2.2.2.2.2.2
  else []) ++ [numF 20 (u64w k)]
def nodeF (n:NodeD):List Fld:=n.2.2.1.map (blkF 1) ++ n.2.2.2.1.map (blkF 2) ++ wordF 3 n.2.1 ++ [blkF 4 n.1] ++ n.2.2.2.2.map fun a => blkF 5 (msgB (attrF a))
def shapeF (d:List Int):List Fld:=d.map fun x => blkF 1 (msgB [numF 1 (u64w x)])
def valF (v:ValD):List Fld:=wordF 1 v.1 ++ [blkF 2 (msgB [blkF 1 (msgB [numF 1 (u64w v.2.1),blkF 2 (msgB (shapeF v.2.2))])])]
def graphF (m:ModelD):List Fld :=
 (m.2.2.1.map fun n => blkF 1 (msgB (nodeF n))) ++ wordF 2 m.2.1 ++ (m.2.2.2.1.map fun x => blkF 5 (msgB (tensF x.1 x.2))) ++ (m.2.2.2.2.1.map fun v => blkF 11 (msgB (valF v))) ++ m.2.2.2.2.2.map fun v => blkF 12 (msgB (valF v))
def modelF (m:ModelD):List Fld:=[numF 1 8,blkF 7 (msgB (graphF m)),blkF 8 (msgB [numF 2 17])]
def encodeV (m:ModelD):List Int × Int:=if checkM m = 0 then (if 4194304 < (msgB (modelF m)).length then ([],8) else (msgB (modelF m),0)) else ([],checkM m)
def strV (s:Str):Value:=.string (strOfNums s)
theorem str_data (s:Str):(strOfNums s).data = (s.map fun n => UInt8.ofNat n.toNat).toArray:=rfl
theorem str_inj {a b:Str} (ha:∀ c ∈ a,0 ≤ c ∧ c < 256) (hb:∀ c ∈ b,0 ≤ c ∧ c < 256) (h:strOfNums a = strOfNums b):a = b:=by
 have h1:(a.map fun n => UInt8.ofNat n.toNat) = b.map fun n => UInt8.ofNat n.toNat:=by
  have:=congrArg ByteArray.data h
  rw [str_data,str_data] at this
  exact List.toArray_inj this
 have key:∀ (x y:Int),0 ≤ x → x < 256 → 0 ≤ y → y < 256 → UInt8.ofNat x.toNat = UInt8.ofNat y.toNat → x = y:=fun x y x0 x1 y0 y1 e => by
  have:=congrArg UInt8.toNat e
  simp only [UInt8.toNat_ofNat'] at this
  omega
 clear h
 induction a generalizing b with
 | nil =>
   cases b with
   | nil => rfl
   | cons _ _ => simp at h1
 | cons x r ih =>
   cases b with
   | nil => simp at h1
   | cons y s =>
     simp only [List.map_cons,List.cons.injEq] at h1
     obtain ⟨x0,x1⟩:=ha x (by simp)
     obtain ⟨y0,y1⟩:=hb y (by simp)
     rw [key x y x0 x1 y0 y1 h1.1,ih (fun c hc => ha c (by simp [hc])) (fun c hc => hb c (by simp [hc])) h1.2]
theorem str_len (s:Str):(strOfNums s).size = s.length:=by
 show (strOfNums s).data.size = _
 rw [str_data]; simp
def TenT (B:Nat) (w:World) (T:Ten) (A:TA):Prop:=TenIn w T A ∧ Tag 3 B w A.pd T.2.1.length ∧ Tag 84 B w A.pf T.2.2.1.length ∧ Tag 2 B w A.pi T.2.2.2.1.length ∧ Tag 4 B w A.pb T.2.2.2.2.length
def tenTS:List TypeId:=[3,84,2,4]
theorem Ints.keptT {k:IntKind} {t:TypeId} {TS:List TypeId} {B:Nat} {w w':World} {p:Option Addr} {cap:Nat} {xs:List Int} (h:Ints k w p cap xs) (g:Tag t B w p xs.length) (ht:t ∈ TS) (kp:Kept TS B w w'):Ints k w' p cap xs:=(h.ls.kept g ht kp).ints h.2.2.1
theorem TenT.kept {B:Nat} {TS:List TypeId} {w w':World} {T:Ten} {A:TA} (h:TenT B w T A) (hs:∀ t ∈ tenTS,t ∈ TS) (k:Kept TS B w w'):TenT B w' T A:=by
 obtain ⟨⟨h1,h2,h3,h4,h5⟩,g1,g2,g3,g4⟩:=h
 have t1:=hs 3 (by simp [tenTS])
 have t2:=hs 84 (by simp [tenTS])
 have t3:=hs 2 (by simp [tenTS])
 have t4:=hs 4 (by simp [tenTS])
 exact ⟨⟨h1,h2.keptT g1 t1 k,h3.keptT g2 t2 k,h4.keptT g3 t3 k,h5.kept g4 t4 k⟩,g1.kept t1 k,g2.kept t2 k,g3.kept t3 k,g4.kept t4 k⟩
structure VaA where
 nm:Str
 ty:Int
 ds:List Int
 q:Option Addr
 c:Nat
def VaA.d (a:VaA):ValD:=(a.nm,a.ty,a.ds)
def noVaA:VaA:=⟨[],0,[],none,0⟩
def vaCells (a:VaA):List Value:=[strV a.nm,.int .i64 a.ty,.slice a.q a.ds.length a.c]
theorem vaWd:Wd 3 vaCells:=⟨by decide,fun _ => rfl,fun a u hu => by simp [vaCells] at hu; rcases hu with rfl | rfl | rfl <;> rfl⟩
def VaIn (B:Nat) (w:World) (a:VaA):Prop:=isB a.nm ∧ (Lit.int .i64 a.ty).wf = true ∧ Ints .i64 w a.q a.c a.ds ∧ Tag 3 B w a.q a.ds.length
theorem VaIn.kept {B:Nat} {TS:List TypeId} {w w':World} {a:VaA} (h:VaIn B w a) (hs:3 ∈ TS) (k:Kept TS B w w'):VaIn B w' a:=⟨h.1,h.2.1,h.2.2.1.keptT h.2.2.2 hs k,h.2.2.2.kept hs k⟩
structure InA where
 nm:Str
 T:Ten
 A:TA
def InA.d (a:InA):InitD:=(a.nm,a.T)
def noInA:InA:=⟨[],(0,[],[],[],[]),noTA⟩
def inCells (a:InA):List Value:=strV a.nm :: (tenCells a.T a.A).toList
theorem inWd:Wd 6 inCells:=⟨by decide,fun _ => rfl,fun a u hu => by simp [inCells,tenCells] at hu; rcases hu with rfl | rfl | rfl | rfl | rfl | rfl <;> rfl⟩
def InIn (B:Nat) (w:World) (a:InA):Prop:=isB a.nm ∧ TenT B w a.T a.A
theorem InIn.kept {B:Nat} {TS:List TypeId} {w w':World} {a:InA} (h:InIn B w a) (hs:∀ t ∈ tenTS,t ∈ TS) (k:Kept TS B w w'):InIn B w' a:=⟨h.1,h.2.kept hs k⟩
structure AtA where
 nm:Str
 kd:Int
 f:Int
 i:Int
 s:Str
 T:Ten
 A:TA
 fl:List Int
 qf:Option Addr
 cf:Nat
 is:List Int
 qi:Option Addr
 ci:Nat
def AtA.d (a:AtA):AttrD:=(a.nm,a.kd,a.f,a.i,a.s,a.T,a.fl,a.is)
def noAtA:AtA:=⟨[],0,0,0,[],(0,[],[],[],[]),noTA,[],none,0,[],none,0⟩
def atCells (a:AtA):List Value:=[strV a.nm,.int .i64 a.kd,.int .u32 a.f,.int .i64 a.i,strV a.s] ++ (tenCells a.T a.A).toList ++ [.slice a.qf a.fl.length a.cf,.slice a.qi a.is.length a.ci]
theorem atWd:Wd 12 atCells:=⟨by decide,fun _ => rfl,fun a u hu => by simp [atCells,tenCells] at hu; rcases hu with rfl | rfl | rfl | rfl | rfl | rfl | rfl | rfl | rfl | rfl | rfl | rfl <;> rfl⟩
def AtIn (B:Nat) (w:World) (a:AtA):Prop :=
 isB a.nm ∧ (Lit.int .i64 a.kd).wf = true ∧ (Lit.int .u32 a.f).wf = true ∧ (Lit.int .i64 a.i).wf = true ∧ isB a.s ∧ TenT B w a.T a.A ∧ (Ints .u32 w a.qf a.cf a.fl ∧ Tag 84 B w a.qf a.fl.length) ∧ Ints .i64 w a.qi a.ci a.is ∧ Tag 2 B w a.qi a.is.length
theorem AtIn.kept {B:Nat} {TS:List TypeId} {w w':World} {a:AtA} (h:AtIn B w a) (hs:∀ t ∈ tenTS,t ∈ TS) (k:Kept TS B w w'):AtIn B w' a:=by
 obtain ⟨h1,h2,h3,h4,h5,h6,⟨h7,h8⟩,h9,h10⟩:=h
 have t2:=hs 84 (by simp [tenTS])
 have t3:=hs 2 (by simp [tenTS])
 exact ⟨h1,h2,h3,h4,h5,h6.kept hs k,⟨h7.keptT h8 t2 k,h8.kept t2 k⟩,h9.keptT h10 t3 k,h10.kept t3 k⟩
structure NoA where
 op:Str
 nm:Str
 ins:List Str
 qi:Option Addr
 ci:Nat
 outs:List Str
 qo:Option Addr
 co:Nat
 at':List AtA
 qa:Option Addr
 ca:Nat
def NoA.d (a:NoA):NodeD:=(a.op,a.nm,a.ins,a.outs,a.at'.map AtA.d)
def noNoA:NoA:=⟨[],[],[],none,0,[],none,0,[],none,0⟩
def noCells (a:NoA):List Value:=[strV a.op,strV a.nm,.slice a.qi a.ins.length a.ci,.slice a.qo a.outs.length a.co,.slice a.qa a.at'.length a.ca]
theorem noWd:Wd 5 noCells:=⟨by decide,fun _ => rfl,fun a u hu => by simp [noCells] at hu; rcases hu with rfl | rfl | rfl | rfl | rfl <;> rfl⟩
def nodeTS:List TypeId:=[3,84,2,4,9,86]
def NoIn (B:Nat) (w:World) (a:NoA):Prop :=
 isB a.op ∧ isB a.nm ∧ ((∀ s ∈ a.ins,isB s) ∧ Ls strV w a.qi a.ci a.ins ∧ Tag 9 B w a.qi a.ins.length) ∧ ((∀ s ∈ a.outs,isB s) ∧ Ls strV w a.qo a.co a.outs ∧ Tag 9 B w a.qo a.outs.length) ∧ (∀ x ∈ a.at',AtIn B w x) ∧ Rc 12 atCells noAtA w a.qa a.ca a.at' ∧ Tag 86 B w a.qa a.at'.length
theorem NoIn.kept {B:Nat} {TS:List TypeId} {w w':World} {a:NoA} (h:NoIn B w a) (hs:∀ t ∈ nodeTS,t ∈ TS) (k:Kept TS B w w'):NoIn B w' a:=by
 obtain ⟨h1,h2,⟨h3,h4,h5⟩,⟨h6,h7,h8⟩,h9,h10,h11⟩:=h
 have t5:=hs 9 (by simp [nodeTS])
 have t6:=hs 86 (by simp [nodeTS])
 have tt:∀ t ∈ tenTS,t ∈ TS:=fun t ht => hs t (by simp only [tenTS,List.mem_cons,List.not_mem_nil,or_false] at ht; rcases ht with rfl | rfl | rfl | rfl <;> simp [nodeTS])
 exact ⟨h1,h2,⟨h3,h4.kept h5 t5 k,h5.kept t5 k⟩,⟨h6,h7.kept h8 t5 k,h8.kept t5 k⟩,fun x hx => (h9 x hx).kept tt k,h10.kept h11 t6 k,h11.kept t6 k⟩
structure MoA where
 ops:Int
 nm:Str
 nodes:List NoA
 qn:Option Addr
 cn:Nat
 inits:List InA
 qi:Option Addr
 ci:Nat
 inp:List VaA
 qp:Option Addr
 cp:Nat
 out:List VaA
 qo:Option Addr
 co:Nat
def MoA.d (a:MoA):ModelD:=(a.ops,a.nm,a.nodes.map NoA.d,a.inits.map InA.d,a.inp.map VaA.d,a.out.map VaA.d)
def noMoA:MoA:=⟨0,[],[],none,0,[],none,0,[],none,0,[],none,0⟩
def moCells (a:MoA):Array Value:=#[.int .i64 a.ops,strV a.nm,.slice a.qn a.nodes.length a.cn,.slice a.qi a.inits.length a.ci,.slice a.qp a.inp.length a.cp,.slice a.qo a.out.length a.co]
def moV (a:MoA):Value:=.agg (moCells a)
def modelTS:List TypeId:=[3,84,2,4,9,86,75,82,52]
def MoIn (B:Nat) (w:World) (a:MoA):Prop :=
 (Lit.int .i64 a.ops).wf = true ∧ isB a.nm ∧ ((∀ x ∈ a.nodes,NoIn B w x) ∧ Rc 5 noCells noNoA w a.qn a.cn a.nodes ∧ Tag 75 B w a.qn a.nodes.length) ∧ ((∀ x ∈ a.inits,InIn B w x) ∧ Rc 6 inCells noInA w a.qi a.ci a.inits ∧ Tag 82 B w a.qi a.inits.length) ∧
  ((∀ x ∈ a.inp,VaIn B w x) ∧ Rc 3 vaCells noVaA w a.qp a.cp a.inp ∧ Tag 52 B w a.qp a.inp.length) ∧ (∀ x ∈ a.out,VaIn B w x) ∧ Rc 3 vaCells noVaA w a.qo a.co a.out ∧ Tag 52 B w a.qo a.out.length
theorem MoIn.kept {B:Nat} {w w':World} {a:MoA} (h:MoIn B w a) (k:Kept modelTS B w w'):MoIn B w' a:=by
 obtain ⟨h1,h2,⟨a1,a2,a3⟩,⟨b1,b2,b3⟩,⟨c1,c2,c3⟩,d1,d2,d3⟩:=h
 have tn:∀ t ∈ nodeTS,t ∈ modelTS:=fun t ht => by simp only [nodeTS,List.mem_cons,List.not_mem_nil,or_false] at ht; rcases ht with rfl | rfl | rfl | rfl | rfl | rfl <;> simp [modelTS]
 have tt:∀ t ∈ tenTS,t ∈ modelTS:=fun t ht => by simp only [tenTS,List.mem_cons,List.not_mem_nil,or_false] at ht; rcases ht with rfl | rfl | rfl | rfl <;> simp [modelTS]
 have t1:75 ∈ modelTS:=by simp [modelTS]
 have t2:82 ∈ modelTS:=by simp [modelTS]
 have t3:52 ∈ modelTS:=by simp [modelTS]
 have t4:3 ∈ modelTS:=by simp [modelTS]
 exact ⟨h1,h2,⟨fun x hx => (a1 x hx).kept tn k,a2.kept a3 t1 k,a3.kept t1 k⟩,⟨fun x hx => (b1 x hx).kept tt k,b2.kept b3 t2 k,b3.kept t2 k⟩,⟨fun x hx => (c1 x hx).kept t4 k,c2.kept c3 t3 k,c3.kept t3 k⟩,fun x hx => (d1 x hx).kept t4 k,d2.kept d3 t3 k,d3.kept t3 k⟩
theorem MoIn.below {B:Nat} {w w':World} {a:MoA} (h:MoIn B w a) (hb:Below w.heap.size w w'):MoIn B w' a:=h.kept (Kept.below hb)
def TenSm (T:Ten):Prop:=T.2.1.length ≤ 140737488355328 ∧ T.2.2.1.length ≤ 140737488355328 ∧ T.2.2.2.1.length ≤ 140737488355328 ∧ T.2.2.2.2.length ≤ 140737488355328
theorem rempty_any (T:Ten) (A:TA) (w:World) (h:TenSm T) :
  Calls Tryz.prog 164 #[tenV T A] w fun e w' => e = .returned (.bool (emptyT T)) ∧ Below w.heap.size w w':=by
 obtain ⟨ty,ds,fs,is,bs⟩:=T
 obtain ⟨pd,cd,pf,cf,pi,ci,pb,cb⟩:=A
 obtain ⟨h1,h2,h3,h4⟩:=h
 simp only at h1 h2 h3 h4
 unfold tenV tenCells
 simp only
 have HB:=hide (fun o => al1p w o)
 by_cases ht:ty = 0
 ·subst ht
  obtain ⟨r,hr⟩:∃ r,((ds.length:Int) + fs.length + is.length + bs.length == 0) = r:=⟨_,rfl⟩
  have HV:Hid (emptyT (0,ds,fs,is,bs) = r):=hide (by
   rw [← hr]; unfold emptyT; simp only [beq_self_eq_true,Bool.true_and]
   rw [Bool.eq_iff_iff,beq_iff_eq,beq_iff_eq]; omega)
  go_enter Tryz.func164,Tryz.ntmps164
  go_wp2_with fail
  go_ret
  exact ⟨by rw [uh HV]; first | rfl | (rw [← hr]; rfl),uh HB _⟩
 ·have tn:(ty == 0) = false:=by simp [ht]
  have HV:Hid (emptyT (ty,ds,fs,is,bs) = false):=hide (by unfold emptyT; simp only [tn,Bool.false_and])
  go_enter Tryz.func164,Tryz.ntmps164
  go_wp2_with fail
  go_ret
  exact ⟨by rw [uh HV]; rfl,uh HB _⟩
def Mrow {β:Type} (t:TypeId) (cells:β → List Value) (w:World) (b:Nat) (xs:List β):Prop:=w.heap[b]? = some (Obj.cells (xs.flatMap cells).toArray t (0,0))
def setMany (w:World) (b:Nat):Nat → List Value → World
 | _,[] => w
 | off,u :: us => setMany (w.setCell ⟨b,off,none⟩ u) b (off + 1) us
def writeA (a:Array Value):Nat → List Value → Array Value
 | _,[] => a
 | off,u :: us => writeA (a.setIfInBounds off u) (off + 1) us
theorem writeA_list:∀ (us:List Value) (a:Array Value) (off:Nat),off + us.length ≤ a.size → (writeA a off us).toList = a.toList.take off ++ us ++ a.toList.drop (off + us.length)
 | [],a,off,h => by simp [writeA]
 | u :: us,a,off,h => by
   simp only [List.length_cons] at h
   have hs:(a.setIfInBounds off u).size = a.size:=by simp
   rw [writeA,writeA_list us (a.setIfInBounds off u) (off + 1) (by rw [hs]; omega)]
   have e:(a.setIfInBounds off u).toList = a.toList.set off u:=by simp
   rw [e]
   have hl:off < a.toList.length:=by simp; omega
   rw [List.set_eq_take_append_cons_drop,if_pos hl]
   have t1:(a.toList.take off).length = off:=by simp; omega
   have e1:(a.toList.take off ++ u :: a.toList.drop (off + 1)).take (off + 1) = a.toList.take off ++ [u]:=by
    rw [List.take_append,t1,List.take_of_length_le (by omega),show off + 1 - off = 1 by omega]; rfl
   have e2:(a.toList.take off ++ u :: a.toList.drop (off + 1)).drop (off + 1 + us.length) = a.toList.drop (off + (u :: us).length):=by
    rw [List.drop_append,t1,List.drop_of_length_le (by omega),show off + 1 + us.length - off = us.length + 1 by omega]
    simp only [List.drop_succ_cons,List.nil_append,List.drop_drop,List.length_cons]
    congr 1
    omega
   rw [e1,e2]
   simp
theorem setMany_block:∀ (us:List Value) (w:World) (b off:Nat) (a:Array Value) (t:TypeId),w.heap[b]? = some (Obj.cells a t (0,0)) → (setMany w b off us).heap[b]? = some (Obj.cells (writeA a off us) t (0,0))
 | [],w,b,off,a,t,h => h
 | u :: us,w,b,off,a,t,h => setMany_block us _ b (off + 1) _ t (Box.same h off u)
theorem setMany_other:∀ (us:List Value) (w:World) (b off c:Nat),c ≠ b → (setMany w b off us).heap[c]? = w.heap[c]?
 | [],w,b,off,c,h => rfl
 | u :: us,w,b,off,c,h => (setMany_other us _ b (off + 1) c h).trans (Below.heap_setCell _ _ _ _ h)
theorem setMany_below {B:Nat} {a:World}:∀ (us:List Value) (w:World) (b off:Nat),Below B a w → B ≤ b → Below B a (setMany w b off us)
 | [],w,b,off,h,_ => h
 | u :: us,w,b,off,h,hb => setMany_below us _ b (off + 1) (h.setCell (p:=⟨b,off,none⟩) hb u) hb
theorem setMany_size:∀ (us:List Value) (w:World) (b off:Nat),(setMany w b off us).heap.size = w.heap.size
 | [],w,b,off => rfl
 | u :: us,w,b,off => (setMany_size us _ b (off + 1)).trans (by simp [World.setCell])
section
variable {β:Type} {k:Nat} {cells:β → List Value} {w w':World} {t:TypeId} {b:Nat} {xs:List β}
theorem flat_set (hk:Wd k cells):∀ (xs:List β) (i:Nat) (x:β),i < xs.length → (xs.set i x).flatMap cells = (xs.flatMap cells).take (i * k) ++ cells x ++ (xs.flatMap cells).drop (i * k + k)
 | [],i,x,h => by simp at h
 | y :: r,0,x,h => by
   have hy:=hk.2.1 y
   simp only [List.set_cons_zero,List.flatMap_cons,Nat.zero_mul,List.take_zero,List.nil_append,Nat.zero_add]
   rw [List.drop_append,hy,List.drop_of_length_le (by omega),Nat.sub_self,List.drop_zero,List.nil_append]
 | y :: r,i + 1,x,h => by
   have hy:=hk.2.1 y
   simp only [List.set_cons_succ,List.flatMap_cons]
   have m1:(i + 1) * k = i * k + k:=by rw [Nat.add_mul]; omega
   have e1:(cells y ++ r.flatMap cells).take ((i + 1) * k) = cells y ++ (r.flatMap cells).take (i * k):=by
    rw [List.take_append,hy,m1,show i * k + k - k = i * k by omega,List.take_of_length_le (show (cells y).length ≤ i * k + k by omega)]
   have e2:(cells y ++ r.flatMap cells).drop ((i + 1) * k + k) = (r.flatMap cells).drop (i * k + k):=by
    rw [List.drop_append,hy,m1,show i * k + k + k - k = i * k + k by omega,List.drop_of_length_le (show (cells y).length ≤ i * k + k + k by omega),List.nil_append]
   rw [flat_set hk r i x (by simpa using h),e1,e2]
   simp [List.append_assoc]
theorem Mrow.set (hk:Wd k cells) (h:Mrow t cells w b xs) (x:β) {i:Nat} (hi:i < xs.length):Mrow t cells (setMany w b (i * k) (cells x)) b (xs.set i x):=by
 have hs:i * k + k ≤ (xs.flatMap cells).length:=by
  rw [rc_len hk]
  have:=Nat.mul_le_mul_right k hi
  rw [Nat.succ_mul] at this
  exact this
 have h1:=setMany_block (cells x) w b (i * k) _ t h
 unfold Mrow
 rw [h1]
 congr 2
 apply Array.toList_inj.1
 rw [writeA_list _ _ _ (by simpa [hk.2.1 x] using hs),flat_set hk xs i x hi,hk.2.1 x]
theorem Mrow.at (hk:Wd k cells) {z:β} (h:Mrow t cells w b xs) {i j:Nat} {u:Value} (hi:i < xs.length) (hu:(cells (xs.getD i z))[j]? = some u):w.cell? ⟨b,i * k + j,none⟩ = some u:=by
 have hj:j < k:=by
  have:=(List.getElem?_eq_some_iff.1 hu).1
  rw [hk.2.1] at this; exact this
 have e:=rc_get (z:=z) hk xs i j hi hj
 unfold Mrow at h
 simp [World.cell?,h]
 rw [e]; exact hu
theorem Mrow.frozen (h:Mrow t cells w b xs) (j:Nat):w.frozen? ⟨b,j,none⟩ = false:=by
 unfold Mrow at h
 simp [World.frozen?,h]
theorem Mrow.below (h:Mrow t cells w b xs) (hb:Below w.heap.size w w'):Mrow t cells w' b xs:=(hb.block b (lt_of_block h)).trans h
theorem made_flat (hk:Wd k cells) (z:β) (n:Nat):(madeCells (cells z).toArray (n * k)).toList = (List.replicate n z).flatMap cells:=by
 have h0:=hk.1
 apply List.ext_getElem?
 intro j
 by_cases hj:j < n * k
 ·have hd:j / k < (List.replicate n z).length:=by rw [List.length_replicate]; exact Nat.div_lt_of_lt_mul (by rw [Nat.mul_comm]; exact hj)
  have hm:j % k < k:=Nat.mod_lt _ h0
  have e:=rc_get (z:=z) hk (List.replicate n z) (j / k) (j % k) hd hm
  rw [show j / k * k + j % k = j from by rw [Nat.mul_comm]; exact Nat.div_add_mod j k] at e
  rw [e]
  have e2:(List.replicate n z).getD (j / k) z = z:=by
   rw [List.getD_eq_getElem?_getD,List.getElem?_eq_getElem hd,List.getElem_replicate]; rfl
  rw [e2]
  have hl:j % k < (cells z).length:=by rw [hk.2.1]; exact hm
  simp [madeCells,hj,hk.2.1]
  rw [List.getElem?_eq_getElem hl]
  rfl
 ·have e1:((List.replicate n z).flatMap cells).length = n * k:=by rw [rc_len hk,List.length_replicate]
  rw [List.getElem?_eq_none (l:=(List.replicate n z).flatMap cells) (by rw [e1]; omega),List.getElem?_eq_none (by simp [madeCells]; omega)]
theorem Mrow.made (hk:Wd k cells) (z:β) {zv:Value} {base g n:Nat} (hz:zv.cells = (cells z).toArray) (ho:w.ownsRow base t k (.slice (some ⟨g,0,none⟩) n n) n (madeCells zv.cells (n * k)).toList):Mrow t cells w g (List.replicate n z):=by
 rcases ho.2 with ⟨hv,_⟩ | ⟨g',cap,cur,hv,hb,hh,hc,hm,hs,ht⟩
 ·cases hv
 ·simp only [Value.slice.injEq,Option.some.injEq,Addr.mk.injEq] at hv
  obtain ⟨⟨rfl,_,_⟩,_,rfl⟩:=hv
  unfold Mrow
  rw [hh]
  congr 2
  apply Array.toList_inj.1
  rw [List.take_of_length_le (by simp [hs])] at ht
  rw [ht,hz,made_flat hk]
theorem Mrow.own (hk:Wd k cells) {a:World} (h:Mrow t cells w b xs) (hb:a.heap.size ≤ b) (hl:xs.length ≤ maxLen) (ha:Below a.heap.size a w):OwnR t k cells a w (.slice (some ⟨b,0,none⟩) xs.length xs.length) xs :=
 ⟨⟨rc_len hk xs,.inr ⟨b,xs.length,_,rfl,hb,h,Nat.le_refl _,hl,by simp [rc_len hk],by simp; rw [List.take_of_length_le (by rw [rc_len hk]; omega)]⟩⟩,ha⟩
theorem set_mid {α:Type} (ys:List α) (m:Nat) (z x:α):(ys ++ List.replicate (m + 1) z).set ys.length x = (ys ++ [x]) ++ List.replicate m z:=by
 rw [List.replicate_succ,List.set_append_right _ _ (Nat.le_refl _),Nat.sub_self,List.set_cons_zero,List.append_assoc]; rfl
end
theorem i64_u64 {x:Int} (h0:-9223372036854775808 ≤ x) (h1:x < 9223372036854775808):i64w (u64w x) = x:=by
 unfold i64w u64w
 rw [IntKind.wrap_u64,IntKind.wrap_i64]
 omega
theorem u64w_range (x:Int):0 ≤ u64w x ∧ u64w x < 18446744073709551616:=by
 unfold u64w
 rw [IntKind.wrap_u64]
 omega
theorem pk_one (f:Fld) (num:Int):allV [f] num = if f.1 = num then [f] else []:=by
 unfold allV
 by_cases h:f.1 = num <;> simp [h]
theorem pk_map {α:Type} (k num:Int) (g:α → List Int) (l:List α):allV (l.map fun x => blkF k (g x)) num = if k = num then l.map (fun x => blkF k (g x)) else []:=by
 unfold allV blkF
 induction l with
 | nil => simp
 | cons a r ih =>
   by_cases h:k = num
   ·rw [if_pos h] at ih ⊢
    simp only [List.map_cons,List.filter_cons,h,beq_self_eq_true,if_true]
    rw [h] at ih
    rw [ih]
   ·rw [if_neg h] at ih ⊢
    have hb:(k == num) = false:=by simp [h]
    simp only [List.map_cons,List.filter_cons,hb]
    exact ih
theorem last_one {l:List Fld} {num wire:Int} {f:Fld} (h:allV l num = [f]) (hw:f.2.1 = wire):lastV l num wire = (f,true,0):=by
 unfold lastV
 rw [h]
 simp [hw]
theorem whole_one {l:List Fld} {num x:Int} (h:allV l num = [numF num x]):wholeP l num = (i64w x,no3):=by
 unfold wholeP
 rw [last_one (wire:=0) h rfl]
 rfl
theorem each_map {α:Type} {l:List Fld} {num:Int} {most:Nat} {g:α → List Int} {xs:List α} (h:allV l num = xs.map fun x => blkF num (g x)) (hl:xs.length ≤ most):eachP l num most = (xs.map g,no3):=by
 unfold eachP
 rw [h]
 have e1:(xs.map fun x => blkF num (g x)).any (fun f => f.2.1 != 2) = false:=by
  rw [List.any_eq_false]
  intro f hf
  obtain ⟨x,_,rfl⟩:=List.mem_map.1 hf
  simp [blkF]
 have e2:decide (most < (xs.map fun x => blkF num (g x)).length) = false:=decide_eq_false (by rw [List.length_map]; omega)
 rw [e1,e2,List.map_map]
 rfl
theorem f3_eq_no {a b:F3} (h:f3 a b = no3):a = no3 ∧ b = no3:=by
 obtain ⟨a1,a2,a3⟩:=a
 obtain ⟨b1,b2,b3⟩:=b
 simp only [f3,no3,Prod.mk.injEq,Bool.or_eq_false_iff] at h ⊢
 exact ⟨⟨h.1.1,h.2.1.1,h.2.2.1⟩,h.1.2,h.2.1.2,h.2.2.2⟩
theorem fAll_no:∀ {l:List F3},fAll l = no3 → ∀ x ∈ l,x = no3
 | [],_,x,hx => by cases hx
 | y :: r,h,x,hx => by
   rw [fAll_cons] at h
   obtain ⟨h1,h2⟩:=f3_eq_no h
   rcases List.mem_cons.1 hx with e | e
   ·rw [e]; exact h1
   ·exact fAll_no h2 x e
theorem fAll_of:∀ {l:List F3},(∀ x ∈ l,x = no3) → fAll l = no3
 | [],_ => rfl
 | y :: r,h => by
   rw [fAll_cons,h y (by simp),fAll_of (fun x hx => h x (by simp [hx]))]
   rfl
theorem bad3_eq {b:Bool} (h:bad3 b = no3):b = false:=by simp [bad3,no3] at h; exact h
theorem big3_eq {b:Bool} (h:big3 b = no3):b = false:=by simp [big3,no3] at h; exact h
theorem may_blk {num:Int} {b:List Int} (h1:1 ≤ num) (h2:num ≤ 536870911):mayF (blkF num b):=⟨h1,h2,.inr (.inr ⟨rfl,rfl⟩)⟩
theorem may_num {num x:Int} (h1:1 ≤ num) (h2:num ≤ 536870911):mayF (numF num x):=⟨h1,h2,.inl ⟨.inl rfl,rfl⟩⟩
theorem ok_blk {num:Int} {b:List Int} (h:isB b):okF (blkF num b):=⟨by simp [blkF],by simp [blkF],h⟩
theorem ok_num {num x:Int} (h0:0 ≤ x) (h1:x < 18446744073709551616):okF (numF num x):=⟨h0,h1,fun c hc => by cases hc⟩
def Wr (f:Fld):Prop:=mayF f ∧ okF f
theorem wr_blk {num:Int} {b:List Int} (h1:1 ≤ num) (h2:num ≤ 536870911) (h:isB b):Wr (blkF num b):=⟨may_blk h1 h2,ok_blk h⟩
theorem wr_num {num x:Int} (h1:1 ≤ num) (h2:num ≤ 536870911) (h0:0 ≤ x) (h3:x < 18446744073709551616):Wr (numF num x):=⟨may_num h1 h2,ok_num h0 h3⟩
theorem data_len {f:Fld} (h:mayF f):f.2.2.2.length ≤ (fieldB f).length:=by
 obtain ⟨_,_,h3⟩:=h
 unfold fieldB bodyB
 rcases h3 with ⟨_,hd⟩ | ⟨_,hd,_⟩ | ⟨hw,_⟩
 ·rw [hd]; simp
 ·rw [hd]; simp
 ·rw [hw,if_neg (by decide),if_neg (by decide),if_neg (by decide)]; simp; omega
theorem field_le:∀ {l:List Fld} {f:Fld},f ∈ l → (fieldB f).length ≤ (msgB l).length
 | x :: r,f,h => by
   have e:msgB (x :: r) = fieldB x ++ msgB r:=by simp [msgB]
   rw [e,List.length_append]
   rcases List.mem_cons.1 h with e | e
   ·subst e; omega
   ·have:=field_le e; omega
theorem blk_le {l:List Fld} {num:Int} {b:List Int} (h:blkF num b ∈ l) (h1:1 ≤ num) (h2:num ≤ 536870911):b.length ≤ (msgB l).length :=
 Nat.le_trans (data_len (f:=blkF num b) (may_blk h1 h2)) (field_le h)
theorem fields_msg {l:List Fld} (h:∀ f ∈ l,Wr f) (hl:(msgB l).length ≤ 4194304):fieldsP (msgB l) = (l,no3):=by
 have e:=readL_msg l [] (fun f hf => ⟨(h f hf).1,(h f hf).2,by have:=data_len (h f hf).1; have:=field_le hf; omega⟩)
 rw [List.append_nil,readL_nil] at e
 simp only [Option.map_some,List.append_nil] at e
 unfold fieldsP readV
 rw [if_neg (by omega),e]
 rfl
theorem wr_word {num:Int} {s:Str} (h1:1 ≤ num) (h2:num ≤ 536870911) (h:isB s):∀ f ∈ wordF num s,Wr f:=by
 unfold wordF
 split
 ·intro f hf; cases hf
 ·intro f hf
  simp at hf
  subst hf
  exact wr_blk h1 h2 h
theorem isB_flatO {α:Type} {g:α → List Int} {l:List α} (h:∀ x ∈ l,isB (g x)):isB (l.flatMap g):=fun c hc => by
 obtain ⟨x,hx,hc2⟩:=List.mem_flatMap.1 hc
 exact h x hx c hc2
theorem wr_pack {num:Int} {l:List Int} (h1:1 ≤ num) (h2:num ≤ 536870911):∀ f ∈ packF num l,Wr f:=by
 unfold packF
 split
 ·intro f hf; cases hf
 ·intro f hf
  simp at hf
  subst hf
  exact wr_blk h1 h2 (isB_flatO (fun x _ => varV_range (u64w_range x).1 (u64w_range x).2))
theorem msg_isB7:∀ {l:List Fld},(∀ f ∈ l,Wr f) → (msgB l).length < 18446744073709551616 → isB (msgB l)
 | [],_,_ => fun c hc => by simp [msgB] at hc
 | f :: r,h,hl => by
   have e:msgB (f :: r) = fieldB f ++ msgB r:=by simp [msgB]
   rw [e] at hl ⊢
   rw [List.length_append] at hl
   obtain ⟨h1,h2⟩:=h f (by simp)
   have hd:=data_len h1
   refine isB_append ?_ (msg_isB7 (fun g hg => h g (by simp [hg])) (by omega))
   obtain ⟨num,wire,x,d⟩:=f
   obtain ⟨m1,m2,m3⟩:=h1
   obtain ⟨o1,o2,o3⟩:=h2
   simp only at m1 m2 m3 o1 o2 o3 hd
   unfold fieldB bodyB
   refine isB_append (varV_range (by simp only; omega) (by simp only; omega)) ?_
   simp only
   split
   ·exact varV_range o1 o2
   ·split
    ·exact fxL_isB _ _
    ·split
     ·exact fxL_isB _ _
     ·exact isB_append (varV_range (by omega) (by omega)) o3
def i64B (x:Int):Prop:=-9223372036854775808 ≤ x ∧ x < 9223372036854775808
def okT (t:TenD):Prop:=i64B t.1 ∧ (∀ x ∈ t.2.1,i64B x) ∧ (∀ x ∈ t.2.2.1,0 ≤ x ∧ x < 4294967296) ∧ ∀ x ∈ t.2.2.2.1,i64B x
theorem raw_isB (t:TenD):isB (rawB t):=by
 unfold rawB
 refine isB_append (isB_append (isB_flatO (fun x _ => fxL_isB x 4)) (isB_flatO (fun x _ => fxL_isB _ 8))) (fun c hc => ?_)
 obtain ⟨b,_,rfl⟩:=List.mem_map.1 hc
 cases b <;> simp
theorem tens_wr {name:Str} {t:TenD} (hs:isB name):∀ f ∈ tensF name t,Wr f:=by
 intro f hf
 unfold tensF at hf
 simp only [List.mem_append,List.mem_singleton] at hf
 rcases hf with ((h | h) | h) | h
 ·exact wr_pack (by decide) (by decide) f h
 ·subst h; exact wr_num (by decide) (by decide) (u64w_range _).1 (u64w_range _).2
 ·exact wr_word (by decide) (by decide) hs f h
 ·subst h; exact wr_blk (by decide) (by decide) (raw_isB t)
theorem countF_pos:∀ (l:List Int) (n:Int),0 ≤ n → (∀ x ∈ l,0 ≤ x) → 0 ≤ (countF n l).1
 | [],n,h,_ => h
 | x :: r,n,h,hx => by
   unfold countF
   split
   ·simp
   ·split
    ·simp
    ·exact countF_pos r (n * x) (Int.mul_nonneg h (hx x (by simp))) (fun y hy => hx y (by simp [hy]))
theorem countV_pos (d:List Int):0 ≤ (countV d).1:=by
 unfold countV
 split
 ·simp
 ·rename_i h
  split
  ·simp
  ·split
   ·simp
   ·refine countF_pos d 1 (by decide) (fun x hx => ?_)
    simp only [Bool.not_eq_true,List.any_eq_false,decide_eq_true_eq] at h
    have:=h x hx
    omega
theorem known_cases {t:Int} (h:knownB t = true):t = 1 ∨ t = 7 ∨ t = 9:=by
 unfold knownB at h
 simp only [Bool.or_eq_true,beq_iff_eq] at h
 omega
def okA (x:AttrD):Prop:=isB x.1 ∧ i64B x.2.1 ∧ (0 ≤ x.2.2.1 ∧ x.2.2.1 < 4294967296) ∧ i64B x.2.2.2.1 ∧ isB x.2.2.2.2.1 ∧ okT x.2.2.2.2.2.1 ∧ (∀ y ∈ x.2.2.2.2.2.2.1,0 ≤ y ∧ y < 4294967296) ∧ ∀ y ∈ x.2.2.2.2.2.2.2,i64B y
theorem attr_wr {x:AttrD} (ho:okA x) (hl:(msgB (attrF x)).length ≤ 4194304):∀ f ∈ attrF x,Wr f:=by
 obtain ⟨name,k,f,i,s,t,fl,is⟩:=x
 obtain ⟨o1,o2,o3,o4,o5,o6,o7,o8⟩:=ho
 simp only at o1 o2 o3 o4 o5 o6 o7 o8
 intro g hg
 have hg0:=hg
 unfold attrF at hg
 simp only [List.mem_append,List.mem_singleton] at hg
 rcases hg with (h | h) | h
 ·exact wr_word (by decide) (by decide) o1 g h
 ·by_cases k1:k = 1
  ·rw [if_pos k1] at h
   simp at h
   subst h
   exact ⟨⟨show (1:Int) ≤ 2 by decide,show (2:Int) ≤ 536870911 by decide,.inr (.inl ⟨rfl,rfl,o3.2⟩)⟩,o3.1,by have:=o3.2; simp only; omega,fun c hc => by cases hc⟩
  ·rw [if_neg k1] at h
   by_cases k2:k = 2
   ·rw [if_pos k2] at h
    simp at h
    subst h
    exact wr_num (by decide) (by decide) (u64w_range _).1 (u64w_range _).2
   ·rw [if_neg k2] at h
    by_cases k3:k = 3
    ·rw [if_pos k3] at h
     simp at h
     subst h
     exact wr_blk (by decide) (by decide) o5
    ·rw [if_neg k3] at h
     by_cases k4:k = 4
     ·rw [if_pos k4] at h
      simp at h
      have hle:=blk_le (h ▸ hg0) (by decide) (by decide)
      subst h
      exact wr_blk (by decide) (by decide) (msg_isB7 (tens_wr (fun c hc => by cases hc)) (by omega))
     ·rw [if_neg k4] at h
      by_cases k6:k = 6
      ·rw [if_pos k6] at h
       by_cases h0:fl.length = 0
       ·rw [if_pos h0] at h; cases h
       ·rw [if_neg h0] at h
        simp at h
        subst h
        exact wr_blk (by decide) (by decide) (isB_flatO (fun x _ => fxL_isB x 4))
      ·rw [if_neg k6] at h
       by_cases k7:k = 7
       ·rw [if_pos k7] at h
        exact wr_pack (by decide) (by decide) g h
       ·rw [if_neg k7] at h; cases h
 ·subst h
  exact wr_num (by decide) (by decide) (u64w_range _).1 (u64w_range _).2
def okN (n:NodeD):Prop:=isB n.1 ∧ isB n.2.1 ∧ (∀ s ∈ n.2.2.1,isB s) ∧ (∀ s ∈ n.2.2.2.1,isB s) ∧ ∀ a ∈ n.2.2.2.2,okA a
def okV (v:ValD):Prop:=isB v.1 ∧ i64B v.2.1 ∧ ∀ x ∈ v.2.2,i64B x
def okI (x:InitD):Prop:=isB x.1 ∧ okT x.2
def okM (m:ModelD):Prop:=isB m.2.1 ∧ (∀ n ∈ m.2.2.1,okN n) ∧ (∀ x ∈ m.2.2.2.1,okI x) ∧ (∀ v ∈ m.2.2.2.2.1,okV v) ∧ ∀ v ∈ m.2.2.2.2.2,okV v
theorem blk_mem {k:Int} {b:List Int} {l:List Fld} (h:blkF k b ∈ l) (hl:(msgB l).length ≤ 4194304) (h1:1 ≤ k) (h2:k ≤ 536870911):b.length ≤ 4194304:=Nat.le_trans (blk_le h h1 h2) hl
theorem node_wr {n:NodeD} (ho:okN n) (hl:(msgB (nodeF n)).length ≤ 4194304):∀ f ∈ nodeF n,Wr f:=by
 obtain ⟨o1,o2,o3,o4,o5⟩:=ho
 intro f hf
 have hf0:=hf
 unfold nodeF at hf
 simp only [List.mem_append,List.mem_singleton,List.mem_map] at hf
 rcases hf with (((⟨s,hs,rfl⟩ | ⟨s,hs,rfl⟩) | h) | h) | ⟨a,ha,rfl⟩
 ·exact wr_blk (by decide) (by decide) (o3 s hs)
 ·exact wr_blk (by decide) (by decide) (o4 s hs)
 ·exact wr_word (by decide) (by decide) o2 f h
 ·subst h; exact wr_blk (by decide) (by decide) o1
 ·have hle:=blk_mem hf0 hl (by decide) (by decide)
  exact wr_blk (by decide) (by decide) (msg_isB7 (attr_wr (o5 a ha) hle) (by omega))
theorem map_eq_self {α:Type} {g:α → α} {l:List α} (h:∀ x ∈ l,g x = x):l.map g = l:=(List.map_congr_left h).trans (List.map_id l)
theorem countV_code (d:List Int):(countV d).2 = 0 ∨ (countV d).2 = 1 ∨ (countV d).2 = 8:=by
 have key:∀ (l:List Int) (n:Int),(countF n l).2 = 0 ∨ (countF n l).2 = 8:=by
  intro l
  induction l with
  | nil => intro n; exact .inl rfl
  | cons x r ih =>
    intro n
    unfold countF
    split
    ·exact .inr rfl
    ·split
     ·exact .inr rfl
     ·exact ih _
 unfold countV
 split
 ·exact .inr (.inl rfl)
 ·split
  ·exact .inr (.inr rfl)
  ·split
   ·exact .inl rfl
   ·rcases key d 1 with h | h
    ·exact .inl h
    ·exact .inr (.inr h)
theorem dimsW_no {d:List Int} (h:dimsW d = no3):(countV d).2 = 0:=by
 unfold dimsW at h
 obtain ⟨h1,h2⟩:=f3_eq_no h
 have h3:=bad3_eq h1
 have h4:=big3_eq h2
 rcases countV_code d with h | h | h
 ·exact h
 ·rw [h] at h3; exact absurd h3 (by decide)
 ·rw [h] at h4; exact absurd h4 (by decide)
theorem one_fields {f:Fld} (h:Wr f) (hl:(msgB [f]).length ≤ 4194304):fieldsP (msgB [f]) = ([f],no3):=fields_msg (fun g hg => by simp at hg; subst hg; exact h) hl
theorem wr_num1 (num x:Int) (h1:1 ≤ num) (h2:num ≤ 536870911):Wr (numF num (u64w x)):=wr_num h1 h2 (u64w_range _).1 (u64w_range _).2
theorem dim_back {x:Int} (h:i64B x) (hl:(msgB [numF 1 (u64w x)]).length ≤ 4194304):dimP (msgB [numF 1 (u64w x)]) = (x,no3):=by
 have hf:=one_fields (wr_num1 1 x (by decide) (by decide)) hl
 have p1:allV [numF 1 (u64w x)] 1 = [numF 1 (u64w x)]:=by rw [pk_one]; rfl
 have e:=whole_one p1
 rw [i64_u64 h.1 h.2] at e
 unfold dimP
 rw [hf]
 simp only [e,last_one (wire:=0) p1 rfl]
 rfl
theorem shape_wr {d:List Int} (hl:(msgB (shapeF d)).length ≤ 4194304):∀ f ∈ shapeF d,Wr f:=by
 intro f hf
 have hf0:=hf
 unfold shapeF at hf
 obtain ⟨x,_,rfl⟩:=List.mem_map.1 hf
 have hle:=blk_mem hf0 hl (by decide) (by decide)
 exact wr_blk (by decide) (by decide) (msg_isB7 (fun g hg => by simp at hg; subst hg; exact wr_num1 1 x (by decide) (by decide)) (by omega))
theorem shape_back {d:List Int} (ho:∀ x ∈ d,i64B x) (hw:dimsW d = no3) (hl:(msgB (shapeF d)).length ≤ 4194304):shapeP (msgB (shapeF d)) = (d,no3):=by
 have hf:=fields_msg (shape_wr hl) hl
 have hd:∀ x ∈ d,dimP (msgB [numF 1 (u64w x)]) = (x,no3):=fun x hx => dim_back (ho x hx) (blk_mem (k:=1) (l:=shapeF d) (List.mem_map.2 ⟨x,hx,rfl⟩) hl (by decide) (by decide))
 have p1:allV (shapeF d) 1 = d.map fun x => blkF 1 (msgB [numF 1 (u64w x)]):=by unfold shapeF; rw [pk_map,if_pos rfl]
 have hlen:(shapeF d).length = d.length:=by unfold shapeF; simp
 have e1:=each_map (most:=(shapeF d).length) p1 (by omega)
 have em:d.map ((fun x => (dimP x).1) ∘ fun x => msgB [numF 1 (u64w x)]) = d:=map_eq_self (fun x hx => by simp only [Function.comp_apply]; rw [hd x hx])
 have ed:dimsP d = ((d,true),no3):=by unfold dimsP; rw [dimsW_no hw]; rfl
 unfold shapeP
 rw [hf]
 simp only [e1,List.map_map,em,ed]
 refine Prod.ext rfl ?_
 simp only
 refine fAll_of (fun x hx => ?_)
 rcases List.mem_append.1 hx with h | h
 ·rcases List.mem_append.1 h with h | h
  ·simp only [List.mem_cons,List.not_mem_nil,or_false] at h
   rcases h with h | h <;> exact h
  ·obtain ⟨y,hy,rfl⟩:=List.mem_map.1 h
   simp only [Function.comp_apply]
   rw [hd y hy]
 ·simp only [List.mem_cons,List.not_mem_nil,or_false] at h
  exact h
def tenF (v:ValD):List Fld:=[numF 1 (u64w v.2.1),blkF 2 (msgB (shapeF v.2.2))]
theorem valF_eq (v:ValD):valF v = wordF 1 v.1 ++ [blkF 2 (msgB [blkF 1 (msgB (tenF v))])]:=rfl
theorem val_le {v:ValD} (hl:(msgB (valF v)).length ≤ 4194304):(msgB [blkF 1 (msgB (tenF v))]).length ≤ 4194304 ∧ (msgB (tenF v)).length ≤ 4194304 ∧ (msgB (shapeF v.2.2)).length ≤ 4194304:=by
 have h1:=blk_mem (k:=2) (b:=msgB [blkF 1 (msgB (tenF v))]) (l:=valF v) (by rw [valF_eq]; simp) hl (by decide) (by decide)
 have h2:=blk_mem (k:=1) (b:=msgB (tenF v)) (l:=[blkF 1 (msgB (tenF v))]) (by simp) h1 (by decide) (by decide)
 have h3:=blk_mem (k:=2) (b:=msgB (shapeF v.2.2)) (l:=tenF v) (by unfold tenF; simp) h2 (by decide) (by decide)
 exact ⟨h1,h2,h3⟩
theorem ten_wr {v:ValD} (hl:(msgB (shapeF v.2.2)).length ≤ 4194304):∀ f ∈ tenF v,Wr f:=by
 intro f hf
 unfold tenF at hf
 simp only [List.mem_cons,List.not_mem_nil,or_false] at hf
 rcases hf with rfl | rfl
 ·exact wr_num1 1 _ (by decide) (by decide)
 ·exact wr_blk (by decide) (by decide) (msg_isB7 (shape_wr hl) (by omega))
theorem sort_wr {v:ValD} (hl:(msgB (valF v)).length ≤ 4194304):Wr (blkF 1 (msgB (tenF v))):=by
 obtain ⟨h1,h2,h3⟩:=val_le hl
 exact wr_blk (by decide) (by decide) (msg_isB7 (ten_wr h3) (by omega))
theorem val_wr {v:ValD} (ho:okV v) (hl:(msgB (valF v)).length ≤ 4194304):∀ f ∈ valF v,Wr f:=by
 obtain ⟨h1,h2,h3⟩:=val_le hl
 intro f hf
 rw [valF_eq] at hf
 simp only [List.mem_append,List.mem_singleton] at hf
 rcases hf with h | h
 ·exact wr_word (by decide) (by decide) ho.1 f h
 ·subst h
  exact wr_blk (by decide) (by decide) (msg_isB7 (fun g hg => by simp at hg; subst hg; exact sort_wr hl) (by omega))
theorem graph_wr {m:ModelD} (ho:okM m) (hl:(msgB (graphF m)).length ≤ 4194304):∀ f ∈ graphF m,Wr f:=by
 obtain ⟨o1,o2,o3,o4,o5⟩:=ho
 intro f hf
 have hf0:=hf
 unfold graphF at hf
 simp only [List.mem_append,List.mem_map] at hf
 rcases hf with (((⟨n,hn,rfl⟩ | h) | ⟨x,hx,rfl⟩) | ⟨v,hv,rfl⟩) | ⟨v,hv,rfl⟩
 ·have hle:=blk_mem hf0 hl (by decide) (by decide)
  exact wr_blk (by decide) (by decide) (msg_isB7 (node_wr (o2 n hn) hle) (by omega))
 ·exact wr_word (by decide) (by decide) o1 f h
 ·have hle:=blk_mem hf0 hl (by decide) (by decide)
  exact wr_blk (by decide) (by decide) (msg_isB7 (tens_wr (o3 x hx).1) (by omega))
 ·have hle:=blk_mem hf0 hl (by decide) (by decide)
  exact wr_blk (by decide) (by decide) (msg_isB7 (val_wr (o4 v hv) hle) (by omega))
 ·have hle:=blk_mem hf0 hl (by decide) (by decide)
  exact wr_blk (by decide) (by decide) (msg_isB7 (val_wr (o5 v hv) hle) (by omega))
theorem sets_of {L:List Fld} {bs:List (List Int)} (he:eachP L 8 L.length = (bs,no3)) (hb:∀ b ∈ bs,(fieldsP b).2 = no3 ∧ (textP (fieldsP b).1 1).2 = no3 ∧ (wholeP (fieldsP b).1 2).2 = no3) (hv:versF 0 bs = 17):setsP L = no3:=by
 unfold setsP
 rw [he]
 simp only [hv]
 refine fAll_of (fun x hx => ?_)
 rcases List.mem_append.1 hx with hx | hx
 ·rcases List.mem_append.1 hx with hx | hx
  ·simp only [List.mem_cons,List.not_mem_nil,or_false] at hx
   exact hx
  ·obtain ⟨b,hb2,rfl⟩:=List.mem_map.1 hx
   obtain ⟨g1,g2,g3⟩:=hb b hb2
   rw [g1,g2,g3]
   rfl
 ·simp only [List.mem_cons,List.not_mem_nil,or_false] at hx
  rw [hx]
  rfl
theorem set17_bytes:msgB [numF 2 17] = [16,17]:=by decide +kernel
theorem checkM_no {m:ModelD} (h:checkM m = 0) (hodd:(modelW m).2.1 = false):modelW m = no3:=by
 unfold checkM at h
 by_cases h1:(modelW m).1 = true
 ·rw [if_pos h1] at h; exact absurd h (by decide)
 ·rw [if_neg h1] at h
  by_cases h2:(modelW m).2.2 = true
  ·rw [if_pos h2] at h; exact absurd h (by decide)
  ·generalize modelW m = w at h1 h2 hodd
   obtain ⟨a,b,c⟩:=w
   have e1:a = false:=by simpa using h1
   have e2:c = false:=by simpa using h2
   have e3:b = false:=hodd
   subst e1 e2 e3
   rfl
theorem f3_odd (a b:F3):(f3 a b).2.1 = (a.2.1 || b.2.1):=rfl
theorem fAll_odd:∀ {l:List F3},(∀ x ∈ l,x.2.1 = false) → (fAll l).2.1 = false
 | [],_ => rfl
 | x :: r,h => by
   rw [fAll_cons,f3_odd,h x (by simp),fAll_odd (fun y hy => h y (by simp [hy]))]
   rfl
theorem tensW_odd (t:TenD):(tensW t).2.1 = false:=by unfold tensW; split <;> rfl
theorem attrW_odd (x:AttrD):(attrW x).2.1 = false:=by
 unfold attrW
 refine fAll_odd (fun y hy => ?_)
 simp only [List.mem_cons,List.not_mem_nil,or_false] at hy
 rcases hy with h | h | h | h <;> rw [h]
 ·rfl
 ·rfl
 ·rfl
 ·split
  ·rfl
  ·split
   ·exact tensW_odd _
   ·rfl
theorem nodeW_odd (n:NodeD):(nodeW n).2.1 = false:=by
 unfold nodeW
 refine fAll_odd (fun y hy => ?_)
 simp only [List.mem_append,List.mem_cons,List.not_mem_nil,or_false,List.mem_map] at hy
 rcases hy with ((h | ⟨s,_,h⟩) | ⟨s,_,h⟩) | ⟨a,_,h⟩
 ·rcases h with h | h | h | h <;> rw [h] <;> rfl
 ·rw [← h]; rfl
 ·rw [← h]; rfl
 ·rw [← h]; exact attrW_odd a
theorem valuesW_odd (l:List ValD):(valuesW l).2.1 = false:=by
 unfold valuesW
 refine fAll_odd (fun y hy => ?_)
 rcases List.mem_cons.1 hy with h | h
 ·rw [h]; rfl
 ·obtain ⟨v,_,rfl⟩:=List.mem_map.1 h
  unfold valW
  refine fAll_odd (fun y hy => ?_)
  simp only [List.mem_cons,List.not_mem_nil,or_false] at hy
  rcases hy with h | h | h <;> rw [h] <;> rfl
theorem modelW_odd (m:ModelD):(modelW m).2.1 = false:=by
 unfold modelW
 refine fAll_odd (fun y hy => ?_)
 simp only [List.mem_append,List.mem_cons,List.not_mem_nil,or_false,List.mem_map] at hy
 rcases hy with ((h | ⟨n,_,h⟩) | ⟨x,_,h⟩) | h
 ·rcases h with h | h | h <;> rw [h] <;> rfl
 ·rw [← h]; exact nodeW_odd n
 ·rw [← h,f3_odd]; exact (by rw [tensW_odd]; rfl)
 ·rcases h with h | h <;> rw [h] <;> exact valuesW_odd _
theorem encode_ok {m:ModelD} (h:(encodeV m).2 = 0):modelW m = no3 ∧ (msgB (modelF m)).length ≤ 4194304 ∧ encodeV m = (msgB (modelF m),0):=by
 unfold encodeV at h ⊢
 by_cases h1:checkM m = 0
 ·rw [if_pos h1] at h ⊢
  by_cases h2:4194304 < (msgB (modelF m)).length
  ·rw [if_pos h2] at h; exact absurd h (by decide)
  ·rw [if_neg h2]
   exact ⟨checkM_no h1 (modelW_odd m),by omega,rfl⟩
 ·rw [if_neg h1] at h
  exact absurd h h1
theorem graph_le {m:ModelD} (hl:(msgB (modelF m)).length ≤ 4194304):(msgB (graphF m)).length ≤ (msgB (modelF m)).length:=blk_le (l:=modelF m) (num:=7) (by unfold modelF; simp) (by decide) (by decide)
theorem model_wr {m:ModelD} (ho:okM m) (hl:(msgB (modelF m)).length ≤ 4194304):∀ f ∈ modelF m,Wr f:=by
 intro f hf
 have hg:=graph_le hl
 unfold modelF at hf
 simp only [List.mem_cons,List.not_mem_nil,or_false] at hf
 rcases hf with rfl | rfl | rfl
 ·exact wr_num (by decide) (by decide) (by decide) (by decide)
 ·exact wr_blk (by decide) (by decide) (msg_isB7 (graph_wr ho (by omega)) (by omega))
 ·rw [set17_bytes]
  exact wr_blk (by decide) (by decide) (fun c hc => by simp at hc; omega)
theorem i64w_B (x:Int):i64B (i64w x):=by
 unfold i64B i64w
 rw [IntKind.wrap_i64]
 omega
def OkL (l:List Fld):Prop:=∀ f ∈ l,okF f
theorem fields_ok {b:List Int} (hb:isB b):OkL (fieldsP b).1:=by
 intro f hf
 unfold fieldsP readV at hf
 split at hf
 ·cases hf
 ·cases hl:readL b with
  | none => rw [hl] at hf; cases hf
  | some l =>
    rw [hl] at hf
    exact ((readF_may _ b l hb hl).1 f hf).2
theorem all_ok {l:List Fld} (h:OkL l) (num:Int):OkL (allV l num):=fun f hf => h f (List.mem_filter.1 hf).1
theorem noFld_ok:okF noFld:=⟨by decide,by decide,fun c hc => by cases hc⟩
theorem getD_ok {l:List Fld} (h:OkL l) (n:Nat):okF (l.getD n noFld):=by
 rw [List.getD_eq_getElem?_getD]
 cases hg:l[n]? with
 | none => exact noFld_ok
 | some f => exact h f (List.mem_of_getElem? hg)
theorem last_ok {l:List Fld} (h:OkL l) (num wire:Int):okF (lastV l num wire).1:=by
 unfold lastV
 split
 ·exact noFld_ok
 ·split
  ·exact noFld_ok
  ·exact getD_ok (all_ok h num) _
theorem message_ok {l:List Fld} (h:OkL l) (num:Int):isB (messageP l num).1.1:=by
 unfold messageP joinV
 simp only
 split
 ·exact fun c hc => by cases hc
 ·exact isB_flatO (fun f hf => (all_ok h num f hf).2.2)
theorem each_ok {l:List Fld} (h:OkL l) (num:Int) (most:Nat):∀ b ∈ (eachP l num most).1,isB b:=by
 intro b hb
 obtain ⟨f,hf,rfl⟩:=List.mem_map.1 hb
 exact (all_ok h num f hf).2.2
theorem ints_ok (l:List Fld) (num:Int):∀ x ∈ (intsP l num).1,i64B x:=by
 intro x hx
 obtain ⟨y,_,rfl⟩:=List.mem_map.1 hx
 exact i64w_B y
theorem le4 {d:List Int} (h:isB d) (hl:d.length ≤ 4):0 ≤ leV d ∧ leV d < 4294967296:=by
 obtain ⟨h0,h1⟩:=leV_range d h
 refine ⟨h0,Int.lt_of_lt_of_le h1 ?_⟩
 have:(256:Int) ^ d.length ≤ 256 ^ 4:=by
  have:=Nat.pow_le_pow_right (show 0 < 256 by decide) hl
  have h3:((256 ^ d.length:Nat):Int) ≤ ((256 ^ 4:Nat):Int):=Int.ofNat_le.2 this
  simpa using h3
 have e:(256:Int) ^ 4 = 4294967296:=by decide
 omega
theorem allOr_all {g:Fld → Option (List Int)} {p:Int → Prop}:∀ {l:List Fld} {xs:List Int},(∀ f ∈ l,∀ ys,g f = some ys → ∀ y ∈ ys,p y) → allOr g l = some xs → ∀ y ∈ xs,p y
 | [],xs,_,h => by simp only [allOr,Option.some.injEq] at h; subst h; intro y hy; cases hy
 | f :: r,xs,hp,h => by
   simp only [allOr] at h
   cases hg:g f with
   | none => rw [hg] at h; cases h
   | some a =>
     rw [hg] at h
     simp only at h
     cases hr:allOr g r with
     | none => rw [hr] at h; cases h
     | some b =>
       rw [hr] at h
       simp only [Option.map_some,Option.some.injEq] at h
       subst h
       intro y hy
       rcases List.mem_append.1 hy with h1 | h1
       ·exact hp f (by simp) a hg y h1
       ·exact allOr_all (fun f' hf' => hp f' (by simp [hf'])) hr y h1
theorem floats_ok {l:List Fld} (h:OkL l) (num:Int):∀ x ∈ (floatsP l num).1,0 ≤ x ∧ x < 4294967296:=by
 intro x hx
 unfold floatsP listV at hx
 cases hr:allOr fix1 (allV l num) with
 | none => rw [hr] at hx; cases hx
 | some xs =>
   rw [hr] at hx
   refine allOr_all (p:=fun x => 0 ≤ x ∧ x < 4294967296) (fun f hf ys hy y hy2 => ?_) hr x hx
   have hfo:=all_ok h num f hf
   unfold fix1 at hy
   split at hy
   ·simp only [Option.some.injEq] at hy; subst hy
    simp only [List.mem_singleton] at hy2
    omega
   ·split at hy
    ·simp only [Option.some.injEq] at hy; subst hy
     unfold fours at hy2
     obtain ⟨i,_,rfl⟩:=List.mem_map.1 hy2
     exact le4 (isB_take (isB_drop hfo.2.2 _) 4) (by simp; omega)
    ·cases hy
end Go.Proofs.YtmdlaahdgjegcaaGreat
