import Derived.Test.YtkpmfkkfcikfhaaV10
import Derived.Test.YtkpmfkkfcikfhaaV11
import Derived.Test.YtkpmfkkfcikfhaaV13
set_option maxRecDepth 100000
set_option maxHeartbeats 8000000
namespace Go.Proofs.Ytkpmfkkfcikfhaa
open Go.RowKit
set_option linter.unusedVariables false
def pushAll (w:World):List (Array Value × TypeId) → World
 | [] => w
 | x :: r => pushAll (w.alloc (.cells x.1 x.2)) r
theorem pushAll_size:∀ (l:List (Array Value × TypeId)) (w:World),(pushAll w l).heap.size = w.heap.size + l.length
 | [],w => rfl
 | x :: r,w => by
   unfold pushAll
   rw [pushAll_size r]
   simp
   omega
theorem pushAll_below:∀ (l:List (Array Value × TypeId)) (w:World),Below w.heap.size w (pushAll w l)
 | [],w => Below.refl _ _
 | x :: r,w => by
   unfold pushAll
   exact bl_tr (al1p w _) (pushAll_below r _)
theorem pushAll_box:∀ (l:List (Array Value × TypeId)) (w:World) (k:Nat) (x:Array Value × TypeId),l[k]? = some x → Box (pushAll w l) (w.heap.size + k) x.1 x.2
 | [],w,k,x,h => by simp at h
 | y :: r,w,0,x,h => by
   simp only [List.getElem?_cons_zero,Option.some.injEq] at h
   subst h
   unfold pushAll
   exact (Box.new w y.1 y.2).below (pushAll_below r _)
 | y :: r,w,k + 1,x,h => by
   simp only [List.getElem?_cons_succ] at h
   have:=pushAll_box r (w.alloc (.cells y.1 y.2)) k x h
   unfold pushAll
   have e:(w.alloc (.cells y.1 y.2)).heap.size + k = w.heap.size + (k + 1):=by simp; omega
   rw [e] at this
   exact this
theorem flat_at8 {β:Type} {k:Nat} {cells:β → List Value} (hk:Wd k cells) (z:β):∀ (l:List β) (i j:Nat) (u:Value),i < l.length → (cells (l.getD i z))[j]? = some u → (l.flatMap cells)[i * k + j]? = some u
 | [],i,j,u,h,_ => by simp at h
 | x :: r,0,j,u,_,hu => by
   simp only [List.getD_cons_zero] at hu
   rw [List.flatMap_cons,Nat.zero_mul,Nat.zero_add,List.getElem?_append_left (List.getElem?_eq_some_iff.1 hu).1]
   exact hu
 | x :: r,i + 1,j,u,h,hu => by
   simp only [List.getD_cons_succ] at hu
   have:=flat_at8 hk z r i j u (by simpa using h) hu
   rw [List.flatMap_cons,List.getElem?_append_right (by rw [hk.2.1 x,Nat.add_mul]; omega),hk.2.1 x]
   have e:(i + 1) * k + j - k = i * k + j:=by rw [Nat.add_mul]; omega
   rw [e]; exact this
theorem rc_box {β:Type} {k:Nat} {cells:β → List Value} (hk:Wd k cells) (z:β) {w:World} {b:Nat} {cs:Array Value} {t:TypeId} {l:List β} (h:Box w b cs t) (hc:cs = (l.flatMap cells).toArray) (hl:l.length ≤ 9223372036854775807):Rc k cells z w (some ⟨b,0,none⟩) l.length l:=by
 refine ⟨Nat.le_refl _,hl,fun _ => ⟨b,0,rfl,h.lt,fun i hi j u hu => ?_⟩,fun h => by cases h⟩
 rw [h.cell,hc]
 have:=flat_at8 hk z l i j u hi hu
 have e:0 + i * k + j = i * k + j:=by omega
 rw [e,List.getElem?_toArray]; exact this
abbrev AtD:=Str × Int × Int × Int
def noAtD:AtD:=([],0,0,0)
def adCells (a:AtD):List Value:=[strV a.1,.int .i64 a.2.1,.int .i64 a.2.2.1,.int .i64 a.2.2.2]
theorem adWd:Wd 4 adCells:=⟨by decide,fun _ => rfl,fun a u hu => by simp [adCells] at hu; rcases hu with rfl | rfl | rfl | rfl <;> rfl⟩
abbrev RowD:=Str × Int × Int × Int × Int × List AtD
def noRowD:RowD:=([],0,0,0,0,[])
structure RoA where
 nm:Str
 a:Int
 b:Int
 c:Int
 d':Int
 ats:List AtD
 q:Option Addr
 k:Nat
def RoA.d (r:RoA):RowD:=(r.nm,r.a,r.b,r.c,r.d',r.ats)
def noRoA:RoA:=⟨[],0,0,0,0,[],none,0⟩
def roCells (r:RoA):List Value:=[strV r.nm,.int .i64 r.a,.int .i64 r.b,.int .i64 r.c,.int .i64 r.d',.slice r.q r.ats.length r.k]
theorem roWd:Wd 6 roCells:=⟨by decide,fun _ => rfl,fun a u hu => by simp [roCells] at hu; rcases hu with rfl | rfl | rfl | rfl | rfl | rfl <;> rfl⟩
def AdIn (w:World) (q:Option Addr) (k:Nat) (l:List AtD):Prop:=Rc 4 adCells noAtD w q k l ∧ Tag 62 0 w q l.length
theorem AdIn.kept {w w':World} {q:Option Addr} {k:Nat} {l:List AtD} (h:AdIn w q k l) (hb:Kept [62] 0 w w'):AdIn w' q k l:=⟨h.1.kept h.2 (by simp) hb,h.2.kept (by simp) hb⟩
theorem AdIn.nil (w:World):AdIn w none 0 []:=⟨Rc.nil w,Tag.nil _ _ _ _⟩
theorem AdIn.box {w:World} {b:Nat} {cs:Array Value} {l:List AtD} (h:Box w b cs 62) (hc:cs = (l.flatMap adCells).toArray) (hl:l.length ≤ 9223372036854775807):AdIn w (some ⟨b,0,none⟩) l.length l :=
 ⟨rc_box adWd noAtD h hc hl,fun _ => ⟨b,0,rfl,h.lt,.inr ⟨cs,h⟩⟩⟩
def RoIn (w:World) (r:RoA):Prop:=AdIn w r.q r.k r.ats
theorem RoIn.kept {w w':World} {r:RoA} (h:RoIn w r) (hb:Kept [62] 0 w w'):RoIn w' r:=AdIn.kept h hb
theorem RoIn.below {w w':World} {r:RoA} (h:RoIn w r) (hb:Below w.heap.size w w'):RoIn w' r:=h.kept (Kept.below hb)
def TabIn (w:World) (p:Option Addr) (c:Nat) (L:List RoA) (T:List RowD):Prop:=Rc 6 roCells noRoA w p c L ∧ (∀ x ∈ L,RoIn w x) ∧ L.map RoA.d = T
theorem TabIn.below {w w':World} {p:Option Addr} {c:Nat} {L:List RoA} {T:List RowD} (h:TabIn w p c L T) (hb:Below w.heap.size w w'):TabIn w' p c L T :=
 ⟨h.1.below hb,fun x hx => (h.2.1 x hx).below hb,h.2.2⟩
end Go.Proofs.Ytkpmfkkfcikfhaa
