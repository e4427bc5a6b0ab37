import Derived.Test.YtnmciappielkcaaChecked
import Derived.Test.YtnmciappielkcaaV09
import Derived.Test.YtnmciappielkcaaV13
set_option maxRecDepth 100000
set_option maxHeartbeats 8000000
namespace Go.Proofs.Ytnmciappielkcaa
open Go.RowKit
set_option linter.unusedVariables false
def runL (P:Program) (ops:Array Oper):List Oper → Act → World → Option (Act × World)
 | [],a,w => some (a,w)
 | o :: r,a,w =>
   match Region.wanted o (yielded ops a.tmps) with
   | true =>
     match (execOp a.eval o).run P w with
     | .ok (.value v) w' => runL P ops r (a.put o.dst v) w'
     | .ok .skip w' => runL P ops r (a.put o.dst undef) w'
     | _ => none
   | false => runL P ops r (a.put o.dst undef) w
def runC (P:Program):Code → Act → World → Option (Exit × Act × World)
 | .skip,a,w => some (.normal,a,w)
 | .region _ ops false,a,w =>
   match runL P ops ops.toList a w with
   | some (a',w') => some (.normal,a',w')
   | none => none
 | .seq x y,a,w =>
   match runC P x a w with
   | some (.normal,a',w') => runC P y a' w'
   | some (.exit k,a',w') => some (.exit k,a',w')
   | some (.ret,a',w') => some (.ret,a',w')
   | _ => none
 | .cond c x y,a,w =>
   match a.eval c with
   | .bool true => runC P x a w
   | .bool false => runC P y a w
   | _ => none
 | .block id c,a,w =>
   match runC P c a w with
   | some (.normal,a',w') => some (.normal,a',w')
   | some (.exit k,a',w') => if k = id then some (.normal,a',w') else some (.exit k,a',w')
   | some (.ret,a',w') => some (.ret,a',w')
   | _ => none
 | .exit k,a,w => some (.exit k,a,w)
 | .ret,a,w => some (.ret,a,w)
 | _,_,_ => none
theorem runL_wp {P:Program} {ops:Array Oper} {Q:Exit → Act → World → Prop} {a':Act} {w':World} (hQ:Q .normal a' w'):∀ (l:List Oper) (a:Act) (w:World),runL P ops l a w = some (a',w') → wpList P ops Q l a w
 | [],a,w,h => by
   simp only [runL,Option.some.injEq,Prod.mk.injEq] at h
   obtain ⟨rfl,rfl⟩:=h
   exact hQ
 | o :: r,a,w,h => by
   unfold runL at h
   unfold wpList
   split at h
   ·rename_i hw
    rw [if_pos hw]
    refine .inl ?_
    unfold Oper.wp
    split at h
    ·rename_i v w1 he
     rw [he]
     exact runL_wp hQ r _ _ h
    ·rename_i w1 he
     rw [he]
     exact runL_wp hQ r _ _ h
    ·cases h
   ·rename_i hw
    rw [if_neg (by rw [hw]; decide)]
    exact runL_wp hQ r _ _ h
theorem runC_wp {P:Program}:∀ (c:Code) {Q:Exit → Act → World → Prop} (a:Act) (w:World) {e:Exit} {a':Act} {w':World},runC P c a w = some (e,a',w') → Q e a' w' → c.wp P Q a w
 | .skip,Q,a,w,e,a',w',h,hQ => by
   simp only [runC,Option.some.injEq,Prod.mk.injEq] at h
   obtain ⟨rfl,rfl,rfl⟩:=h
   exact wp_skip hQ
 | .region _ ops false,Q,a,w,e,a',w',h,hQ => by
   unfold runC at h
   split at h
   ·rename_i a1 w1 he
    simp only [Option.some.injEq,Prod.mk.injEq] at h
    obtain ⟨rfl,rfl,rfl⟩:=h
    exact wp_region_list (runL_wp hQ _ _ _ he)
   ·cases h
 | .region _ _ true,Q,a,w,e,a',w',h,hQ => by simp [runC] at h
 | .seq x y,Q,a,w,e,a',w',h,hQ => by
   unfold runC at h
   refine wp_seq ?_
   split at h
   ·rename_i a1 w1 he
    exact runC_wp x a w he (runC_wp y a1 w1 h hQ)
   ·rename_i k a1 w1 he
    simp only [Option.some.injEq,Prod.mk.injEq] at h
    obtain ⟨rfl,rfl,rfl⟩:=h
    exact runC_wp x a w he hQ
   ·rename_i a1 w1 he
    simp only [Option.some.injEq,Prod.mk.injEq] at h
    obtain ⟨rfl,rfl,rfl⟩:=h
    exact runC_wp x a w he hQ
   ·cases h
 | .cond c x y,Q,a,w,e,a',w',h,hQ => by
   unfold runC at h
   split at h
   ·rename_i hc
    exact wp_cond_true hc (runC_wp x a w h hQ)
   ·rename_i hc
    exact wp_cond_false hc (runC_wp y a w h hQ)
   ·cases h
 | .block id c,Q,a,w,e,a',w',h,hQ => by
   unfold runC at h
   refine wp_block ?_
   split at h
   ·rename_i a1 w1 he
    simp only [Option.some.injEq,Prod.mk.injEq] at h
    obtain ⟨rfl,rfl,rfl⟩:=h
    exact runC_wp c a w he hQ
   ·rename_i k a1 w1 he
    refine runC_wp c a w he ?_
    unfold Exit.inBlock
    by_cases hk:k = id
    ·rw [if_pos hk] at h
     simp only [Option.some.injEq,Prod.mk.injEq] at h
     obtain ⟨rfl,rfl,rfl⟩:=h
     simp only [if_pos hk]
     exact hQ
    ·rw [if_neg hk] at h
     simp only [Option.some.injEq,Prod.mk.injEq] at h
     obtain ⟨rfl,rfl,rfl⟩:=h
     simp only [if_neg hk]
     exact hQ
   ·rename_i a1 w1 he
    simp only [Option.some.injEq,Prod.mk.injEq] at h
    obtain ⟨rfl,rfl,rfl⟩:=h
    exact runC_wp c a w he hQ
   ·cases h
 | .exit k,Q,a,w,e,a',w',h,hQ => by
   simp only [runC,Option.some.injEq,Prod.mk.injEq] at h
   obtain ⟨rfl,rfl,rfl⟩:=h
   exact wp_exit hQ
 | .ret,Q,a,w,e,a',w',h,hQ => by
   simp only [runC,Option.some.injEq,Prod.mk.injEq] at h
   obtain ⟨rfl,rfl,rfl⟩:=h
   exact wp_ret hQ
 | .loop c,Q,a,w,e,a',w',h,hQ => by simp [runC] at h
 | .rangeFunc _ _ _ _,Q,a,w,e,a',w',h,hQ => by simp [runC] at h
 | .scope _,Q,a,w,e,a',w',h,hQ => by simp [runC] at h
 | .label _,Q,a,w,e,a',w',h,hQ => by simp [runC] at h
 | .goto _,Q,a,w,e,a',w',h,hQ => by simp [runC] at h
 | .refuse _,Q,a,w,e,a',w',h,hQ => by simp [runC] at h
def runF (P:Program) (f:FuncId) (args:Array Value) (w:World):Option (Bool × Result Value × World) :=
 match P.funcs[f]? with
 | some fn =>
   match fn.body with
   | some c =>
     match runC P c { tmps:=args ++ Array.replicate (fn.ntmps - args.size) undef,defers:=[] } w with
     | some (.ret,a,w') => some (a.defers.isEmpty,(results fn a.tmps).run P w',w')
     | some (.normal,a,w') => some (a.defers.isEmpty,(results fn a.tmps).run P w',w')
     | _ => none
   | none => none
 | none => none
theorem runF_calls {P:Program} {f:FuncId} {args:Array Value} {w:World} {R:Ending → World → Prop} {v:Value} {w':World} (h:runF P f args w = some (true,.ok v w',w')) (hR:R (.returned v) w'):Calls P f args w R:=by
 unfold runF at h
 split at h
 ·rename_i fn hf
  split at h
  ·rename_i c hc
   split at h
   ·rename_i a w1 he
    simp only [Option.some.injEq,Prod.mk.injEq,List.isEmpty_iff] at h
    obtain ⟨h1,h2,rfl⟩:=h
    exact calls_of_wp hf hc (runC_wp c _ _ he (bodyPost_ret h2 h1 hR))
   ·rename_i a w1 he
    simp only [Option.some.injEq,Prod.mk.injEq,List.isEmpty_iff] at h
    obtain ⟨h1,h2,rfl⟩:=h
    exact calls_of_wp hf hc (runC_wp c _ _ he (bodyPost_end h2 h1 hR))
   ·cases h
  ·cases h
 ·cases h
def pushAll (w:World):List (Array Value × TypeId) → World
 | [] => w
 | x :: r => pushAll (w.alloc (.cells x.1 x.2)) r
theorem pushAll_size:∀ (l:List (Array Value × TypeId)) (w:World),(pushAll w l).heap.size = w.heap.size + l.length
 | [],w => rfl
 | x :: r,w => by
   unfold pushAll
   rw [pushAll_size r]
   simp
   omega
theorem pushAll_below:∀ (l:List (Array Value × TypeId)) (w:World),Below w.heap.size w (pushAll w l)
 | [],w => Below.refl _ _
 | x :: r,w => by
   unfold pushAll
   exact bl_tr (al1p w _) (pushAll_below r _)
theorem pushAll_box:∀ (l:List (Array Value × TypeId)) (w:World) (k:Nat) (x:Array Value × TypeId),l[k]? = some x → Box (pushAll w l) (w.heap.size + k) x.1 x.2
 | [],w,k,x,h => by simp at h
 | y :: r,w,0,x,h => by
   simp only [List.getElem?_cons_zero,Option.some.injEq] at h
   subst h
   unfold pushAll
   exact (Box.new w y.1 y.2).below (pushAll_below r _)
 | y :: r,w,k + 1,x,h => by
   simp only [List.getElem?_cons_succ] at h
   have:=pushAll_box r (w.alloc (.cells y.1 y.2)) k x h
   unfold pushAll
   have e:(w.alloc (.cells y.1 y.2)).heap.size + k = w.heap.size + (k + 1):=by simp; omega
   rw [e] at this
   exact this
theorem flat_at8 {β:Type} {k:Nat} {cells:β → List Value} (hk:Wd k cells) (z:β):∀ (l:List β) (i j:Nat) (u:Value),i < l.length → (cells (l.getD i z))[j]? = some u → (l.flatMap cells)[i * k + j]? = some u
 | [],i,j,u,h,_ => by simp at h
 | x :: r,0,j,u,_,hu => by
   simp only [List.getD_cons_zero] at hu
   rw [List.flatMap_cons,Nat.zero_mul,Nat.zero_add,List.getElem?_append_left (List.getElem?_eq_some_iff.1 hu).1]
   exact hu
 | x :: r,i + 1,j,u,h,hu => by
   simp only [List.getD_cons_succ] at hu
   have:=flat_at8 hk z r i j u (by simpa using h) hu
   rw [List.flatMap_cons,List.getElem?_append_right (by rw [hk.2.1 x,Nat.add_mul]; omega),hk.2.1 x]
   have e:(i + 1) * k + j - k = i * k + j:=by rw [Nat.add_mul]; omega
   rw [e]; exact this
theorem rc_box {β:Type} {k:Nat} {cells:β → List Value} (hk:Wd k cells) (z:β) {w:World} {b:Nat} {cs:Array Value} {t:TypeId} {l:List β} (h:Box w b cs t) (hc:cs = (l.flatMap cells).toArray) (hl:l.length ≤ 9223372036854775807):Rc k cells z w (some ⟨b,0,none⟩) l.length l:=by
 refine ⟨Nat.le_refl _,hl,fun _ => ⟨b,0,rfl,h.lt,fun i hi j u hu => ?_⟩,fun h => by cases h⟩
 rw [h.cell,hc]
 have:=flat_at8 hk z l i j u hi hu
 have e:0 + i * k + j = i * k + j:=by omega
 rw [e,List.getElem?_toArray]; exact this
abbrev AtD:=Str × Int × Int × Int
def noAtD:AtD:=([],0,0,0)
def adCells (a:AtD):List Value:=[strV a.1,.int .i64 a.2.1,.int .i64 a.2.2.1,.int .i64 a.2.2.2]
theorem adWd:Wd 4 adCells:=⟨by decide,fun _ => rfl,fun a u hu => by simp [adCells] at hu; rcases hu with rfl | rfl | rfl | rfl <;> rfl⟩
abbrev RowD:=Str × Int × Int × Int × Int × List AtD
def noRowD:RowD:=([],0,0,0,0,[])
structure RoA where
 nm:Str
 a:Int
 b:Int
 c:Int
 d':Int
 ats:List AtD
 q:Option Addr
 k:Nat
def RoA.d (r:RoA):RowD:=(r.nm,r.a,r.b,r.c,r.d',r.ats)
def noRoA:RoA:=⟨[],0,0,0,0,[],none,0⟩
def roCells (r:RoA):List Value:=[strV r.nm,.int .i64 r.a,.int .i64 r.b,.int .i64 r.c,.int .i64 r.d',.slice r.q r.ats.length r.k]
theorem roWd:Wd 6 roCells:=⟨by decide,fun _ => rfl,fun a u hu => by simp [roCells] at hu; rcases hu with rfl | rfl | rfl | rfl | rfl | rfl <;> rfl⟩
def AdIn (w:World) (q:Option Addr) (k:Nat) (l:List AtD):Prop:=Rc 4 adCells noAtD w q k l ∧ Tag 69 0 w q l.length
theorem AdIn.kept {w w':World} {q:Option Addr} {k:Nat} {l:List AtD} (h:AdIn w q k l) (hb:Kept [69] 0 w w'):AdIn w' q k l:=⟨h.1.kept h.2 (by simp) hb,h.2.kept (by simp) hb⟩
theorem AdIn.nil (w:World):AdIn w none 0 []:=⟨Rc.nil w,Tag.nil _ _ _ _⟩
theorem AdIn.box {w:World} {b:Nat} {cs:Array Value} {l:List AtD} (h:Box w b cs 69) (hc:cs = (l.flatMap adCells).toArray) (hl:l.length ≤ 9223372036854775807):AdIn w (some ⟨b,0,none⟩) l.length l :=
 ⟨rc_box adWd noAtD h hc hl,fun _ => ⟨b,0,rfl,h.lt,.inr ⟨cs,h⟩⟩⟩
def RoIn (w:World) (r:RoA):Prop:=AdIn w r.q r.k r.ats
theorem RoIn.kept {w w':World} {r:RoA} (h:RoIn w r) (hb:Kept [69] 0 w w'):RoIn w' r:=AdIn.kept h hb
theorem RoIn.below {w w':World} {r:RoA} (h:RoIn w r) (hb:Below w.heap.size w w'):RoIn w' r:=h.kept (Kept.below hb)
def TabIn (w:World) (p:Option Addr) (c:Nat) (L:List RoA) (T:List RowD):Prop:=Rc 6 roCells noRoA w p c L ∧ (∀ x ∈ L,RoIn w x) ∧ L.map RoA.d = T
theorem TabIn.below {w w':World} {p:Option Addr} {c:Nat} {L:List RoA} {T:List RowD} (h:TabIn w p c L T) (hb:Below w.heap.size w w'):TabIn w' p c L T :=
 ⟨h.1.below hb,fun x hx => (h.2.1 x hx).below hb,h.2.2⟩
end Go.Proofs.Ytnmciappielkcaa
