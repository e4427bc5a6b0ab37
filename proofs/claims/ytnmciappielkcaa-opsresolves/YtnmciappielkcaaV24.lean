import Derived.Test.YtnmciappielkcaaV14
import Derived.Test.YtnmciappielkcaaV23
set_option maxRecDepth 100000
set_option maxHeartbeats 8000000
namespace Go.Proofs.Ytnmciappielkcaa
open Go.RowKit
set_option linter.unusedVariables false
set_option linter.unusedSimpArgs false
def OwL (kd:IntKind) (B g:Nat) (w:World) (p:Option Addr) (c:Nat) (xs:List Int):Prop :=
 Ints kd w p c xs ∧ ∀ b o,p = some ⟨b,o,none⟩ → 0 < xs.length → B ≤ b ∧ (b ≠ g ∧ b ≠ g + 1) ∧ ∀ i,i < xs.length → w.frozen? ⟨b,o + i,none⟩ = false
def OwB (B g:Nat) (w:World) (p:Option Addr) (c:Nat) (xs:List Bool):Prop :=
 Ls Value.bool w p c xs ∧ ∀ b o,p = some ⟨b,o,none⟩ → 0 < xs.length → B ≤ b ∧ (b ≠ g ∧ b ≠ g + 1) ∧ ∀ i,i < xs.length → w.frozen? ⟨b,o + i,none⟩ = false
theorem Ls.stay8 {α:Type} [Inhabited α] {f:α → Value} {g:Nat} {w w':World} {p:Option Addr} {c:Nat} {xs:List α} (h:Ls f w p c xs) (hn:∀ b o,p = some ⟨b,o,none⟩ → 0 < xs.length → b ≠ g) (hs:Stay g w w'):Ls f w' p c xs:=by
 obtain ⟨h1,h2,h4,h5⟩:=h
 refine ⟨h1,h2,fun hp => ?_,h5⟩
 obtain ⟨b,o,e,g1,g2⟩:=h4 hp
 exact ⟨b,o,e,Nat.lt_of_lt_of_le g1 hs.1.size,fun i hi => (World.cell?_of_block (w:=w) (hs.block (hn b o e hp) g1)).trans (g2 i hi)⟩
theorem OwL.stay {kd:IntKind} {B g:Nat} {w w':World} {p:Option Addr} {c:Nat} {xs:List Int} (h:OwL kd B g w p c xs) (hs:Stay g w w'):OwL kd B g w' p c xs:=by
 refine ⟨(h.1.ls.stay8 (fun b o e hp => (h.2 b o e hp).2.1.1) hs).ints h.1.2.2.1,fun b o e hp => ?_⟩
 obtain ⟨h1,h2,h3⟩:=h.2 b o e hp
 obtain ⟨b',o',e',hb,_⟩:=h.1.ls.lies hp
 have e2:=e
 rw [e] at e'
 simp only [Option.some.injEq,Addr.mk.injEq] at e'
 obtain ⟨rfl,rfl,_⟩:=e'
 exact ⟨h1,h2,fun i hi => (World.frozen?_of_block (w:=w) (hs.block h2.1 hb)).trans (h3 i hi)⟩
theorem OwB.stay {B g:Nat} {w w':World} {p:Option Addr} {c:Nat} {xs:List Bool} (h:OwB B g w p c xs) (hs:Stay g w w'):OwB B g w' p c xs:=by
 refine ⟨h.1.stay8 (fun b o e hp => (h.2 b o e hp).2.1.1) hs,fun b o e hp => ?_⟩
 obtain ⟨h1,h2,h3⟩:=h.2 b o e hp
 obtain ⟨b',o',e',hb,_⟩:=h.1.lies hp
 have e2:=e
 rw [e] at e'
 simp only [Option.some.injEq,Addr.mk.injEq] at e'
 obtain ⟨rfl,rfl,_⟩:=e'
 exact ⟨h1,h2,fun i hi => (World.frozen?_of_block (w:=w) (hs.block h2.1 hb)).trans (h3 i hi)⟩
theorem OwL.nil (kd:IntKind) (B g:Nat) (w:World):OwL kd B g w none 0 []:=⟨⟨by simp,by omega,by simp,by simp,fun _ => rfl⟩,fun b o e => by cases e⟩
theorem OwB.nil (B g:Nat) (w:World):OwB B g w none 0 []:=⟨Ls.nil w,fun b o e => by cases e⟩
theorem OwL.stay1 {kd:IntKind} {B g:Nat} {w w':World} {p:Option Addr} {c:Nat} {xs:List Int} (h:OwL kd B g w p c xs) (hs:Stay (g + 1) w w'):OwL kd B g w' p c xs:=by
 refine ⟨(h.1.ls.stay8 (fun b o e hp => (h.2 b o e hp).2.1.2) hs).ints h.1.2.2.1,fun b o e hp => ?_⟩
 obtain ⟨h1,h2,h3⟩:=h.2 b o e hp
 obtain ⟨b',o',e',hb,_⟩:=h.1.ls.lies hp
 have e2:=e
 rw [e] at e'
 simp only [Option.some.injEq,Addr.mk.injEq] at e'
 obtain ⟨rfl,rfl,_⟩:=e'
 exact ⟨h1,h2,fun i hi => (World.frozen?_of_block (w:=w) (hs.block h2.2 hb)).trans (h3 i hi)⟩
theorem OwB.stay1 {B g:Nat} {w w':World} {p:Option Addr} {c:Nat} {xs:List Bool} (h:OwB B g w p c xs) (hs:Stay (g + 1) w w'):OwB B g w' p c xs:=by
 refine ⟨h.1.stay8 (fun b o e hp => (h.2 b o e hp).2.1.2) hs,fun b o e hp => ?_⟩
 obtain ⟨h1,h2,h3⟩:=h.2 b o e hp
 obtain ⟨b',o',e',hb,_⟩:=h.1.lies hp
 have e2:=e
 rw [e] at e'
 simp only [Option.some.injEq,Addr.mk.injEq] at e'
 obtain ⟨rfl,rfl,_⟩:=e'
 exact ⟨h1,h2,fun i hi => (World.frozen?_of_block (w:=w) (hs.block h2.2 hb)).trans (h3 i hi)⟩
def TenO (B g:Nat) (w:World) (T:Ten) (A:TA):Prop :=
 (Lit.int .i64 T.1).wf = true ∧ OwL .i64 B g w A.pd A.cd T.2.1 ∧ OwL .u32 B g w A.pf A.cf T.2.2.1 ∧ OwL .i64 B g w A.pi A.ci T.2.2.2.1 ∧ OwB B g w A.pb A.cb T.2.2.2.2
theorem TenO.stay {B g:Nat} {w w':World} {T:Ten} {A:TA} (h:TenO B g w T A) (hs:Stay g w w'):TenO B g w' T A:=⟨h.1,h.2.1.stay hs,h.2.2.1.stay hs,h.2.2.2.1.stay hs,h.2.2.2.2.stay hs⟩
theorem TenO.inn {B g:Nat} {w:World} {T:Ten} {A:TA} (h:TenO B g w T A):TenIn w T A:=⟨h.1,h.2.1.1,h.2.2.1.1,h.2.2.2.1.1,h.2.2.2.2.1⟩
structure FV where
 k:Nat
 x:Int
 y:Bool
 xs:List Int
 T:Ten
def FV.i (x:Int):FV:=⟨0,x,false,[],noTen⟩
def FV.u (x:Int):FV:=⟨1,x,false,[],noTen⟩
def FV.b (x:Bool):FV:=⟨2,0,x,[],noTen⟩
def FV.l (xs:List Int):FV:=⟨3,0,false,xs,noTen⟩
def FV.t (T:Ten):FV:=⟨4,0,false,[],T⟩
abbrev SeD:=Nat → FV
def FIn (B g:Nat) (w:World) (cs:Array Value) (k:Nat):FV → Prop
 | ⟨0,x,_,_,_⟩ => cs[k]? = some (.int .i64 x) ∧ (Lit.int .i64 x).wf = true
 | ⟨1,x,_,_,_⟩ => cs[k]? = some (.int .u32 x) ∧ (Lit.int .u32 x).wf = true
 | ⟨2,_,x,_,_⟩ => cs[k]? = some (.bool x)
 | ⟨3,_,_,xs,_⟩ => ∃ p c,cs[k]? = some (.slice p xs.length c) ∧ OwL .i64 B g w p c xs
 | ⟨_ + 4,_,_,_,T⟩ => ∃ A:TA,(cs[k]? = some (.int .i64 T.1) ∧ cs[k + 1]? = some (.slice A.pd T.2.1.length A.cd) ∧ cs[k + 2]? = some (.slice A.pf T.2.2.1.length A.cf) ∧ cs[k + 3]? = some (.slice A.pi T.2.2.2.1.length A.ci) ∧ cs[k + 4]? = some (.slice A.pb T.2.2.2.2.length A.cb)) ∧ TenO B g w T A
def kindF:FV → Nat
 | ⟨0,_,_,_,_⟩ => 0
 | ⟨1,_,_,_,_⟩ => 1
 | ⟨2,_,_,_,_⟩ => 2
 | ⟨3,_,_,_,_⟩ => 3
 | ⟨_ + 4,_,_,_,_⟩ => 4
def kindsK:List Nat:=[0,3,2,2,2,2,2,3,2,1,1,1,2,2,2,0,0,2,2,0,3,3,3,3,0,2,2,0,0,0,2,4]
def SeIn (B g:Nat) (w:World) (cs:Array Value) (D:SeD):Prop:=cs.size = 36 ∧ ∀ k,k ≤ 31 → FIn B g w cs k (D k) ∧ kindF (D k) = kindsK.getD k 0
theorem FIn.stay {B g:Nat} {w w':World} {cs:Array Value} {k:Nat}:∀ {f:FV},FIn B g w cs k f → Stay g w w' → FIn B g w' cs k f
 | ⟨0,_,_,_,_⟩,h,_ => h
 | ⟨1,_,_,_,_⟩,h,_ => h
 | ⟨2,_,_,_,_⟩,h,_ => h
 | ⟨3,_,_,_,_⟩,⟨p,c,h1,h2⟩,hs => ⟨p,c,h1,h2.stay hs⟩
 | ⟨_ + 4,_,_,_,_⟩,⟨A,h1,h2⟩,hs => ⟨A,h1,h2.stay hs⟩
theorem FIn.stay1 {B g:Nat} {w w':World} {cs:Array Value} {k:Nat}:∀ {f:FV},FIn B g w cs k f → Stay (g + 1) w w' → FIn B g w' cs k f
 | ⟨0,_,_,_,_⟩,h,_ => h
 | ⟨1,_,_,_,_⟩,h,_ => h
 | ⟨2,_,_,_,_⟩,h,_ => h
 | ⟨3,_,_,_,_⟩,⟨p,c,h1,h2⟩,hs => ⟨p,c,h1,h2.stay1 hs⟩
 | ⟨_ + 4,_,_,_,_⟩,⟨A,h1,h2⟩,hs => ⟨A,h1,h2.1,h2.2.1.stay1 hs,h2.2.2.1.stay1 hs,h2.2.2.2.1.stay1 hs,h2.2.2.2.2.stay1 hs⟩
theorem SeIn.stay {B g:Nat} {w w':World} {cs:Array Value} {D:SeD} (h:SeIn B g w cs D) (hs:Stay g w w'):SeIn B g w' cs D:=⟨h.1,fun k hk => ⟨(h.2 k hk).1.stay hs,(h.2 k hk).2⟩⟩
def updD (D:SeD) (k:Nat) (f:FV):SeD:=fun j => if j = k then f else D j
theorem set_other {cs:Array Value} {k j:Nat} (h:j ≠ k) (v:Value):(cs.setIfInBounds k v)[j]? = cs[j]?:=by
 rw [Array.getElem?_setIfInBounds]
 rw [if_neg (fun e => h e.symm)]
theorem set_same {cs:Array Value} {k:Nat} (h:k < cs.size) (v:Value):(cs.setIfInBounds k v)[k]? = some v:=by
 rw [Array.getElem?_setIfInBounds]
 simp [h]
theorem FIn.other {B g:Nat} {w:World} {cs:Array Value} {k j:Nat} (hk:k ≤ 30) (hj:j ≤ 31) (hne:j ≠ k) (v:Value):∀ {f:FV},(kindF f = 4 → j = 31) → FIn B g w cs j f → FIn B g w (cs.setIfInBounds k v) j f
 | ⟨0,_,_,_,_⟩,_,h => ⟨(set_other hne v).trans h.1,h.2⟩
 | ⟨1,_,_,_,_⟩,_,h => ⟨(set_other hne v).trans h.1,h.2⟩
 | ⟨2,_,_,_,_⟩,_,h => (set_other hne v).trans h
 | ⟨3,_,_,_,_⟩,_,⟨p,c,h1,h2⟩ => ⟨p,c,(set_other hne v).trans h1,h2⟩
 | ⟨_ + 4,_,_,_,_⟩,h4,⟨A,⟨h0,h1,h2,h3,h5⟩,h6⟩ => by
   have:=h4 rfl
   subst this
   exact ⟨A,⟨(set_other hne v).trans h0,(set_other (by omega) v).trans h1,(set_other (by omega) v).trans h2,(set_other (by omega) v).trans h3,(set_other (by omega) v).trans h5⟩,h6⟩
theorem kind_31:∀ j,j ≤ 31 → kindsK.getD j 0 = 4 → j = 31:=by decide
theorem SeIn.set {B g:Nat} {w:World} {cs:Array Value} {D:SeD} {k:Nat} {f:FV} {v:Value} (h:SeIn B g w cs D) (hk:k ≤ 30) (hv:FIn B g w (cs.setIfInBounds k v) k f) (hf:kindF f = kindsK.getD k 0):SeIn B g w (cs.setIfInBounds k v) (updD D k f):=by
 refine ⟨by simp [h.1],fun j hj => ?_⟩
 unfold updD
 by_cases e:j = k
 ·subst e; rw [if_pos rfl]; exact ⟨hv,hf⟩
 ·rw [if_neg e]
  exact ⟨FIn.other hk hj e v (fun h4 => kind_31 j hj ((h.2 j hj).2.symm.trans h4)) (h.2 j hj).1,(h.2 j hj).2⟩
def set5 (cs:Array Value) (v0 v1 v2 v3 v4:Value):Array Value:=((((cs.setIfInBounds 31 v0).setIfInBounds 32 v1).setIfInBounds 33 v2).setIfInBounds 34 v3).setIfInBounds 35 v4
theorem set5_other {cs:Array Value} {j:Nat} (hj:j ≤ 30) (v0 v1 v2 v3 v4:Value):(set5 cs v0 v1 v2 v3 v4)[j]? = cs[j]?:=by
 unfold set5
 rw [set_other (by omega),set_other (by omega),set_other (by omega),set_other (by omega),set_other (by omega)]
theorem FIn.other5 {B g:Nat} {w:World} {cs:Array Value} {j:Nat} (hj:j ≤ 30) (v0 v1 v2 v3 v4:Value):∀ {f:FV},kindF f ≠ 4 → FIn B g w cs j f → FIn B g w (set5 cs v0 v1 v2 v3 v4) j f
 | ⟨0,_,_,_,_⟩,_,h => ⟨(set5_other hj _ _ _ _ _).trans h.1,h.2⟩
 | ⟨1,_,_,_,_⟩,_,h => ⟨(set5_other hj _ _ _ _ _).trans h.1,h.2⟩
 | ⟨2,_,_,_,_⟩,_,h => (set5_other hj _ _ _ _ _).trans h
 | ⟨3,_,_,_,_⟩,_,⟨p,c,h1,h2⟩ => ⟨p,c,(set5_other hj _ _ _ _ _).trans h1,h2⟩
 | ⟨_ + 4,_,_,_,_⟩,h,_ => absurd rfl h
theorem kind_30:∀ j,j ≤ 30 → kindsK.getD j 0 ≠ 4:=by decide
theorem SeIn.setT {B g:Nat} {w:World} {cs:Array Value} {D:SeD} {T:Ten} {A:TA} (h:SeIn B g w cs D) (hT:TenO B g w T A) :
  SeIn B g w (set5 cs (.int .i64 T.1) (.slice A.pd T.2.1.length A.cd) (.slice A.pf T.2.2.1.length A.cf) (.slice A.pi T.2.2.2.1.length A.ci) (.slice A.pb T.2.2.2.2.length A.cb)) (updD D 31 (.t T)):=by
 have hs:=h.1
 refine ⟨by simp [set5,hs],fun j hj => ?_⟩
 unfold updD
 by_cases e:j = 31
 ·subst e
  rw [if_pos rfl]
  refine ⟨⟨A,⟨?_,?_,?_,?_,?_⟩,hT⟩,rfl⟩
  ·unfold set5; rw [set_other (by omega),set_other (by omega),set_other (by omega),set_other (by omega),set_same (by omega)]
  ·unfold set5; rw [set_other (by omega),set_other (by omega),set_other (by omega),set_same (by simp; omega)]
  ·unfold set5; rw [set_other (by omega),set_other (by omega),set_same (by simp; omega)]
  ·unfold set5; rw [set_other (by omega),set_same (by simp; omega)]
  ·unfold set5; rw [set_same (by simp; omega)]
 ·rw [if_neg e]
  exact ⟨FIn.other5 (by omega) _ _ _ _ _ (by rw [(h.2 j hj).2]; exact kind_30 j (by omega)) (h.2 j hj).1,(h.2 j hj).2⟩
theorem Stay.set8 {g j:Nat} {w:World} (v:Value):Stay g w (w.setCell ⟨g,j,none⟩ v) :=
 ⟨(Below.refl g w).setCell (Nat.le_refl _) v,fun k h1 h2 => Below.heap_setCell w ⟨g,j,none⟩ v k (by simp; omega)⟩
theorem Box.some8 {w:World} {g:Nat} {cs:Array Value} {t:TypeId} (h:Box w g cs t) {k:Nat} (hk:k < cs.size):∃ v,w.cell? ⟨g,k,none⟩ = some v:=⟨cs[k],by rw [h.cell]; simp [hk]⟩
def SeB (B g:Nat) (w:World) (D:SeD):Prop:=∃ cs,Box w g cs 35 ∧ SeIn B g w cs D
theorem SeB.stay {B g:Nat} {w w':World} {D:SeD} (h:SeB B g w D) (hb:Below w.heap.size w w'):SeB B g w' D:=by
 obtain ⟨cs,h1,h2⟩:=h
 exact ⟨cs,h1.below hb,h2.stay (Stay.below hb (Nat.le_of_lt h1.lt))⟩
theorem SeB.stay1 {B g:Nat} {w w':World} {D:SeD} (h:SeB B g w D) (hb:Stay (g + 1) w w'):SeB B g w' D:=by
 obtain ⟨cs,h1,h2⟩:=h
 exact ⟨cs,(hb.block (by omega) h1.lt).trans h1,h2.1,fun k hk => ⟨(h2.2 k hk).1.stay1 hb,(h2.2 k hk).2⟩⟩
theorem SeB.lt {B g:Nat} {w:World} {D:SeD} (h:SeB B g w D):g < w.heap.size:=by obtain ⟨cs,h1,_⟩:=h; exact h1.lt
theorem SeB.facts {B g:Nat} {w:World} {D:SeD} (h:SeB B g w D) (k:Nat) (hk:k < 36):(∃ v,w.cell? ⟨g,k,none⟩ = some v) ∧ w.frozen? ⟨g,k,none⟩ = false:=by
 obtain ⟨cs,h1,h2⟩:=h
 exact ⟨h1.some8 (by rw [h2.1]; exact hk),h1.frozen k⟩
theorem SeB.put {B g:Nat} {w:World} {D:SeD} (h:SeB B g w D) {k:Nat} {f:FV} {v:Value} (hk:k ≤ 30) (hf:kindF f = kindsK.getD k 0) (hv:∀ cs:Array Value,cs.size = 36 → FIn B g (w.setCell ⟨g,k,none⟩ v) (cs.setIfInBounds k v) k f):SeB B g (w.setCell ⟨g,k,none⟩ v) (updD D k f) ∧ Stay g w (w.setCell ⟨g,k,none⟩ v):=by
 obtain ⟨cs,h1,h2⟩:=h
 exact ⟨⟨_,h1.same k v,(h2.stay (Stay.set8 v)).set hk (hv cs h2.1) hf⟩,Stay.set8 v⟩
theorem SeB.putI {B g:Nat} {w:World} {D:SeD} (h:SeB B g w D) (k:Nat) (x:Int) (hx:(Lit.int .i64 x).wf = true) (hk:k ≤ 30) (hf:kindsK.getD k 0 = 0):SeB B g (w.setCell ⟨g,k,none⟩ (.int .i64 x)) (updD D k (.i x)) ∧ Stay g w (w.setCell ⟨g,k,none⟩ (.int .i64 x)) :=
 h.put hk hf.symm (fun cs hs => ⟨set_same (by omega) _,hx⟩)
theorem SeB.putU {B g:Nat} {w:World} {D:SeD} (h:SeB B g w D) (k:Nat) (x:Int) (hx:(Lit.int .u32 x).wf = true) (hk:k ≤ 30) (hf:kindsK.getD k 0 = 1):SeB B g (w.setCell ⟨g,k,none⟩ (.int .u32 x)) (updD D k (.u x)) ∧ Stay g w (w.setCell ⟨g,k,none⟩ (.int .u32 x)) :=
 h.put hk hf.symm (fun cs hs => ⟨set_same (by omega) _,hx⟩)
theorem SeB.putB {B g:Nat} {w:World} {D:SeD} (h:SeB B g w D) (k:Nat) (x:Bool) (hk:k ≤ 30) (hf:kindsK.getD k 0 = 2):SeB B g (w.setCell ⟨g,k,none⟩ (.bool x)) (updD D k (.b x)) ∧ Stay g w (w.setCell ⟨g,k,none⟩ (.bool x)) :=
 h.put hk hf.symm (fun cs hs => set_same (by omega) _)
theorem SeB.putL {B g:Nat} {w:World} {D:SeD} (h:SeB B g w D) (k:Nat) (p:Option Addr) (c:Nat) (xs:List Int) (hx:OwL .i64 B g w p c xs) (hk:k ≤ 30) (hf:kindsK.getD k 0 = 3):SeB B g (w.setCell ⟨g,k,none⟩ (.slice p xs.length c)) (updD D k (.l xs)) ∧ Stay g w (w.setCell ⟨g,k,none⟩ (.slice p xs.length c)) :=
 h.put hk hf.symm (fun cs hs => ⟨p,c,set_same (by omega) _,hx.stay (Stay.set8 _)⟩)
theorem SeB.putT {B g:Nat} {w:World} {D:SeD} (h:SeB B g w D) (T:Ten) (A:TA) (hT:TenO B g w T A) :
  SeB B g (((((w.setCell ⟨g,31,none⟩ (.int .i64 T.1)).setCell ⟨g,32,none⟩ (.slice A.pd T.2.1.length A.cd)).setCell ⟨g,33,none⟩ (.slice A.pf T.2.2.1.length A.cf)).setCell ⟨g,34,none⟩ (.slice A.pi T.2.2.2.1.length A.ci)).setCell ⟨g,35,none⟩ (.slice A.pb T.2.2.2.2.length A.cb)) (updD D 31 (.t T)) ∧
   Stay g w (((((w.setCell ⟨g,31,none⟩ (.int .i64 T.1)).setCell ⟨g,32,none⟩ (.slice A.pd T.2.1.length A.cd)).setCell ⟨g,33,none⟩ (.slice A.pf T.2.2.1.length A.cf)).setCell ⟨g,34,none⟩ (.slice A.pi T.2.2.2.1.length A.ci)).setCell ⟨g,35,none⟩ (.slice A.pb T.2.2.2.2.length A.cb)):=by
 obtain ⟨cs,h1,h2⟩:=h
 have b0:=h1.same 31 (.int .i64 T.1)
 have b1:=b0.same 32 (.slice A.pd T.2.1.length A.cd)
 have b2:=b1.same 33 (.slice A.pf T.2.2.1.length A.cf)
 have b3:=b2.same 34 (.slice A.pi T.2.2.2.1.length A.ci)
 have b4:=b3.same 35 (.slice A.pb T.2.2.2.2.length A.cb)
 have s0:Stay g w (w.setCell ⟨g,31,none⟩ (.int .i64 T.1)):=Stay.set8 _
 have s1:=s0.trans (Stay.set8 (j:=32) (.slice A.pd T.2.1.length A.cd))
 have s2:=s1.trans (Stay.set8 (j:=33) (.slice A.pf T.2.2.1.length A.cf))
 have s3:=s2.trans (Stay.set8 (j:=34) (.slice A.pi T.2.2.2.1.length A.ci))
 have s4:=s3.trans (Stay.set8 (j:=35) (.slice A.pb T.2.2.2.2.length A.cb))
 exact ⟨⟨_,b4,(h2.stay s4).setT (hT.stay s4)⟩,s4⟩
theorem str_lit8 (s:Str) (hs:isB s) (t:Str) (ht:isB t) (l:List UInt8) (hl:(t.map fun n => UInt8.ofNat n.toNat) = l):((strOfNums s).toList == l) = decide (s = t):=by
 rw [← hl,← str_list8]; exact str_eq8 hs ht
theorem isB_of {t:Str} (h:t.all (fun c => decide (0 ≤ c) && decide (c < 256)) = true):isB t:=fun c hc => by
 have:=List.all_eq_true.1 h c hc
 simpa using this
theorem lit_no8 {s:Str} (hs:isB s) (t:Str) (ht:t.all (fun c => decide (0 ≤ c) && decide (c < 256)) = true) (l:List UInt8) (hl:(t.map fun n => UInt8.ofNat n.toNat) = l) (h:¬ s = t):((strOfNums s).toList == l) = false:=by
 rw [str_lit8 s hs t (isB_of ht) l hl]; simp [h]
def flagK (nm:Str):Option Nat :=
 if nm = [100,101,116,101,99,116,95,110,101,103,97,116,105,118,101] then some 12 else if nm = [100,101,116,101,99,116,95,112,111,115,105,116,105,118,101] then some 13 else if nm = [102,109,111,100] then some 14 else if nm = [97,108,108,111,119,122,101,114,111] then some 6 else if nm = [107,101,101,112,100,105,109,115] then some 3 else if nm = [110,111,111,112,95,119,105,116,104,95,101,109,112,116,121,95,97,120,101,115] then some 4 else if nm = [115,101,108,101,99,116,95,108,97,115,116,95,105,110,100,101,120] then some 5 else if nm = [116,114,97,110,115,65] then some 17 else if nm = [116,114,97,110,115,66] then some 18 else if nm = [99,101,105,108,95,109,111,100,101] then some 25 else if nm = [99,111,117,110,116,95,105,110,99,108,117,100,101,95,112,97,100] then some 26 else none
def flagD (nm:Str) (y:Bool) (D:SeD):SeD :=
 match flagK nm with
 | some k => updD D k (.b y)
 | none => D
theorem fin_b8 {B g k:Nat} {D:SeD} {w:World} {o:Obj} {y:Bool} (H:SeB B g w D) (hk:k ≤ 30) (hf:kindsK.getD k 0 = 2):SeB B g ((w.setCell ⟨g,k,none⟩ (.bool y)).alloc o) (updD D k (.b y)) ∧ Stay g w ((w.setCell ⟨g,k,none⟩ (.bool y)).alloc o):=by
 have h1:=H.putB k y hk hf
 exact ⟨h1.1.stay (al1p _ _),h1.2.trans (Stay.below (al1p _ _) (Nat.le_of_lt h1.1.lt))⟩
theorem fin_i8 {B g k:Nat} {D:SeD} {w:World} {o:Obj} {n:Int} (H:SeB B g w D) (hn:(Lit.int .i64 n).wf = true) (hk:k ≤ 30) (hf:kindsK.getD k 0 = 0):SeB B g ((w.setCell ⟨g,k,none⟩ (.int .i64 n)).alloc o) (updD D k (.i n)) ∧ Stay g w ((w.setCell ⟨g,k,none⟩ (.int .i64 n)).alloc o):=by
 have h1:=H.putI k n hn hk hf
 exact ⟨h1.1.stay (al1p _ _),h1.2.trans (Stay.below (al1p _ _) (Nat.le_of_lt h1.1.lt))⟩
theorem fin_u8 {B g k:Nat} {D:SeD} {w:World} {o:Obj} {n:Int} (H:SeB B g w D) (hn:(Lit.int .u32 n).wf = true) (hk:k ≤ 30) (hf:kindsK.getD k 0 = 1):SeB B g ((w.setCell ⟨g,k,none⟩ (.int .u32 n)).alloc o) (updD D k (.u n)) ∧ Stay g w ((w.setCell ⟨g,k,none⟩ (.int .u32 n)).alloc o):=by
 have h1:=H.putU k n hn hk hf
 exact ⟨h1.1.stay (al1p _ _),h1.2.trans (Stay.below (al1p _ _) (Nat.le_of_lt h1.1.lt))⟩
theorem fin_e8 {B g k j:Nat} {D:SeD} {w:World} {o:Obj} {n:Int} {y:Bool} (H:SeB B g w D) (hn:(Lit.int .i64 n).wf = true) (hk:k ≤ 30) (hf:kindsK.getD k 0 = 0) (hj:j ≤ 30) (hg:kindsK.getD j 0 = 2):SeB B g (((w.setCell ⟨g,k,none⟩ (.int .i64 n)).setCell ⟨g,j,none⟩ (.bool y)).alloc o) (updD (updD D k (.i n)) j (.b y)) ∧ Stay g w (((w.setCell ⟨g,k,none⟩ (.int .i64 n)).setCell ⟨g,j,none⟩ (.bool y)).alloc o):=by
 have h1:=H.putI k n hn hk hf
 have h2:=h1.1.putB j y hj hg
 exact ⟨h2.1.stay (al1p _ _),h1.2.trans (h2.2.trans (Stay.below (al1p _ _) (Nat.le_of_lt h2.1.lt)))⟩
theorem u32_wf8 (n:Int):(Lit.int .u32 (n % 4294967296)).wf = true:=by
 simp [Lit.wf,IntKind.min,IntKind.max,IntKind.signed,IntKind.bits]
 omega
theorem ow_one8 {kd:IntKind} {t:TypeId} {B g k:Nat} (w:World) (x:Int) (hk:w.heap.size = k) (hB:B ≤ k) (hg:k ≠ g ∧ k ≠ g + 1) (hx:(Lit.int kd x).wf = true):OwL kd B g (w.alloc (.cells #[.int kd x] t)) (some ⟨k,0,none⟩) 1 [x]:=by
 subst hk
 have hb:=Box.new w #[.int kd x] t
 refine ⟨⟨Nat.le_refl _,by omega,fun y hy => by simp at hy; subst hy; exact hx,fun _ => ⟨w.heap.size,0,rfl,hb.lt,fun i hi => ?_⟩,fun h => by cases h⟩,fun b o e _ => ?_⟩
 ·have:i = 0:=by simp at hi; omega
  subst this
  exact hb.cell 0
 ·simp only [Option.some.injEq,Addr.mk.injEq] at e
  obtain ⟨rfl,rfl,_⟩:=e
  exact ⟨hB,hg,fun i _ => hb.frozen _⟩
theorem size_set8 (w:World) (q:Addr) (v:Value):(w.setCell q v).heap.size = w.heap.size:=by simp [World.setCell]
theorem sal2 {w:World} {o o2:Obj} {g i:Nat} {v:Value} (hg:g < w.heap.size):((w.alloc o).alloc o2).setCell ⟨g,i,none⟩ v = ((w.setCell ⟨g,i,none⟩ v).alloc o).alloc o2:=by
 rw [World.setCell_alloc_past o2 g i v (by simp; omega),World.setCell_alloc_past o g i v hg]
theorem sal5 {w:World} {o o2:Obj} {g a b c d e:Nat} {v0 v1 v2 v3 v4:Value} (hg:g < w.heap.size):((((((w.alloc o).alloc o2).setCell ⟨g,a,none⟩ v0).setCell ⟨g,b,none⟩ v1).setCell ⟨g,c,none⟩ v2).setCell ⟨g,d,none⟩ v3).setCell ⟨g,e,none⟩ v4 = ((((((w.setCell ⟨g,a,none⟩ v0).setCell ⟨g,b,none⟩ v1).setCell ⟨g,c,none⟩ v2).setCell ⟨g,d,none⟩ v3).setCell ⟨g,e,none⟩ v4).alloc o).alloc o2:=by
 rw [sal2 hg,sal2 (by rw [size_set8]; exact hg),sal2 (by rw [size_set8,size_set8]; exact hg),sal2 (by rw [size_set8,size_set8,size_set8]; exact hg),sal2 (by rw [size_set8,size_set8,size_set8,size_set8]; exact hg)]
theorem fin_F8 {B g:Nat} {D:SeD} {w:World} {o:Obj} {n:Int} {t:TypeId} (H:SeB B g w D) (hB:B ≤ w.heap.size) (hn:(Lit.int .u32 n).wf = true) :
  SeB B g (((((((w.setCell ⟨g,31,none⟩ (.int .i64 1)).setCell ⟨g,32,none⟩ (.slice none 0 0)).setCell ⟨g,33,none⟩ (.slice (some ⟨w.heap.size + 1,0,none⟩) 1 1)).setCell ⟨g,34,none⟩ (.slice none 0 0)).setCell ⟨g,35,none⟩ (.slice none 0 0)).alloc o).alloc (.cells #[.int .u32 n] t)) (updD D 31 (.t (1,[],[n],[],[]))) ∧ Stay g w (((((((w.setCell ⟨g,31,none⟩ (.int .i64 1)).setCell ⟨g,32,none⟩ (.slice none 0 0)).setCell ⟨g,33,none⟩ (.slice (some ⟨w.heap.size + 1,0,none⟩) 1 1)).setCell ⟨g,34,none⟩ (.slice none 0 0)).setCell ⟨g,35,none⟩ (.slice none 0 0)).alloc o).alloc (.cells #[.int .u32 n] t)):=by
 have hl:=bl_tr (al1p w o) (al1p _ (.cells #[.int .u32 n] t))
 have hg:=H.lt
 have h1:=(H.stay hl).putT (1,[],[n],[],[]) ⟨none,0,some ⟨w.heap.size + 1,0,none⟩,1,none,0,none,0⟩ ⟨rfl,OwL.nil _ _ _ _,ow_one8 _ _ (by simp) (by omega) (by omega) hn,OwL.nil _ _ _ _,OwB.nil _ _ _⟩
 have h2:SeB B g _ _ ∧ Stay g w _:=⟨h1.1,(Stay.below hl (Nat.le_of_lt hg)).trans h1.2⟩
 rw [sal5 hg] at h2
 exact h2
theorem fin_I8 {B g:Nat} {D:SeD} {w:World} {o:Obj} {n:Int} {t:TypeId} (H:SeB B g w D) (hB:B ≤ w.heap.size) (hn:(Lit.int .i64 n).wf = true) :
  SeB B g (((((((w.setCell ⟨g,31,none⟩ (.int .i64 7)).setCell ⟨g,32,none⟩ (.slice none 0 0)).setCell ⟨g,33,none⟩ (.slice none 0 0)).setCell ⟨g,34,none⟩ (.slice (some ⟨w.heap.size + 1,0,none⟩) 1 1)).setCell ⟨g,35,none⟩ (.slice none 0 0)).alloc o).alloc (.cells #[.int .i64 n] t)) (updD D 31 (.t (7,[],[],[n],[]))) ∧ Stay g w (((((((w.setCell ⟨g,31,none⟩ (.int .i64 7)).setCell ⟨g,32,none⟩ (.slice none 0 0)).setCell ⟨g,33,none⟩ (.slice none 0 0)).setCell ⟨g,34,none⟩ (.slice (some ⟨w.heap.size + 1,0,none⟩) 1 1)).setCell ⟨g,35,none⟩ (.slice none 0 0)).alloc o).alloc (.cells #[.int .i64 n] t)):=by
 have hl:=bl_tr (al1p w o) (al1p _ (.cells #[.int .i64 n] t))
 have hg:=H.lt
 have h1:=(H.stay hl).putT (7,[],[],[n],[]) ⟨none,0,none,0,some ⟨w.heap.size + 1,0,none⟩,1,none,0⟩ ⟨rfl,OwL.nil _ _ _ _,OwL.nil _ _ _ _,ow_one8 _ _ (by simp) (by omega) (by omega) hn,OwB.nil _ _ _⟩
 have h2:SeB B g _ _ ∧ Stay g w _:=⟨h1.1,(Stay.below hl (Nat.le_of_lt hg)).trans h1.2⟩
 rw [sal5 hg] at h2
 exact h2
theorem cflag_0 (so st ne:Int) (y:Bool) (B g:Nat) (D:SeD) (w:World) (h:SeB B g w D) :
  Calls Try.prog 59 #[.agg #[.string { data:=#[100,101,116,101,99,116,95,110,101,103,97,116,105,118,101] },.int .i64 so,.int .i64 st,.int .i64 ne],.pointer (some ⟨g,0,none⟩),.bool y] w fun e w' => e = .returned (.tuple #[]) ∧ SeB B g w' (updD D 12 (.b y)) ∧ Stay g w w':=by
 have H:=hide h
 have hg:=h.lt
 obtain ⟨⟨v12,c12⟩,f12⟩:=h.facts 12 (by decide)
 clear h
 go_enter Try.func59,Try.ntmps59
 go_wp2_with fail
 go_end0
 exact ⟨rfl,fin_b8 (uh H) (by decide) rfl⟩
theorem cflag_1 (so st ne:Int) (y:Bool) (B g:Nat) (D:SeD) (w:World) (h:SeB B g w D) :
  Calls Try.prog 59 #[.agg #[.string { data:=#[100,101,116,101,99,116,95,112,111,115,105,116,105,118,101] },.int .i64 so,.int .i64 st,.int .i64 ne],.pointer (some ⟨g,0,none⟩),.bool y] w fun e w' => e = .returned (.tuple #[]) ∧ SeB B g w' (updD D 13 (.b y)) ∧ Stay g w w':=by
 have H:=hide h
 have hg:=h.lt
 obtain ⟨⟨v13,c13⟩,f13⟩:=h.facts 13 (by decide)
 clear h
 go_enter Try.func59,Try.ntmps59
 go_wp2_with fail
 go_end0
 exact ⟨rfl,fin_b8 (uh H) (by decide) rfl⟩
theorem cflag_2 (so st ne:Int) (y:Bool) (B g:Nat) (D:SeD) (w:World) (h:SeB B g w D) :
  Calls Try.prog 59 #[.agg #[.string { data:=#[102,109,111,100] },.int .i64 so,.int .i64 st,.int .i64 ne],.pointer (some ⟨g,0,none⟩),.bool y] w fun e w' => e = .returned (.tuple #[]) ∧ SeB B g w' (updD D 14 (.b y)) ∧ Stay g w w':=by
 have H:=hide h
 have hg:=h.lt
 obtain ⟨⟨v14,c14⟩,f14⟩:=h.facts 14 (by decide)
 clear h
 go_enter Try.func59,Try.ntmps59
 go_wp2_with fail
 go_end0
 exact ⟨rfl,fin_b8 (uh H) (by decide) rfl⟩
theorem cflag_3 (so st ne:Int) (y:Bool) (B g:Nat) (D:SeD) (w:World) (h:SeB B g w D) :
  Calls Try.prog 59 #[.agg #[.string { data:=#[97,108,108,111,119,122,101,114,111] },.int .i64 so,.int .i64 st,.int .i64 ne],.pointer (some ⟨g,0,none⟩),.bool y] w fun e w' => e = .returned (.tuple #[]) ∧ SeB B g w' (updD D 6 (.b y)) ∧ Stay g w w':=by
 have H:=hide h
 have hg:=h.lt
 obtain ⟨⟨v6,c6⟩,f6⟩:=h.facts 6 (by decide)
 clear h
 go_enter Try.func59,Try.ntmps59
 go_wp2_with fail
 go_end0
 exact ⟨rfl,fin_b8 (uh H) (by decide) rfl⟩
theorem cflag_4 (so st ne:Int) (y:Bool) (B g:Nat) (D:SeD) (w:World) (h:SeB B g w D) :
  Calls Try.prog 59 #[.agg #[.string { data:=#[107,101,101,112,100,105,109,115] },.int .i64 so,.int .i64 st,.int .i64 ne],.pointer (some ⟨g,0,none⟩),.bool y] w fun e w' => e = .returned (.tuple #[]) ∧ SeB B g w' (updD D 3 (.b y)) ∧ Stay g w w':=by
 have H:=hide h
 have hg:=h.lt
 obtain ⟨⟨v3,c3⟩,f3⟩:=h.facts 3 (by decide)
 clear h
 go_enter Try.func59,Try.ntmps59
 go_wp2_with fail
 go_end0
 exact ⟨rfl,fin_b8 (uh H) (by decide) rfl⟩
theorem cflag_5 (so st ne:Int) (y:Bool) (B g:Nat) (D:SeD) (w:World) (h:SeB B g w D) :
  Calls Try.prog 59 #[.agg #[.string { data:=#[110,111,111,112,95,119,105,116,104,95,101,109,112,116,121,95,97,120,101,115] },.int .i64 so,.int .i64 st,.int .i64 ne],.pointer (some ⟨g,0,none⟩),.bool y] w fun e w' => e = .returned (.tuple #[]) ∧ SeB B g w' (updD D 4 (.b y)) ∧ Stay g w w':=by
 have H:=hide h
 have hg:=h.lt
 obtain ⟨⟨v4,c4⟩,f4⟩:=h.facts 4 (by decide)
 clear h
 go_enter Try.func59,Try.ntmps59
 go_wp2_with fail
 go_end0
 exact ⟨rfl,fin_b8 (uh H) (by decide) rfl⟩
theorem cflag_6 (so st ne:Int) (y:Bool) (B g:Nat) (D:SeD) (w:World) (h:SeB B g w D) :
  Calls Try.prog 59 #[.agg #[.string { data:=#[115,101,108,101,99,116,95,108,97,115,116,95,105,110,100,101,120] },.int .i64 so,.int .i64 st,.int .i64 ne],.pointer (some ⟨g,0,none⟩),.bool y] w fun e w' => e = .returned (.tuple #[]) ∧ SeB B g w' (updD D 5 (.b y)) ∧ Stay g w w':=by
 have H:=hide h
 have hg:=h.lt
 obtain ⟨⟨v5,c5⟩,f5⟩:=h.facts 5 (by decide)
 clear h
 go_enter Try.func59,Try.ntmps59
 go_wp2_with fail
 go_end0
 exact ⟨rfl,fin_b8 (uh H) (by decide) rfl⟩
theorem cflag_7 (so st ne:Int) (y:Bool) (B g:Nat) (D:SeD) (w:World) (h:SeB B g w D) :
  Calls Try.prog 59 #[.agg #[.string { data:=#[116,114,97,110,115,65] },.int .i64 so,.int .i64 st,.int .i64 ne],.pointer (some ⟨g,0,none⟩),.bool y] w fun e w' => e = .returned (.tuple #[]) ∧ SeB B g w' (updD D 17 (.b y)) ∧ Stay g w w':=by
 have H:=hide h
 have hg:=h.lt
 obtain ⟨⟨v17,c17⟩,f17⟩:=h.facts 17 (by decide)
 clear h
 go_enter Try.func59,Try.ntmps59
 go_wp2_with fail
 go_end0
 exact ⟨rfl,fin_b8 (uh H) (by decide) rfl⟩
theorem cflag_8 (so st ne:Int) (y:Bool) (B g:Nat) (D:SeD) (w:World) (h:SeB B g w D) :
  Calls Try.prog 59 #[.agg #[.string { data:=#[116,114,97,110,115,66] },.int .i64 so,.int .i64 st,.int .i64 ne],.pointer (some ⟨g,0,none⟩),.bool y] w fun e w' => e = .returned (.tuple #[]) ∧ SeB B g w' (updD D 18 (.b y)) ∧ Stay g w w':=by
 have H:=hide h
 have hg:=h.lt
 obtain ⟨⟨v18,c18⟩,f18⟩:=h.facts 18 (by decide)
 clear h
 go_enter Try.func59,Try.ntmps59
 go_wp2_with fail
 go_end0
 exact ⟨rfl,fin_b8 (uh H) (by decide) rfl⟩
theorem cflag_9 (so st ne:Int) (y:Bool) (B g:Nat) (D:SeD) (w:World) (h:SeB B g w D) :
  Calls Try.prog 59 #[.agg #[.string { data:=#[99,101,105,108,95,109,111,100,101] },.int .i64 so,.int .i64 st,.int .i64 ne],.pointer (some ⟨g,0,none⟩),.bool y] w fun e w' => e = .returned (.tuple #[]) ∧ SeB B g w' (updD D 25 (.b y)) ∧ Stay g w w':=by
 have H:=hide h
 have hg:=h.lt
 obtain ⟨⟨v25,c25⟩,f25⟩:=h.facts 25 (by decide)
 clear h
 go_enter Try.func59,Try.ntmps59
 go_wp2_with fail
 go_end0
 exact ⟨rfl,fin_b8 (uh H) (by decide) rfl⟩
theorem cflag_10 (so st ne:Int) (y:Bool) (B g:Nat) (D:SeD) (w:World) (h:SeB B g w D) :
  Calls Try.prog 59 #[.agg #[.string { data:=#[99,111,117,110,116,95,105,110,99,108,117,100,101,95,112,97,100] },.int .i64 so,.int .i64 st,.int .i64 ne],.pointer (some ⟨g,0,none⟩),.bool y] w fun e w' => e = .returned (.tuple #[]) ∧ SeB B g w' (updD D 26 (.b y)) ∧ Stay g w w':=by
 have H:=hide h
 have hg:=h.lt
 obtain ⟨⟨v26,c26⟩,f26⟩:=h.facts 26 (by decide)
 clear h
 go_enter Try.func59,Try.ntmps59
 go_wp2_with fail
 go_end0
 exact ⟨rfl,fin_b8 (uh H) (by decide) rfl⟩
theorem cflag_no (so st ne:Int) (y:Bool) (B g:Nat) (D:SeD) (w:World) (h:SeB B g w D) (nm:Str) (hn:isB nm) (h0:¬ nm = [100,101,116,101,99,116,95,110,101,103,97,116,105,118,101]) (h1:¬ nm = [100,101,116,101,99,116,95,112,111,115,105,116,105,118,101]) (h2:¬ nm = [102,109,111,100]) (h3:¬ nm = [97,108,108,111,119,122,101,114,111]) (h4:¬ nm = [107,101,101,112,100,105,109,115]) (h5:¬ nm = [110,111,111,112,95,119,105,116,104,95,101,109,112,116,121,95,97,120,101,115]) (h6:¬ nm = [115,101,108,101,99,116,95,108,97,115,116,95,105,110,100,101,120]) (h7:¬ nm = [116,114,97,110,115,65]) (h8:¬ nm = [116,114,97,110,115,66]) (h9:¬ nm = [99,101,105,108,95,109,111,100,101]) (h10:¬ nm = [99,111,117,110,116,95,105,110,99,108,117,100,101,95,112,97,100]) :
  Calls Try.prog 59 #[.agg #[.string (strOfNums nm),.int .i64 so,.int .i64 st,.int .i64 ne],.pointer (some ⟨g,0,none⟩),.bool y] w fun e w' => e = .returned (.tuple #[]) ∧ SeB B g w' (D) ∧ Stay g w w':=by
 have n0:((strOfNums nm).toList == [100,101,116,101,99,116,95,110,101,103,97,116,105,118,101]) = false:=lit_no8 hn [100,101,116,101,99,116,95,110,101,103,97,116,105,118,101] rfl _ rfl h0
 have n1:((strOfNums nm).toList == [100,101,116,101,99,116,95,112,111,115,105,116,105,118,101]) = false:=lit_no8 hn [100,101,116,101,99,116,95,112,111,115,105,116,105,118,101] rfl _ rfl h1
 have n2:((strOfNums nm).toList == [102,109,111,100]) = false:=lit_no8 hn [102,109,111,100] rfl _ rfl h2
 have n3:((strOfNums nm).toList == [97,108,108,111,119,122,101,114,111]) = false:=lit_no8 hn [97,108,108,111,119,122,101,114,111] rfl _ rfl h3
 have n4:((strOfNums nm).toList == [107,101,101,112,100,105,109,115]) = false:=lit_no8 hn [107,101,101,112,100,105,109,115] rfl _ rfl h4
 have n5:((strOfNums nm).toList == [110,111,111,112,95,119,105,116,104,95,101,109,112,116,121,95,97,120,101,115]) = false:=lit_no8 hn [110,111,111,112,95,119,105,116,104,95,101,109,112,116,121,95,97,120,101,115] rfl _ rfl h5
 have n6:((strOfNums nm).toList == [115,101,108,101,99,116,95,108,97,115,116,95,105,110,100,101,120]) = false:=lit_no8 hn [115,101,108,101,99,116,95,108,97,115,116,95,105,110,100,101,120] rfl _ rfl h6
 have n7:((strOfNums nm).toList == [116,114,97,110,115,65]) = false:=lit_no8 hn [116,114,97,110,115,65] rfl _ rfl h7
 have n8:((strOfNums nm).toList == [116,114,97,110,115,66]) = false:=lit_no8 hn [116,114,97,110,115,66] rfl _ rfl h8
 have n9:((strOfNums nm).toList == [99,101,105,108,95,109,111,100,101]) = false:=lit_no8 hn [99,101,105,108,95,109,111,100,101] rfl _ rfl h9
 have n10:((strOfNums nm).toList == [99,111,117,110,116,95,105,110,99,108,117,100,101,95,112,97,100]) = false:=lit_no8 hn [99,111,117,110,116,95,105,110,99,108,117,100,101,95,112,97,100] rfl _ rfl h10
 have H:=hide h
 have hg:=h.lt
 clear h
 go_enter Try.func59,Try.ntmps59
 go_wp2_with fail
 go_end0
 exact ⟨rfl,(uh H).stay (al1p _ _),Stay.below (al1p _ _) (Nat.le_of_lt hg)⟩
theorem cflag8_any (nm:Str) (so st ne:Int) (y:Bool) (B g:Nat) (D:SeD) (w:World) (h:SeB B g w D) (hn:isB nm) :
  Calls Try.prog 59 #[.agg #[strV nm,.int .i64 so,.int .i64 st,.int .i64 ne],.pointer (some ⟨g,0,none⟩),.bool y] w fun e w' => e = .returned (.tuple #[]) ∧ SeB B g w' (flagD nm y D) ∧ Stay g w w':=by
 by_cases h0:nm = [100,101,116,101,99,116,95,110,101,103,97,116,105,118,101]
 ·subst h0
  exact cflag_0 so st ne y B g D w h
 by_cases h1:nm = [100,101,116,101,99,116,95,112,111,115,105,116,105,118,101]
 ·subst h1
  exact cflag_1 so st ne y B g D w h
 by_cases h2:nm = [102,109,111,100]
 ·subst h2
  exact cflag_2 so st ne y B g D w h
 by_cases h3:nm = [97,108,108,111,119,122,101,114,111]
 ·subst h3
  exact cflag_3 so st ne y B g D w h
 by_cases h4:nm = [107,101,101,112,100,105,109,115]
 ·subst h4
  exact cflag_4 so st ne y B g D w h
 by_cases h5:nm = [110,111,111,112,95,119,105,116,104,95,101,109,112,116,121,95,97,120,101,115]
 ·subst h5
  exact cflag_5 so st ne y B g D w h
 by_cases h6:nm = [115,101,108,101,99,116,95,108,97,115,116,95,105,110,100,101,120]
 ·subst h6
  exact cflag_6 so st ne y B g D w h
 by_cases h7:nm = [116,114,97,110,115,65]
 ·subst h7
  exact cflag_7 so st ne y B g D w h
 by_cases h8:nm = [116,114,97,110,115,66]
 ·subst h8
  exact cflag_8 so st ne y B g D w h
 by_cases h9:nm = [99,101,105,108,95,109,111,100,101]
 ·subst h9
  exact cflag_9 so st ne y B g D w h
 by_cases h10:nm = [99,111,117,110,116,95,105,110,99,108,117,100,101,95,112,97,100]
 ·subst h10
  exact cflag_10 so st ne y B g D w h
 have e:flagD nm y D = D:=by unfold flagD flagK; rw [if_neg h0,if_neg h1,if_neg h2,if_neg h3,if_neg h4,if_neg h5,if_neg h6,if_neg h7,if_neg h8,if_neg h9,if_neg h10]
 rw [e]
 exact cflag_no so st ne y B g D w h nm hn h0 h1 h2 h3 h4 h5 h6 h7 h8 h9 h10
def updL (D:SeD) (l:List (Nat × FV)):SeD:=l.foldl (fun D x => updD D x.1 x.2) D
def wrL (nm:Str) (n:Int):List (Nat × FV) :=
 if nm = [97,108,112,104,97] then [(9,FV.u (n % 4294967296))] else
 if nm = [98,101,116,97] then [(10,FV.u (n % 4294967296))] else
 if nm = [101,112,115,105,108,111,110] then [(11,FV.u (n % 4294967296))] else
 if nm = [118,97,108,117,101,95,102,108,111,97,116] then [(31,FV.t (1,[],[n % 4294967296],[],[]))] else
 if nm = [118,97,108,117,101,95,105,110,116] then [(31,FV.t (7,[],[],[n],[]))] else
 if nm = [97,120,105,115] then [(0,FV.i n)] else
 if nm = [116,111] then [(15,FV.i n)] else
 if nm = [98,108,111,99,107,115,105,122,101] then [(27,FV.i n)] else
 if nm = [103,114,111,117,112] then [(19,FV.i n)] else
 if nm = [115,116,97,114,116] then [(28,FV.i n)] else
 if nm = [101,110,100] then [(29,FV.i n),(30,FV.b true)] else
 if nm = [109,111,100,101] then [(16,FV.i n)] else
 if nm = [114,101,100,117,99,116,105,111,110] then [(16,FV.i n)] else
 if nm = [97,117,116,111,95,112,97,100] then [(24,FV.i n)] else
 match flagK nm with
 | some k => [(k,FV.b (n == 1))]
 | none => []
theorem cwr_0 (so st ne:Int) (n:Int) (B g:Nat) (D:SeD) (w:World) (h:SeB B g w D) (hw:(Lit.int .i64 n).wf = true) (hB:B ≤ w.heap.size) :
  Calls Try.prog 45 #[.agg #[.string { data:=#[97,108,112,104,97] },.int .i64 so,.int .i64 st,.int .i64 ne],.pointer (some ⟨g,0,none⟩),.int .i64 n] w fun e w' => e = .returned (.tuple #[]) ∧ SeB B g w' (updL D [(9,FV.u (n % 4294967296))]) ∧ Stay g w w':=by
 have H:=hide h
 have hg:=h.lt
 obtain ⟨⟨v9,c9⟩,f9⟩:=h.facts 9 (by decide)
 clear h
 have HW:=hide hw
 clear hw
 go_enter Try.func45,Try.ntmps45
 go_wp2_with fail
 go_end0
 exact ⟨rfl,fin_u8 (uh H) (u32_wf8 n) (by decide) rfl⟩
theorem cwr_1 (so st ne:Int) (n:Int) (B g:Nat) (D:SeD) (w:World) (h:SeB B g w D) (hw:(Lit.int .i64 n).wf = true) (hB:B ≤ w.heap.size) :
  Calls Try.prog 45 #[.agg #[.string { data:=#[98,101,116,97] },.int .i64 so,.int .i64 st,.int .i64 ne],.pointer (some ⟨g,0,none⟩),.int .i64 n] w fun e w' => e = .returned (.tuple #[]) ∧ SeB B g w' (updL D [(10,FV.u (n % 4294967296))]) ∧ Stay g w w':=by
 have H:=hide h
 have hg:=h.lt
 obtain ⟨⟨v10,c10⟩,f10⟩:=h.facts 10 (by decide)
 clear h
 have HW:=hide hw
 clear hw
 go_enter Try.func45,Try.ntmps45
 go_wp2_with fail
 go_end0
 exact ⟨rfl,fin_u8 (uh H) (u32_wf8 n) (by decide) rfl⟩
theorem cwr_2 (so st ne:Int) (n:Int) (B g:Nat) (D:SeD) (w:World) (h:SeB B g w D) (hw:(Lit.int .i64 n).wf = true) (hB:B ≤ w.heap.size) :
  Calls Try.prog 45 #[.agg #[.string { data:=#[101,112,115,105,108,111,110] },.int .i64 so,.int .i64 st,.int .i64 ne],.pointer (some ⟨g,0,none⟩),.int .i64 n] w fun e w' => e = .returned (.tuple #[]) ∧ SeB B g w' (updL D [(11,FV.u (n % 4294967296))]) ∧ Stay g w w':=by
 have H:=hide h
 have hg:=h.lt
 obtain ⟨⟨v11,c11⟩,f11⟩:=h.facts 11 (by decide)
 clear h
 have HW:=hide hw
 clear hw
 go_enter Try.func45,Try.ntmps45
 go_wp2_with fail
 go_end0
 exact ⟨rfl,fin_u8 (uh H) (u32_wf8 n) (by decide) rfl⟩
theorem cwr_3 (so st ne:Int) (n:Int) (B g:Nat) (D:SeD) (w:World) (h:SeB B g w D) (hw:(Lit.int .i64 n).wf = true) (hB:B ≤ w.heap.size) :
  Calls Try.prog 45 #[.agg #[.string { data:=#[118,97,108,117,101,95,102,108,111,97,116] },.int .i64 so,.int .i64 st,.int .i64 ne],.pointer (some ⟨g,0,none⟩),.int .i64 n] w fun e w' => e = .returned (.tuple #[]) ∧ SeB B g w' (updL D [(31,FV.t (1,[],[n % 4294967296],[],[]))]) ∧ Stay g w w':=by
 have H:=hide h
 have hg:=h.lt
 obtain ⟨⟨v31,c31⟩,f31⟩:=h.facts 31 (by decide)
 obtain ⟨⟨v32,c32⟩,f32⟩:=h.facts 32 (by decide)
 obtain ⟨⟨v33,c33⟩,f33⟩:=h.facts 33 (by decide)
 obtain ⟨⟨v34,c34⟩,f34⟩:=h.facts 34 (by decide)
 obtain ⟨⟨v35,c35⟩,f35⟩:=h.facts 35 (by decide)
 clear h
 have HW:=hide hw
 clear hw
 go_enter Try.func45,Try.ntmps45
 go_wp2_with fail
 go_end0
 exact ⟨rfl,fin_F8 (uh H) hB (u32_wf8 n)⟩
theorem cwr_4 (so st ne:Int) (n:Int) (B g:Nat) (D:SeD) (w:World) (h:SeB B g w D) (hw:(Lit.int .i64 n).wf = true) (hB:B ≤ w.heap.size) :
  Calls Try.prog 45 #[.agg #[.string { data:=#[118,97,108,117,101,95,105,110,116] },.int .i64 so,.int .i64 st,.int .i64 ne],.pointer (some ⟨g,0,none⟩),.int .i64 n] w fun e w' => e = .returned (.tuple #[]) ∧ SeB B g w' (updL D [(31,FV.t (7,[],[],[n],[]))]) ∧ Stay g w w':=by
 have H:=hide h
 have hg:=h.lt
 obtain ⟨⟨v31,c31⟩,f31⟩:=h.facts 31 (by decide)
 obtain ⟨⟨v32,c32⟩,f32⟩:=h.facts 32 (by decide)
 obtain ⟨⟨v33,c33⟩,f33⟩:=h.facts 33 (by decide)
 obtain ⟨⟨v34,c34⟩,f34⟩:=h.facts 34 (by decide)
 obtain ⟨⟨v35,c35⟩,f35⟩:=h.facts 35 (by decide)
 clear h
 have HW:=hide hw
 clear hw
 go_enter Try.func45,Try.ntmps45
 go_wp2_with fail
 go_end0
 exact ⟨rfl,fin_I8 (uh H) hB (uh HW)⟩
theorem cwr_5 (so st ne:Int) (n:Int) (B g:Nat) (D:SeD) (w:World) (h:SeB B g w D) (hw:(Lit.int .i64 n).wf = true) (hB:B ≤ w.heap.size) :
  Calls Try.prog 45 #[.agg #[.string { data:=#[97,120,105,115] },.int .i64 so,.int .i64 st,.int .i64 ne],.pointer (some ⟨g,0,none⟩),.int .i64 n] w fun e w' => e = .returned (.tuple #[]) ∧ SeB B g w' (updL D [(0,FV.i n)]) ∧ Stay g w w':=by
 have H:=hide h
 have hg:=h.lt
 obtain ⟨⟨v0,c0⟩,f0⟩:=h.facts 0 (by decide)
 clear h
 have HW:=hide hw
 clear hw
 go_enter Try.func45,Try.ntmps45
 go_wp2_with fail
 go_end0
 exact ⟨rfl,fin_i8 (uh H) (uh HW) (by decide) rfl⟩
theorem cwr_6 (so st ne:Int) (n:Int) (B g:Nat) (D:SeD) (w:World) (h:SeB B g w D) (hw:(Lit.int .i64 n).wf = true) (hB:B ≤ w.heap.size) :
  Calls Try.prog 45 #[.agg #[.string { data:=#[116,111] },.int .i64 so,.int .i64 st,.int .i64 ne],.pointer (some ⟨g,0,none⟩),.int .i64 n] w fun e w' => e = .returned (.tuple #[]) ∧ SeB B g w' (updL D [(15,FV.i n)]) ∧ Stay g w w':=by
 have H:=hide h
 have hg:=h.lt
 obtain ⟨⟨v15,c15⟩,f15⟩:=h.facts 15 (by decide)
 clear h
 have HW:=hide hw
 clear hw
 go_enter Try.func45,Try.ntmps45
 go_wp2_with fail
 go_end0
 exact ⟨rfl,fin_i8 (uh H) (uh HW) (by decide) rfl⟩
theorem cwr_7 (so st ne:Int) (n:Int) (B g:Nat) (D:SeD) (w:World) (h:SeB B g w D) (hw:(Lit.int .i64 n).wf = true) (hB:B ≤ w.heap.size) :
  Calls Try.prog 45 #[.agg #[.string { data:=#[98,108,111,99,107,115,105,122,101] },.int .i64 so,.int .i64 st,.int .i64 ne],.pointer (some ⟨g,0,none⟩),.int .i64 n] w fun e w' => e = .returned (.tuple #[]) ∧ SeB B g w' (updL D [(27,FV.i n)]) ∧ Stay g w w':=by
 have H:=hide h
 have hg:=h.lt
 obtain ⟨⟨v27,c27⟩,f27⟩:=h.facts 27 (by decide)
 clear h
 have HW:=hide hw
 clear hw
 go_enter Try.func45,Try.ntmps45
 go_wp2_with fail
 go_end0
 exact ⟨rfl,fin_i8 (uh H) (uh HW) (by decide) rfl⟩
theorem cwr_8 (so st ne:Int) (n:Int) (B g:Nat) (D:SeD) (w:World) (h:SeB B g w D) (hw:(Lit.int .i64 n).wf = true) (hB:B ≤ w.heap.size) :
  Calls Try.prog 45 #[.agg #[.string { data:=#[103,114,111,117,112] },.int .i64 so,.int .i64 st,.int .i64 ne],.pointer (some ⟨g,0,none⟩),.int .i64 n] w fun e w' => e = .returned (.tuple #[]) ∧ SeB B g w' (updL D [(19,FV.i n)]) ∧ Stay g w w':=by
 have H:=hide h
 have hg:=h.lt
 obtain ⟨⟨v19,c19⟩,f19⟩:=h.facts 19 (by decide)
 clear h
 have HW:=hide hw
 clear hw
 go_enter Try.func45,Try.ntmps45
 go_wp2_with fail
 go_end0
 exact ⟨rfl,fin_i8 (uh H) (uh HW) (by decide) rfl⟩
theorem cwr_9 (so st ne:Int) (n:Int) (B g:Nat) (D:SeD) (w:World) (h:SeB B g w D) (hw:(Lit.int .i64 n).wf = true) (hB:B ≤ w.heap.size) :
  Calls Try.prog 45 #[.agg #[.string { data:=#[115,116,97,114,116] },.int .i64 so,.int .i64 st,.int .i64 ne],.pointer (some ⟨g,0,none⟩),.int .i64 n] w fun e w' => e = .returned (.tuple #[]) ∧ SeB B g w' (updL D [(28,FV.i n)]) ∧ Stay g w w':=by
 have H:=hide h
 have hg:=h.lt
 obtain ⟨⟨v28,c28⟩,f28⟩:=h.facts 28 (by decide)
 clear h
 have HW:=hide hw
 clear hw
 go_enter Try.func45,Try.ntmps45
 go_wp2_with fail
 go_end0
 exact ⟨rfl,fin_i8 (uh H) (uh HW) (by decide) rfl⟩
theorem cwr_10 (so st ne:Int) (n:Int) (B g:Nat) (D:SeD) (w:World) (h:SeB B g w D) (hw:(Lit.int .i64 n).wf = true) (hB:B ≤ w.heap.size) :
  Calls Try.prog 45 #[.agg #[.string { data:=#[101,110,100] },.int .i64 so,.int .i64 st,.int .i64 ne],.pointer (some ⟨g,0,none⟩),.int .i64 n] w fun e w' => e = .returned (.tuple #[]) ∧ SeB B g w' (updL D [(29,FV.i n),(30,FV.b true)]) ∧ Stay g w w':=by
 have H:=hide h
 have hg:=h.lt
 obtain ⟨⟨v29,c29⟩,f29⟩:=h.facts 29 (by decide)
 obtain ⟨⟨v30,c30⟩,f30⟩:=h.facts 30 (by decide)
 clear h
 have HW:=hide hw
 clear hw
 go_enter Try.func45,Try.ntmps45
 go_wp2_with fail
 go_end0
 exact ⟨rfl,fin_e8 (uh H) (uh HW) (by decide) rfl (by decide) rfl⟩
theorem cwr_11 (so st ne:Int) (n:Int) (B g:Nat) (D:SeD) (w:World) (h:SeB B g w D) (hw:(Lit.int .i64 n).wf = true) (hB:B ≤ w.heap.size) :
  Calls Try.prog 45 #[.agg #[.string { data:=#[109,111,100,101] },.int .i64 so,.int .i64 st,.int .i64 ne],.pointer (some ⟨g,0,none⟩),.int .i64 n] w fun e w' => e = .returned (.tuple #[]) ∧ SeB B g w' (updL D [(16,FV.i n)]) ∧ Stay g w w':=by
 have H:=hide h
 have hg:=h.lt
 obtain ⟨⟨v16,c16⟩,f16⟩:=h.facts 16 (by decide)
 clear h
 have HW:=hide hw
 clear hw
 go_enter Try.func45,Try.ntmps45
 go_wp2_with fail
 go_end0
 exact ⟨rfl,fin_i8 (uh H) (uh HW) (by decide) rfl⟩
theorem cwr_12 (so st ne:Int) (n:Int) (B g:Nat) (D:SeD) (w:World) (h:SeB B g w D) (hw:(Lit.int .i64 n).wf = true) (hB:B ≤ w.heap.size) :
  Calls Try.prog 45 #[.agg #[.string { data:=#[114,101,100,117,99,116,105,111,110] },.int .i64 so,.int .i64 st,.int .i64 ne],.pointer (some ⟨g,0,none⟩),.int .i64 n] w fun e w' => e = .returned (.tuple #[]) ∧ SeB B g w' (updL D [(16,FV.i n)]) ∧ Stay g w w':=by
 have H:=hide h
 have hg:=h.lt
 obtain ⟨⟨v16,c16⟩,f16⟩:=h.facts 16 (by decide)
 clear h
 have HW:=hide hw
 clear hw
 go_enter Try.func45,Try.ntmps45
 go_wp2_with fail
 go_end0
 exact ⟨rfl,fin_i8 (uh H) (uh HW) (by decide) rfl⟩
theorem cwr_13 (so st ne:Int) (n:Int) (B g:Nat) (D:SeD) (w:World) (h:SeB B g w D) (hw:(Lit.int .i64 n).wf = true) (hB:B ≤ w.heap.size) :
  Calls Try.prog 45 #[.agg #[.string { data:=#[97,117,116,111,95,112,97,100] },.int .i64 so,.int .i64 st,.int .i64 ne],.pointer (some ⟨g,0,none⟩),.int .i64 n] w fun e w' => e = .returned (.tuple #[]) ∧ SeB B g w' (updL D [(24,FV.i n)]) ∧ Stay g w w':=by
 have H:=hide h
 have hg:=h.lt
 obtain ⟨⟨v24,c24⟩,f24⟩:=h.facts 24 (by decide)
 clear h
 have HW:=hide hw
 clear hw
 go_enter Try.func45,Try.ntmps45
 go_wp2_with fail
 go_end0
 exact ⟨rfl,fin_i8 (uh H) (uh HW) (by decide) rfl⟩
theorem cwr_no (so st ne:Int) (n:Int) (B g:Nat) (D:SeD) (w:World) (h:SeB B g w D) (nm:Str) (hn:isB nm) (d0:¬ nm = [97,108,112,104,97]) (d1:¬ nm = [98,101,116,97]) (d2:¬ nm = [101,112,115,105,108,111,110]) (d3:¬ nm = [118,97,108,117,101,95,102,108,111,97,116]) (d4:¬ nm = [118,97,108,117,101,95,105,110,116]) (d5:¬ nm = [97,120,105,115]) (d6:¬ nm = [116,111]) (d7:¬ nm = [98,108,111,99,107,115,105,122,101]) (d8:¬ nm = [103,114,111,117,112]) (d9:¬ nm = [115,116,97,114,116]) (d10:¬ nm = [101,110,100]) (d11:¬ nm = [109,111,100,101]) (d12:¬ nm = [114,101,100,117,99,116,105,111,110]) (d13:¬ nm = [97,117,116,111,95,112,97,100]) :
  Calls Try.prog 45 #[.agg #[.string (strOfNums nm),.int .i64 so,.int .i64 st,.int .i64 ne],.pointer (some ⟨g,0,none⟩),.int .i64 n] w fun e w' => e = .returned (.tuple #[]) ∧ SeB B g w' (flagD nm (n == 1) D) ∧ Stay g w w':=by
 have m0:((strOfNums nm).toList == [97,108,112,104,97]) = false:=lit_no8 hn [97,108,112,104,97] rfl _ rfl d0
 have m1:((strOfNums nm).toList == [98,101,116,97]) = false:=lit_no8 hn [98,101,116,97] rfl _ rfl d1
 have m2:((strOfNums nm).toList == [101,112,115,105,108,111,110]) = false:=lit_no8 hn [101,112,115,105,108,111,110] rfl _ rfl d2
 have m3:((strOfNums nm).toList == [118,97,108,117,101,95,102,108,111,97,116]) = false:=lit_no8 hn [118,97,108,117,101,95,102,108,111,97,116] rfl _ rfl d3
 have m4:((strOfNums nm).toList == [118,97,108,117,101,95,105,110,116]) = false:=lit_no8 hn [118,97,108,117,101,95,105,110,116] rfl _ rfl d4
 have m5:((strOfNums nm).toList == [97,120,105,115]) = false:=lit_no8 hn [97,120,105,115] rfl _ rfl d5
 have m6:((strOfNums nm).toList == [116,111]) = false:=lit_no8 hn [116,111] rfl _ rfl d6
 have m7:((strOfNums nm).toList == [98,108,111,99,107,115,105,122,101]) = false:=lit_no8 hn [98,108,111,99,107,115,105,122,101] rfl _ rfl d7
 have m8:((strOfNums nm).toList == [103,114,111,117,112]) = false:=lit_no8 hn [103,114,111,117,112] rfl _ rfl d8
 have m9:((strOfNums nm).toList == [115,116,97,114,116]) = false:=lit_no8 hn [115,116,97,114,116] rfl _ rfl d9
 have m10:((strOfNums nm).toList == [101,110,100]) = false:=lit_no8 hn [101,110,100] rfl _ rfl d10
 have m11:((strOfNums nm).toList == [109,111,100,101]) = false:=lit_no8 hn [109,111,100,101] rfl _ rfl d11
 have m12:((strOfNums nm).toList == [114,101,100,117,99,116,105,111,110]) = false:=lit_no8 hn [114,101,100,117,99,116,105,111,110] rfl _ rfl d12
 have m13:((strOfNums nm).toList == [97,117,116,111,95,112,97,100]) = false:=lit_no8 hn [97,117,116,111,95,112,97,100] rfl _ rfl d13
 have H:=hide h
 have hg:=h.lt
 clear h
 have CF:=hide (fun v (hv:Below w.heap.size w v) => cflag8_any nm so st ne (n == 1) B g D v ((uh H).stay hv) hn)
 obtain ⟨yb,hyb⟩:∃ y,(n == 1) = y:=⟨_,rfl⟩
 rw [hyb] at CF ⊢
 unfold strV at CF
 clear d0 d1 d2 d3 d4 d5 d6 d7 d8 d9 d10 d11 d12 d13 hn
 go_enter Try.func45,Try.ntmps45
 go_wp2_with fail
 refine (uh CF _ (al1p _ _)).mono ?_
 rintro e w1 ⟨rfl,h1,h2⟩
 have H1:=hide h1
 have H2:=hide h2
 clear h1 h2 CF
 go_wp2_with fail
 go_end0
 exact ⟨rfl,uh H1,(Stay.below (al1p _ _) (Nat.le_of_lt hg)).trans (uh H2)⟩
theorem cwrite8_any (nm:Str) (so st ne n:Int) (B g:Nat) (D:SeD) (w:World) (h:SeB B g w D) (hn:isB nm) (hw:(Lit.int .i64 n).wf = true) (hB:B ≤ w.heap.size) :
  Calls Try.prog 45 #[.agg #[strV nm,.int .i64 so,.int .i64 st,.int .i64 ne],.pointer (some ⟨g,0,none⟩),.int .i64 n] w fun e w' => e = .returned (.tuple #[]) ∧ SeB B g w' (updL D (wrL nm n)) ∧ Stay g w w':=by
 by_cases d0:nm = [97,108,112,104,97]
 ·subst d0
  exact cwr_0 so st ne n B g D w h hw hB
 by_cases d1:nm = [98,101,116,97]
 ·subst d1
  exact cwr_1 so st ne n B g D w h hw hB
 by_cases d2:nm = [101,112,115,105,108,111,110]
 ·subst d2
  exact cwr_2 so st ne n B g D w h hw hB
 by_cases d3:nm = [118,97,108,117,101,95,102,108,111,97,116]
 ·subst d3
  exact cwr_3 so st ne n B g D w h hw hB
 by_cases d4:nm = [118,97,108,117,101,95,105,110,116]
 ·subst d4
  exact cwr_4 so st ne n B g D w h hw hB
 by_cases d5:nm = [97,120,105,115]
 ·subst d5
  exact cwr_5 so st ne n B g D w h hw hB
 by_cases d6:nm = [116,111]
 ·subst d6
  exact cwr_6 so st ne n B g D w h hw hB
 by_cases d7:nm = [98,108,111,99,107,115,105,122,101]
 ·subst d7
  exact cwr_7 so st ne n B g D w h hw hB
 by_cases d8:nm = [103,114,111,117,112]
 ·subst d8
  exact cwr_8 so st ne n B g D w h hw hB
 by_cases d9:nm = [115,116,97,114,116]
 ·subst d9
  exact cwr_9 so st ne n B g D w h hw hB
 by_cases d10:nm = [101,110,100]
 ·subst d10
  exact cwr_10 so st ne n B g D w h hw hB
 by_cases d11:nm = [109,111,100,101]
 ·subst d11
  exact cwr_11 so st ne n B g D w h hw hB
 by_cases d12:nm = [114,101,100,117,99,116,105,111,110]
 ·subst d12
  exact cwr_12 so st ne n B g D w h hw hB
 by_cases d13:nm = [97,117,116,111,95,112,97,100]
 ·subst d13
  exact cwr_13 so st ne n B g D w h hw hB
 have e:updL D (wrL nm n) = flagD nm (n == 1) D:=by
  unfold wrL flagD
  rw [if_neg d0,if_neg d1,if_neg d2,if_neg d3,if_neg d4,if_neg d5,if_neg d6,if_neg d7,if_neg d8,if_neg d9,if_neg d10,if_neg d11,if_neg d12,if_neg d13]
  cases flagK nm <;> rfl
 rw [e]
 exact cwr_no so st ne n B g D w h nm hn d0 d1 d2 d3 d4 d5 d6 d7 d8 d9 d10 d11 d12 d13
end Go.Proofs.Ytnmciappielkcaa
