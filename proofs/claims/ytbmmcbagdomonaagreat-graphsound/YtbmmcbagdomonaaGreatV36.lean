import Derived.Maps.AppendAt
import Derived.Deep.RegionHeld3
import Derived.Lib.SliceRun
import Derived.Test.YtbmmcbagdomonaaGreatV04
import Derived.Test.YtbmmcbagdomonaaGreatV21
import Derived.Test.YtbmmcbagdomonaaGreatV23
import Derived.Test.YtbmmcbagdomonaaGreatV31
import Derived.Test.YtbmmcbagdomonaaGreatV33
import Derived.Test.YtbmmcbagdomonaaGreatV34
import Derived.Test.YtbmmcbagdomonaaGreatV35
set_option maxRecDepth 100000
set_option maxHeartbeats 40000000
namespace Go.Proofs.YtbmmcbagdomonaaGreat
open Go.RowKit
set_option linter.unusedVariables false
set_option linter.unusedSimpArgs false
abbrev ValG:=Int × List Int × Bool × Ten
structure GnD where
 op:Int
 s:SeD
 ins:List Int
 outs:List Int
 src:Int
structure GrD where
 vals:List ValG
 nodes:List GnD
 inp:List Int
 out:List Int
def noGr:GrD:=⟨[],[],[],[]⟩
def findG (L:List Str) (s:Str):Int:=idxI (fun x:Str => decide (x = s)) L
def addG (L:List Str) (s:Str):Option (List Str):=if s = [] ∨ 0 ≤ findG L s then none else some (L ++ [s])
def addO (o:Option (List Str)) (s:Str):Option (List Str):=match o with
 | none => none
 | some L => addG L s
def addsG (o:Option (List Str)) (l:List Str):Option (List Str):=l.foldl addO o
def outsG (o:Option (List Str)) (l:List NodeD):Option (List Str):=l.foldl (fun o n => addsG o n.2.2.2.1) o
def headG (m:ModelD):Option (List Str):=addsG (addsG (some []) (m.2.2.2.1.map fun c => c.1)) (m.2.2.2.2.1.map fun v => v.1)
def firstG (P:Nat → Bool):Nat → Nat → Option Nat
 | 0,_ => none
 | k + 1,n => if P n = true then some n else firstG P k (n + 1)
def insG (L:List Str) (l:List Str):Bool:=l.all fun s => decide (s = []) || decide (0 ≤ findG L s)
def rangeG (a:Int) (n:Nat):List Int:=(List.range n).map fun (k:Nat) => a + (k:Int)
def constG (T:Ten):ValG:=(T.1,T.2.1,true,canonT T)
def emptyG:ValG:=(0,[],false,noTen)
def putG (n:NodeD):List ValG:=n.2.2.2.1.map fun _ => if (resV n).1 = 61 then constG ((resV n).2.1 31).T else emptyG
def valsG (m:ModelD):List ValG:=(m.2.2.2.1.map fun c => constG c.2) ++ (m.2.2.2.2.1.map fun v => (v.2.1,v.2.2,false,noTen)) ++ m.2.2.1.flatMap putG
def nodeG (L:List Str) (base:Int) (i:Nat) (n:NodeD):GnD:=⟨(resV n).1,(resV n).2.1,n.2.2.1.map (findG L),rangeG base n.2.2.2.1.length,i⟩
def nodesG (L:List Str):Int → Nat → List NodeD → List GnD
 | _,_,[] => []
 | b,i,n :: r => nodeG L b i n :: nodesG L (b + n.2.2.2.1.length) (i + 1) r
def givenG (vals:List ValG) (inp:List Int):List Bool:=inp.foldl (fun l v => l.set v.toNat true) (vals.map fun v => v.2.2.1)
def readyG (dl:List Bool) (ins:List Int):Bool:=ins.all fun v => decide (v = -1) || dl.getD v.toNat false
def defG (dl:List Bool) (outs:List Int):List Bool:=outs.foldl (fun l v => l.set v.toNat true) dl
def pickG (dl:List Bool):List GnD → Option (GnD × List GnD)
 | [] => none
 | n :: r => if readyG dl n.ins = true then some (n,r) else match pickG dl r with
   | none => none
   | some (x,l) => some (x,n :: l)
def kahnG:Nat → List Bool → List GnD → List GnD → List GnD × List GnD
 | 0,_,row,rem => (row,rem)
 | k + 1,dl,row,rem => match pickG dl rem with
   | none => (row,rem)
   | some (x,l) => kahnG k (defG dl x.outs) (row ++ [x]) l
def restG (l:List GnD):List GnD:=l.filter fun n => decide (n.op ≠ 61)
def baseG (m:ModelD):Int:=(m.2.2.2.1.length:Int) + m.2.2.2.2.1.length
def inpG (m:ModelD):List Int:=rangeG m.2.2.2.1.length m.2.2.2.2.1.length
def rowG (m:ModelD) (L:List Str):List GnD × List GnD :=
 kahnG (restG (nodesG L (baseG m) 0 m.2.2.1)).length (givenG (valsG m) (inpG m)) [] (restG (nodesG L (baseG m) 0 m.2.2.1))
def buildV (m:ModelD):GrD × Int × Int :=
 if checkM m ≠ 0 then (noGr,checkM m,-1) else
 match firstG (fun i => decide ((resV (m.2.2.1.getD i ([],[],[],[],[]))).2.2 ≠ 0)) m.2.2.1.length 0 with
 | some i => (noGr,(resV (m.2.2.1.getD i ([],[],[],[],[]))).2.2,i)
 | none =>
 match headG m with
 | none => (noGr,13,-1)
 | some _ =>
 match firstG (fun i => (outsG (headG m) (m.2.2.1.take (i + 1))).isNone) m.2.2.1.length 0 with
 | some i => (noGr,13,i)
 | none =>
 match outsG (headG m) m.2.2.1 with
 | none => (noGr,13,-1)
 | some L =>
 match firstG (fun i => !insG L (m.2.2.1.getD i ([],[],[],[],[])).2.2.1) m.2.2.1.length 0 with
 | some i => (noGr,13,i)
 | none =>
 if (m.2.2.2.2.2.all fun v => decide (0 ≤ findG L v.1)) = false then (noGr,13,-1) else
 match (rowG m L).2 with
 | n :: _ => (noGr,12,n.src)
 | [] => (⟨valsG m,(rowG m L).1,inpG m,m.2.2.2.2.2.map fun v => findG L v.1⟩,0,0)
theorem findG_ge (L:List Str) (s:Str):-1 ≤ findG L s:=idxI_ge _ _
theorem findG_lt {L:List Str} {s:Str} (h:0 ≤ findG L s):∃ n:Nat,findG L s = n ∧ n < L.length ∧ L.getD n [] = s:=by
 obtain ⟨n,e,h1,h2,_⟩:=idxI_lt (fun x:Str => decide (x = s)) [] L h
 exact ⟨n,e,h1,by simpa using h2⟩
theorem findG_no {L:List Str} {s:Str}:findG L s < 0 ↔ ¬ s ∈ L:=by
 constructor
 ·intro h hs
  have:=idxI_no (fun x:Str => decide (x = s)) L (by have:=findG_ge L s; unfold findG at this h; omega)
  rw [List.any_eq_false] at this
  exact this s hs (by simp)
 ·intro h
  have:idxI (fun x:Str => decide (x = s)) L = -1:=idxI_none _ _ (by
   rw [List.any_eq_false]
   intro x hx
   simp only [decide_eq_true_eq]
   intro e; subst e; exact h hx)
  unfold findG; omega
theorem findG_at {P R:List Str} {s:Str} (h:findG P s < 0):findG (P ++ s :: R) s = P.length:=by
 refine idxI_found _ [] _ _ (by simp) ?_ ?_
 ·rw [List.take_left,List.any_eq_false]
  intro x hx
  simp only [decide_eq_true_eq]
  intro e; subst e; exact findG_no.1 h hx
 ·rw [List.getD_eq_getElem?_getD,List.getElem?_append_right (Nat.le_refl _),Nat.sub_self]
  simp
theorem findG_pre {P R:List Str} {s:Str} (h:0 ≤ findG P s):findG (P ++ R) s = findG P s:=by
 obtain ⟨n,e,h1,h2,h3⟩:=idxI_lt (fun x:Str => decide (x = s)) [] P h
 have:findG (P ++ R) s = n:=by
  refine idxI_found _ [] _ _ (by rw [List.length_append]; omega) ?_ ?_
  ·rw [List.take_append_of_le_length (by omega)]; exact h3
  ·rw [List.getD_eq_getElem?_getD,List.getElem?_append_left h1,← List.getD_eq_getElem?_getD]; exact h2
 rw [this]; exact e.symm
theorem addO_none (l:List Str):addsG none l = none:=by
 unfold addsG
 induction l with
 | nil => rfl
 | cons a r ih => exact ih
theorem outs_none (l:List NodeD):outsG none l = none:=by
 unfold outsG
 induction l with
 | nil => rfl
 | cons a r ih => rw [List.foldl_cons,addO_none]; exact ih
theorem adds_take (o:Option (List Str)) (l:List Str) (n:Nat) (h:n < l.length):addsG o (l.take (n + 1)) = addO (addsG o (l.take n)) (l.getD n []):=by
 unfold addsG
 rw [List.take_add_one,List.foldl_append,List.getD_eq_getElem?_getD,List.getElem?_eq_getElem h]
 rfl
theorem adds_cut (o:Option (List Str)) (l:List Str) (n:Nat) (h:addsG o (l.take n) = none):addsG o l = none:=by
 have:addsG o l = addsG (addsG o (l.take n)) (l.drop n):=by
  unfold addsG
  rw [← List.foldl_append,List.take_append_drop]
 rw [this,h,addO_none]
theorem outs_take (o:Option (List Str)) (l:List NodeD) (n:Nat) (h:n < l.length):outsG o (l.take (n + 1)) = addsG (outsG o (l.take n)) (l.getD n ([],[],[],[],[])).2.2.2.1:=by
 unfold outsG
 rw [List.take_add_one,List.foldl_append,List.getD_eq_getElem?_getD,List.getElem?_eq_getElem h]
 rfl
theorem outs_cut (o:Option (List Str)) (l:List NodeD) (n:Nat) (h:outsG o (l.take n) = none):outsG o l = none:=by
 have:outsG o l = outsG (outsG o (l.take n)) (l.drop n):=by
  unfold outsG
  rw [← List.foldl_append,List.take_append_drop]
 rw [this,h,outs_none]
theorem addG_some {L L':List Str} {s:Str} (h:addG L s = some L'):L' = L ++ [s] ∧ s ≠ [] ∧ findG L s < 0:=by
 unfold addG at h
 by_cases g:s = [] ∨ 0 ≤ findG L s
 ·rw [if_pos g] at h; cases h
 ·rw [if_neg g] at h
  cases h
  exact ⟨rfl,fun e => g (.inl e),by by_cases h:findG L s < 0; exact h; exact absurd (Or.inr (by omega)) g⟩
theorem addsG_some:∀ (l:List Str) {L L':List Str},addsG (some L) l = some L' → L' = L ++ l
 | [],L,L',h => by cases h; rw [List.append_nil]
 | s :: r,L,L',h => by
   cases e:addG L s with
   | none => 
     have:addsG (some L) (s :: r) = addsG none r:=by show List.foldl addO (addO (some L) s) r = _; show List.foldl addO (addG L s) r = _; rw [e]; rfl
     rw [this,addO_none] at h; cases h
   | some L1 =>
     have:addsG (some L) (s :: r) = addsG (some L1) r:=by show List.foldl addO (addO (some L) s) r = _; show List.foldl addO (addG L s) r = _; rw [e]; rfl
     rw [this] at h
     rw [addsG_some r h,(addG_some e).1,List.append_assoc]
     rfl
theorem outsG_some:∀ (l:List NodeD) {L L':List Str},outsG (some L) l = some L' → L' = L ++ l.flatMap fun n => n.2.2.2.1
 | [],L,L',h => by cases h; simp
 | n :: r,L,L',h => by
   have e0:outsG (some L) (n :: r) = outsG (addsG (some L) n.2.2.2.1) r:=rfl
   rw [e0] at h
   cases e:addsG (some L) n.2.2.2.1 with
   | none => rw [e,outs_none] at h; cases h
   | some L1 =>
     rw [e] at h
     rw [outsG_some r h,addsG_some _ e,List.append_assoc]
     rfl
theorem firstG_none (P:Nat → Bool):∀ (k n:Nat),(∀ i,n ≤ i → i < n + k → P i = false) → firstG P k n = none
 | 0,n,h => rfl
 | k + 1,n,h => by
   unfold firstG
   rw [h n (Nat.le_refl _) (by omega)]
   exact firstG_none P k (n + 1) (fun i h1 h2 => h i (by omega) (by omega))
theorem firstG_some (P:Nat → Bool):∀ (k n i:Nat),n ≤ i → i < n + k → (∀ j,n ≤ j → j < i → P j = false) → P i = true → firstG P k n = some i
 | 0,n,i,h1,h2,h3,h4 => by omega
 | k + 1,n,i,h1,h2,h3,h4 => by
   unfold firstG
   rcases Nat.eq_or_lt_of_le h1 with e | e
   ·subst e; rw [h4]; rfl
   ·rw [h3 n (Nat.le_refl _) e]
    exact firstG_some P k (n + 1) i (by omega) (by omega) (fun j g1 g2 => h3 j (by omega) g2) h4
def Hold (OK:Nat → Prop) (w w':World):Prop:=w.heap.size ≤ w'.heap.size ∧ ∀ b,OK b → b < w.heap.size → w'.heap[b]? = w.heap[b]?
theorem Hold.below {OK:Nat → Prop} {w w':World} (h:Below w.heap.size w w'):Hold OK w w':=⟨h.size,fun b _ hb => h.block b hb⟩
theorem Hold.mono {OK OK':Nat → Prop} {w w':World} (h:Hold OK w w') (hm:∀ b,OK' b → OK b):Hold OK' w w':=⟨h.1,fun b hb hl => h.2 b (hm b hb) hl⟩
theorem Hold.trans {OK:Nat → Prop} {a b c:World} (h:Hold OK a b) (k:Hold OK b c):Hold OK a c:=⟨Nat.le_trans h.1 k.1,fun i hi hl => (k.2 i hi (Nat.lt_of_lt_of_le hl h.1)).trans (h.2 i hi hl)⟩
theorem Hold.stay {OK:Nat → Prop} {g:Nat} {w w':World} (h:Stay g w w') (hg:¬ OK g):Hold OK w w':=by
 refine ⟨h.1.size,fun b hb hl => h.block (fun e => ?_) hl⟩
 subst e; exact hg hb
theorem Hold.grown {OK:Nat → Prop} {w w':World} {v:Value} (h:w.grownBy w' v.ownBlock) (hn:∀ b,OK b → v.ownBlock ≠ some b):Hold OK w w' :=
 ⟨h.size,fun b hb hl => h.block b hl (fun e => hn b hb e.symm)⟩
def Li (k:IntKind) (OK:Nat → Prop) (w:World) (p:Option Addr) (c:Nat) (xs:List Int):Prop :=
 Ints k w p c xs ∧ ∀ b o,p = some ⟨b,o,none⟩ → 0 < xs.length → OK b
def Lb (OK:Nat → Prop) (w:World) (p:Option Addr) (c:Nat) (xs:List Bool):Prop :=
 Ls Value.bool w p c xs ∧ ∀ b o,p = some ⟨b,o,none⟩ → 0 < xs.length → OK b
theorem Ls.inB {α:Type} [Inhabited α] {f:α → Value} {w:World} {p:Option Addr} {c:Nat} {xs:List α} (h:Ls f w p c xs):∀ b o,p = some ⟨b,o,none⟩ → 0 < xs.length → b < w.heap.size:=by
 intro b o e hp
 obtain ⟨b',o',e',hb,_⟩:=h.lies hp
 rw [e] at e'; cases e'; exact hb
theorem Ls.holdG {α:Type} [Inhabited α] {f:α → Value} {OK:Nat → Prop} {w w':World} {p:Option Addr} {c:Nat} {xs:List α} (h:Ls f w p c xs) (hB:∀ b o,p = some ⟨b,o,none⟩ → 0 < xs.length → OK b) (k:Hold OK w w'):Ls f w' p c xs :=
 h.holdS hB k.1 k.2
theorem Li.hold {k:IntKind} {OK:Nat → Prop} {w w':World} {p:Option Addr} {c:Nat} {xs:List Int} (h:Li k OK w p c xs) (m:Hold OK w w'):Li k OK w' p c xs :=
 ⟨(h.1.ls.holdG h.2 m).ints h.1.2.2.1,h.2⟩
theorem Lb.hold {OK:Nat → Prop} {w w':World} {p:Option Addr} {c:Nat} {xs:List Bool} (h:Lb OK w p c xs) (m:Hold OK w w'):Lb OK w' p c xs:=⟨h.1.holdG h.2 m,h.2⟩
theorem Li.mono {k:IntKind} {OK OK':Nat → Prop} {w:World} {p:Option Addr} {c:Nat} {xs:List Int} (h:Li k OK w p c xs) (hm:∀ b,OK b → b < w.heap.size → OK' b):Li k OK' w p c xs :=
 ⟨h.1,fun b o e hp => hm b (h.2 b o e hp) (h.1.ls.inB b o e hp)⟩
theorem Lb.mono {OK OK':Nat → Prop} {w:World} {p:Option Addr} {c:Nat} {xs:List Bool} (h:Lb OK w p c xs) (hm:∀ b,OK b → b < w.heap.size → OK' b):Lb OK' w p c xs :=
 ⟨h.1,fun b o e hp => hm b (h.2 b o e hp) (h.1.inB b o e hp)⟩
theorem Li.nil (k:IntKind) (OK:Nat → Prop) (w:World):Li k OK w none 0 []:=⟨nilInts k w,fun b o e => by cases e⟩
theorem Lb.nil (OK:Nat → Prop) (w:World):Lb OK w none 0 []:=⟨Ls.nil w,fun b o e => by cases e⟩
def TenL (OK:Nat → Prop) (w:World) (T:Ten) (A:TA):Prop :=
 (Lit.int .i64 T.1).wf = true ∧ Li .i64 OK w A.pd A.cd T.2.1 ∧ Li .u32 OK w A.pf A.cf T.2.2.1 ∧ Li .i64 OK w A.pi A.ci T.2.2.2.1 ∧ Lb OK w A.pb A.cb T.2.2.2.2
theorem TenL.inn {OK:Nat → Prop} {w:World} {T:Ten} {A:TA} (h:TenL OK w T A):TenIn w T A:=⟨h.1,h.2.1.1,h.2.2.1.1,h.2.2.2.1.1,h.2.2.2.2.1⟩
theorem TenL.hold {OK:Nat → Prop} {w w':World} {T:Ten} {A:TA} (h:TenL OK w T A) (m:Hold OK w w'):TenL OK w' T A:=⟨h.1,h.2.1.hold m,h.2.2.1.hold m,h.2.2.2.1.hold m,h.2.2.2.2.hold m⟩
theorem TenL.mono {OK OK':Nat → Prop} {w:World} {T:Ten} {A:TA} (h:TenL OK w T A) (hm:∀ b,OK b → b < w.heap.size → OK' b):TenL OK' w T A:=⟨h.1,h.2.1.mono hm,h.2.2.1.mono hm,h.2.2.2.1.mono hm,h.2.2.2.2.mono hm⟩
theorem TenL.no (OK:Nat → Prop) (w:World):TenL OK w noTen noTA:=⟨rfl,Li.nil _ _ _,Li.nil _ _ _,Li.nil _ _ _,Lb.nil _ _⟩
theorem TenOwn.tenL {B:Nat} {w:World} {T:Ten} {A:TA} (h:TenOwn B w T A):TenL (fun b => B ≤ b) w T A :=
 ⟨h.1.1,⟨h.1.2.1,fun b o e hp => (h.2.1 b o e hp).1⟩,⟨h.1.2.2.1,fun b o e hp => (h.2.2.1 b o e hp).1⟩,⟨h.1.2.2.2.1,fun b o e hp => (h.2.2.2.1 b o e hp).1⟩,⟨h.1.2.2.2.2,fun b o e hp => (h.2.2.2.2.1 b o e hp).1⟩⟩
def FL (OK:Nat → Prop) (w:World) (cs:Array Value) (k:Nat):FV → Prop
 | ⟨0,x,_,_,_⟩ => cs[k]? = some (.int .i64 x) ∧ (Lit.int .i64 x).wf = true
 | ⟨1,x,_,_,_⟩ => cs[k]? = some (.int .u32 x) ∧ (Lit.int .u32 x).wf = true
 | ⟨2,_,x,_,_⟩ => cs[k]? = some (.bool x)
 | ⟨3,_,_,xs,_⟩ => ∃ p c,cs[k]? = some (.slice p xs.length c) ∧ Li .i64 OK w p c xs
 | ⟨_ + 4,_,_,_,T⟩ => ∃ A:TA,(cs[k]? = some (.int .i64 T.1) ∧ cs[k + 1]? = some (.slice A.pd T.2.1.length A.cd) ∧ cs[k + 2]? = some (.slice A.pf T.2.2.1.length A.cf) ∧ cs[k + 3]? = some (.slice A.pi T.2.2.2.1.length A.ci) ∧ cs[k + 4]? = some (.slice A.pb T.2.2.2.2.length A.cb)) ∧ TenL OK w T A
def SeL (OK:Nat → Prop) (w:World) (cs:Array Value) (D:SeD):Prop:=cs.size = 36 ∧ ∀ k,k ≤ 31 → FL OK w cs k (D k) ∧ kindF (D k) = kindsK.getD k 0
theorem FL.hold {OK:Nat → Prop} {w w':World} {cs:Array Value} {k:Nat} (m:Hold OK w w'):∀ {f:FV},FL OK w cs k f → FL OK w' cs k f
 | ⟨0,_,_,_,_⟩,h => h
 | ⟨1,_,_,_,_⟩,h => h
 | ⟨2,_,_,_,_⟩,h => h
 | ⟨3,_,_,_,_⟩,⟨p,c,e,h⟩ => ⟨p,c,e,h.hold m⟩
 | ⟨_ + 4,_,_,_,_⟩,⟨A,e,h⟩ => ⟨A,e,h.hold m⟩
theorem FL.mono {OK OK':Nat → Prop} {w:World} {cs:Array Value} {k:Nat} (hm:∀ b,OK b → b < w.heap.size → OK' b):∀ {f:FV},FL OK w cs k f → FL OK' w cs k f
 | ⟨0,_,_,_,_⟩,h => h
 | ⟨1,_,_,_,_⟩,h => h
 | ⟨2,_,_,_,_⟩,h => h
 | ⟨3,_,_,_,_⟩,⟨p,c,e,h⟩ => ⟨p,c,e,h.mono hm⟩
 | ⟨_ + 4,_,_,_,_⟩,⟨A,e,h⟩ => ⟨A,e,h.mono hm⟩
theorem OwL.li {kd:IntKind} {B g:Nat} {w:World} {p:Option Addr} {c:Nat} {xs:List Int} (h:OwL kd B g w p c xs):Li kd (fun b => B ≤ b) w p c xs:=⟨h.1,fun b o e hp => (h.2 b o e hp).1⟩
theorem OwB.lb {B g:Nat} {w:World} {p:Option Addr} {c:Nat} {xs:List Bool} (h:OwB B g w p c xs):Lb (fun b => B ≤ b) w p c xs:=⟨h.1,fun b o e hp => (h.2 b o e hp).1⟩
theorem FIn.fl {B g:Nat} {w:World} {cs:Array Value} {k:Nat}:∀ {f:FV},FIn B g w cs k f → FL (fun b => B ≤ b) w cs k f
 | ⟨0,_,_,_,_⟩,h => h
 | ⟨1,_,_,_,_⟩,h => h
 | ⟨2,_,_,_,_⟩,h => h
 | ⟨3,_,_,_,_⟩,⟨p,c,e,h⟩ => ⟨p,c,e,h.li⟩
 | ⟨_ + 4,_,_,_,_⟩,⟨A,e,h⟩ => ⟨A,e,h.1,h.2.1.li,h.2.2.1.li,h.2.2.2.1.li,h.2.2.2.2.lb⟩
theorem SeL.hold {OK:Nat → Prop} {w w':World} {cs:Array Value} {D:SeD} (h:SeL OK w cs D) (m:Hold OK w w'):SeL OK w' cs D:=⟨h.1,fun k hk => ⟨(h.2 k hk).1.hold m,(h.2 k hk).2⟩⟩
theorem SeL.mono {OK OK':Nat → Prop} {w:World} {cs:Array Value} {D:SeD} (h:SeL OK w cs D) (hm:∀ b,OK b → b < w.heap.size → OK' b):SeL OK' w cs D:=⟨h.1,fun k hk => ⟨(h.2 k hk).1.mono hm,(h.2 k hk).2⟩⟩
theorem SeV.seL {B:Nat} {w:World} {cs:Array Value} {D:SeD} (h:SeV B w cs D):SeL (fun b => B ≤ b) w cs D:=⟨h.1,fun k hk => ⟨(h.2 k hk).1.fl,(h.2 k hk).2⟩⟩
structure GnA where
 op:Int
 cs:Array Value
 D:SeD
 ins:List Int
 qi:Option Addr
 ci:Nat
 outs:List Int
 qo:Option Addr
 co:Nat
 src:Int
 hc:cs.size = 36 ∧ Ones cs
def GnA.d (a:GnA):GnD:=⟨a.op,a.D,a.ins,a.outs,a.src⟩
def noGnA:GnA:=⟨0,zeroC,zeroD,[],none,0,[],none,0,0,⟨rfl,zero_ones⟩⟩
def gnCells (a:GnA):List Value:=.int .i64 a.op :: (a.cs.toList ++ [.slice a.qi a.ins.length a.ci,.slice a.qo a.outs.length a.co,.int .i64 a.src])
theorem gnWd:Wd 40 gnCells:=by
 refine ⟨by omega,fun a => ?_,fun a u hu => ?_⟩
 ·have:=a.hc.1
  simp [gnCells,this]
 ·simp only [gnCells,List.mem_cons,List.mem_append,List.not_mem_nil,or_false] at hu
  rcases hu with rfl | hu | rfl | rfl | rfl
  ·rfl
  ·exact a.hc.2 u hu
  ·rfl
  ·rfl
  ·rfl
def GnIn (OK:Nat → Prop) (w:World) (a:GnA):Prop :=
 (Lit.int .i64 a.op).wf = true ∧ SeL OK w a.cs a.D ∧ Li .i64 OK w a.qi a.ci a.ins ∧ Li .i64 OK w a.qo a.co a.outs ∧ (Lit.int .i64 a.src).wf = true
structure VgA where
 ty:Int
 ds:List Int
 q:Option Addr
 c:Nat
 con:Bool
 T:Ten
 A:TA
def VgA.d (a:VgA):ValG:=(a.ty,a.ds,a.con,a.T)
def noVgA:VgA:=⟨0,[],none,0,false,noTen,noTA⟩
def vgCells (a:VgA):List Value:=[.int .i64 a.ty,.slice a.q a.ds.length a.c,.bool a.con,.int .i64 a.T.1,.slice a.A.pd a.T.2.1.length a.A.cd,.slice a.A.pf a.T.2.2.1.length a.A.cf,.slice a.A.pi a.T.2.2.2.1.length a.A.ci,.slice a.A.pb a.T.2.2.2.2.length a.A.cb]
theorem vgWd:Wd 8 vgCells:=by
 refine ⟨by omega,fun a => rfl,fun a u hu => ?_⟩
 simp only [vgCells,List.mem_cons,List.not_mem_nil,or_false] at hu
 rcases hu with rfl | rfl | rfl | rfl | rfl | rfl | rfl | rfl <;> rfl
def VgIn (OK:Nat → Prop) (w:World) (a:VgA):Prop:=(Lit.int .i64 a.ty).wf = true ∧ Li .i64 OK w a.q a.c a.ds ∧ TenL OK w a.T a.A
structure InP {β:Type} (In:(Nat → Prop) → World → β → Prop):Prop where
 hold:∀ {OK:Nat → Prop} {w w':World} {x:β},In OK w x → Hold OK w w' → In OK w' x
 mono:∀ {OK OK':Nat → Prop} {w:World} {x:β},In OK w x → (∀ b,OK b → b < w.heap.size → OK' b) → In OK' w x
theorem gnP:InP GnIn:=⟨fun h m => ⟨h.1,h.2.1.hold m,h.2.2.1.hold m,h.2.2.2.1.hold m,h.2.2.2.2⟩,fun h m => ⟨h.1,h.2.1.mono m,h.2.2.1.mono m,h.2.2.2.1.mono m,h.2.2.2.2⟩⟩
theorem vgP:InP VgIn:=⟨fun h m => ⟨h.1,h.2.1.hold m,h.2.2.hold m⟩,fun h m => ⟨h.1,h.2.1.mono m,h.2.2.mono m⟩⟩
def Rg {β:Type} (k:Nat) (cells:β → List Value) (z:β) (In:(Nat → Prop) → World → β → Prop) (OK:Nat → Prop) (w:World) (p:Option Addr) (c:Nat) (l:List β):Prop :=
 Rc k cells z w p c l ∧ (∀ b o,p = some ⟨b,o,none⟩ → 0 < l.length → OK b) ∧ ∀ x ∈ l,In OK w x
section
variable {β:Type} {k:Nat} {cells:β → List Value} {z:β} {In:(Nat → Prop) → World → β → Prop} {OK OK':Nat → Prop} {w w':World} {p:Option Addr} {c:Nat} {l:List β}
theorem Rc.inB (h:Rc k cells z w p c l):∀ b o,p = some ⟨b,o,none⟩ → 0 < l.length → b < w.heap.size:=by
 intro b o e hp
 obtain ⟨b',o',e',hb,_⟩:=h.lies hp
 rw [e] at e'; cases e'; exact hb
theorem Rg.hold (hI:InP In) (h:Rg k cells z In OK w p c l) (m:Hold OK w w'):Rg k cells z In OK w' p c l :=
 ⟨h.1.block m.1 (fun b o e hp => m.2 b (h.2.1 b o e hp) (h.1.inB b o e hp)),h.2.1,fun x hx => hI.hold (h.2.2 x hx) m⟩
theorem Rg.mono (hI:InP In) (h:Rg k cells z In OK w p c l) (hm:∀ b,OK b → b < w.heap.size → OK' b):Rg k cells z In OK' w p c l :=
 ⟨h.1,fun b o e hp => hm b (h.2.1 b o e hp) (h.1.inB b o e hp),fun x hx => hI.mono (h.2.2 x hx) hm⟩
theorem Rg.nil (OK:Nat → Prop) (w:World):Rg k cells z In OK w none 0 []:=⟨Rc.nil w,⟨fun b o e => (by cases e),fun x hx => (by cases hx)⟩⟩
theorem getD_mem9 {l:List β} {i:Nat} (h:i < l.length):l.getD i z ∈ l:=by
 rw [List.getD_eq_getElem?_getD,List.getElem?_eq_getElem h]
 exact List.getElem_mem h
end
structure GrA where
 vals:List VgA
 qv:Option Addr
 cv:Nat
 nodes:List GnA
 qn:Option Addr
 cn:Nat
 inp:List Int
 qi:Option Addr
 ci:Nat
 out:List Int
 qo:Option Addr
 co:Nat
def GrA.d (a:GrA):GrD:=⟨a.vals.map VgA.d,a.nodes.map GnA.d,a.inp,a.out⟩
def noGrA:GrA:=⟨[],none,0,[],none,0,[],none,0,[],none,0⟩
def grCells (a:GrA):Array Value:=#[.slice a.qv a.vals.length a.cv,.slice a.qn a.nodes.length a.cn,.slice a.qi a.inp.length a.ci,.slice a.qo a.out.length a.co]
def grV (a:GrA):Value:=.agg (grCells a)
def GrIn (OK:Nat → Prop) (w:World) (a:GrA):Prop :=
 Rg 8 vgCells noVgA VgIn OK w a.qv a.cv a.vals ∧ Rg 40 gnCells noGnA GnIn OK w a.qn a.cn a.nodes ∧ Li .i64 OK w a.qi a.ci a.inp ∧ Li .i64 OK w a.qo a.co a.out
theorem grP:InP GrIn:=⟨fun h m => ⟨h.1.hold vgP m,h.2.1.hold gnP m,h.2.2.1.hold m,h.2.2.2.hold m⟩,fun h m => ⟨h.1.mono vgP m,h.2.1.mono gnP m,h.2.2.1.mono m,h.2.2.2.mono m⟩⟩
theorem noGr_in (OK:Nat → Prop) (w:World):GrIn OK w noGrA:=⟨Rg.nil _ _,Rg.nil _ _,Li.nil _ _ _,Li.nil _ _ _⟩
def OwnE {β:Type} (t:TypeId) (k:Nat) (cells:β → List Value) (In:(Nat → Prop) → World → β → Prop) (w0 w:World) (v:Value) (l:List β):Prop :=
 OwnR t k cells w0 w v l ∧ ∀ x ∈ l,In (fun b => w0.heap.size ≤ b ∧ v.ownBlock ≠ some b) w x
section
variable {β:Type} {k:Nat} {cells:β → List Value} {z:β} {In:(Nat → Prop) → World → β → Prop} {w0 w w':World} {v:Value} {l:List β} {t:TypeId}
theorem OwnE.nil (h:Below w0.heap.size w0 w):OwnE t k cells In w0 w (.slice none 0 0) []:=⟨OwnR.nil t h,fun x hx => by cases hx⟩
theorem OwnE.below (hI:InP In) (h:OwnE t k cells In w0 w v l) (hb:Below w.heap.size w w'):OwnE t k cells In w0 w' v l :=
 ⟨h.1.below hb,fun x hx => hI.hold (h.2 x hx) (Hold.below hb)⟩
theorem OwnE.rg (hk:Wd k cells) (hI:InP In) (h:OwnE t k cells In w0 w v l):∃ p c,v = .slice p l.length c ∧ Rg k cells z In (fun b => w0.heap.size ≤ b) w p c l:=by
 obtain ⟨p,c,e,h1,h2⟩:=h.1.form (z:=z) hk
 have hk0:=hk.1
 refine ⟨p,c,e,h1,fun b o e hp => (h2 b o e (Nat.mul_pos hp hk0)).1,fun x hx => hI.mono (h.2 x hx) (fun b hb _ => hb.1)⟩
theorem OwnR.lt9 (h:OwnR t k cells w0 w v l):∀ g,v.ownBlock = some g → g < w.heap.size ∧ w0.heap.size ≤ g:=by
 intro g hg
 rcases h.1.2 with ⟨hv,_⟩ | ⟨g',cap,cur,hv,hb,hh,_⟩
 ·rw [hv] at hg; cases hg
 ·rw [hv] at hg
  simp only [Value.ownBlock,Option.some.injEq] at hg
  subst hg
  exact ⟨lt_of_block hh,hb⟩
theorem wpList_append_el {P:Program} {ops:Array Oper} {rest:List Oper} {o:Oper} {a:Act} {Q:Exit → Act → World → Prop} (hk:Wd k cells) (hI:InP In) (hgd:o.guard = none) (s x:Operand) (t:TypeId)
  (ho:o.op = .call { callee:=.builtin .append,args:=#[s,x],argTypes:=#[t,t] })
  (w0:World) (e:TypeId) (i:TypeInfo) (zv:Value) (bytes:Nat) (ht:P.underlying t = some (.slice e)) (hi:P.info? e = some i) (hz:i.zero = some zv)
  (hsize:i.size = k) (hby:i.bytes = bytes) (hzs:zv.cells.size = k)
  (v:Value) (l:List β) (hs:a.eval s = v) (hown:OwnE e k cells In w0 w v l)
  (ad:Addr) (c:Nat) (y:β) (hx:a.eval x = .slice (some ad) 1 c) (hc:∀ j u,(cells y)[j]? = some u → w.cell? (ad.add j) = some u)
  (hy:In (fun b => w0.heap.size ≤ b ∧ v.ownBlock ≠ some b) w y)
  (h63:l.length + 1 ≤ maxLen) (hbytes:(l.length + 1) * bytes ≤ 140737488355328)
  (h:∀ v' w',OwnE e k cells In w0 w' v' (l ++ [y]) → w.grownBy w' v.ownBlock → (v'.ownBlock = v.ownBlock ∨ v'.ownBlock = some w.heap.size) → wpList P ops Q rest (a.put o.dst v') w'):wpList P ops Q (o :: rest) a w:=by
 refine wpList_append_own_at w hgd s x t ho w0.heap.size e i zv k bytes ht hi hz hsize hby hzs hk.1 v l.length (l.flatMap cells) hs hown.1.1 ad 1 c (cells y) hx (by rw [hk.2.1,Nat.one_mul]) hc (hk.2.2 y) h63 hbytes hown.1.2.size ?_
 intro v' w' h1 h2 _ h4
 refine h v' w' ⟨⟨?_,hown.1.2.grown h2 hown.1.2.size (fun k hk => (hown.1.1.lt k hk).1)⟩,fun u hu => ?_⟩ h2 h4
 ·rw [List.length_append,List.flatMap_append]
  simpa using h1
 ·have hu':In (fun b => w0.heap.size ≤ b ∧ v.ownBlock ≠ some b) w u:=by
   rcases List.mem_append.1 hu with g | g
   ·exact hown.2 u g
   ·simp only [List.mem_singleton] at g; rw [g]; exact hy
  refine hI.hold (hI.mono hu' (OK':=fun b => (w0.heap.size ≤ b ∧ v.ownBlock ≠ some b ∧ v'.ownBlock ≠ some b)) (fun b hb hl => ⟨hb.1,hb.2,?_⟩)) (Hold.grown h2 (fun b hb => hb.2.1)) |> fun q => hI.mono q (fun b hb _ => ⟨hb.1,hb.2.2⟩)
  rcases h4 with e | e
  ·rw [e]; exact hb.2
  ·rw [e]; intro e2; simp only [Option.some.injEq] at e2; omega
end
theorem rsame7_true (p q:Option Addr) (cap cap':Nat) (xs ys:List Int) (w:World) (h1:Ints .i64 w p cap xs) (h2:Ints .i64 w q cap' ys) (he:xs = ys) :
  Calls Tryz.prog 19 #[.slice p xs.length cap,.slice q ys.length cap'] w fun e w' => e = .returned (.bool true) ∧ Below w.heap.size w w':=by
 refine (rsame7_any p q cap cap' xs ys w h1 h2).mono ?_
 rintro e w1 ⟨rfl,hb⟩
 exact ⟨ret_bool (by simp [he]),hb⟩
theorem step_append_rc {β:Type} {k:Nat} {cells:β → List Value} {P:Program} {ops:Array Oper} {o:Oper} {a:Act} {w:World} {K:Act → World → Prop} {Q:Exit → Act → World → Prop} {E:Prop} (hk:Wd k cells) (z:β) (hg:o.guard = none) (s x:Operand) (t:TypeId)
  (hop:o.op = Op.call { callee:=Callee.builtin Builtin.append,args:=#[s,x],argTypes:=#[t,t] }) (w0:World) (e:TypeId) (i:TypeInfo) (zv:Value) (bytes:Nat)
  (h1:P.underlying t = some (.slice e)) (h2:P.info? e = some i) (h3:i.zero = some zv) (h4:i.size = k) (h5:i.bytes = bytes) (h6:zv.cells.size = k)
  (v:Value) (l:List β) (hs:a.eval s = v) (hown:OwnR e k cells w0 w v l)
  (p:Option Addr) (c:Nat) (m:List β) (hx:a.eval x = .slice p m.length c) (hc:Rc k cells z w p c m)
  (b1:l.length + m.length ≤ maxLen) (b2:(l.length + m.length) * bytes ≤ 140737488355328) (hK:∀ v' w',OwnR e k cells w0 w' v' (l ++ m) → w.grownBy w' v.ownBlock → K (a.put o.dst v') w') :
  if Region.wanted o (yielded ops a.tmps) = true then Oper.wp P o a w K Q else E:=by
 have hw:Region.wanted o (yielded ops a.tmps) = true:=by simp [Region.wanted,hg]
 rw [if_pos hw]
 cases p with
 | none =>
   have hx0:m = []:=by
    rcases Nat.eq_zero_or_pos m.length with g | g
    ·exact List.eq_nil_of_length_eq_zero g
    ·obtain ⟨b,o,e,_⟩:=hc.lies g; cases e
   subst hx0
   have hc0:c = 0:=hc.2.2.2 rfl
   subst hc0
   have hrun:=run_append_owned_none (P:=P) (w:=w) w0.heap.size t o.type e i k h1 h2 v _ _ hown.1
   unfold Oper.wp
   simp only [List.length_nil] at hx
   simp [execOp,hop,resolve,invoke,builtin,hs,hx,hrun,Result.andThen]
   refine hK v w ?_ ⟨rfl,rfl,rfl,Nat.le_refl _,fun _ _ _ => rfl⟩
   rw [List.append_nil]; exact hown
 | some ad =>
   have hcells:∀ j u,(m.flatMap cells)[j]? = some u → w.cell? (ad.add j) = some u:=by
    rcases Nat.eq_zero_or_pos m.length with g | g
    ·have:m = []:=List.eq_nil_of_length_eq_zero g
     subst this
     intro j u hj; simp at hj
    ·obtain ⟨b,o,e,hb,hcc⟩:=hc.lies g
     simp only [Option.some.injEq] at e
     subst e
     exact rc_cells hk hcc
   obtain ⟨v',w',hrun,r1,r2,_⟩:=run_append_own (P:=P) w w0.heap.size t o.type e i zv k bytes h1 h2 h3 h4 h5 h6 hk.1 v l.length (l.flatMap cells) hown.1 ad m.length c (m.flatMap cells) (rc_len hk m) hcells (fun u hu => by
    obtain ⟨f,_,hf⟩:=List.mem_flatMap.1 hu
    exact hk.2.2 f u hf) b1 b2 hown.2.size
   unfold Oper.wp
   simp [execOp,hop,resolve,invoke,builtin,hs,hx,hrun,Result.andThen]
   refine hK v' w' ⟨by rw [List.length_append,List.flatMap_append]; exact r1,?_⟩ r2
   exact hown.2.grown r2 hown.2.size (fun k hk => (hown.1.lt k hk).1)
theorem Box.grown8 {β:Type} {k:Nat} {cells:β → List Value} {w w0 w':World} {g:Nat} {cs:Array Value} {t e:TypeId} {v:Value} {l:List β} (h:Box w g cs t) (ho:OwnR e k cells w0 w v l) (hne:¬ e = t) (hg:w.grownBy w' v.ownBlock):Box w' g cs t:=by
 have hlt:=h.lt
 refine (hg.block g hlt (fun e2 => ?_)).trans h
 rcases ho.1.2 with ⟨hv,_⟩ | ⟨k,cap,cur,hv,_,hh,_⟩
 ·rw [hv] at e2; cases e2
 ·rw [hv] at e2
  simp only [Value.ownBlock,Option.some.injEq] at e2
  subst e2
  unfold Box at h
  rw [h] at hh
  simp only [Option.some.injEq,Obj.cells.injEq] at hh
  exact hne hh.2.1.symm
theorem OwnR.set8 {β:Type} {k:Nat} {cells:β → List Value} {w0 w:World} {g j:Nat} {cs:Array Value} {t e:TypeId} {u v:Value} {l:List β} (h:OwnR e k cells w0 w v l) (hb:Box w g cs t) (hne:¬ e = t) (hB:w0.heap.size ≤ g):OwnR e k cells w0 (w.setCell ⟨g,j,none⟩ u) v l:=by
 obtain ⟨⟨l1,h1⟩,h2⟩:=h
 have h3:Below w0.heap.size w0 (w.setCell ⟨g,j,none⟩ u):=Below.setCell h2 (p:=⟨g,j,none⟩) hB u
 refine ⟨⟨l1,?_⟩,h3⟩
 rcases h1 with ⟨rfl,h0⟩ | ⟨n,cap,cur,rfl,hb1,hh,hc,hm,hs,ht⟩
 ·exact .inl ⟨rfl,h0⟩
 ·refine .inr ⟨n,cap,cur,rfl,hb1,(Below.heap_setCell _ _ _ _ (fun e2 => ?_)).trans hh,hc,hm,hs,ht⟩
  unfold Box at hb
  simp only at e2
  subst e2
  rw [hb] at hh
  simp only [Option.some.injEq,Obj.cells.injEq] at hh
  exact hne hh.2.1.symm
def AggT (t:TypeId) (n:Nat):Prop:=∀ w,(isAgg t).run Tryz.prog w = .ok true w ∧ (sizeOf t).run Tryz.prog w = .ok n w
def At8 (w:World) (b o:Nat) (L:List Value):Prop:=∀ j v,L[j]? = some v → w.cell? ⟨b,o + j,none⟩ = some v
theorem At8.box {w:World} {g:Nat} {cs:Array Value} {t:TypeId} (h:Box w g cs t):At8 w g 0 cs.toList:=fun j v e => by
 rw [Nat.zero_add,h.cell]; simpa using e
theorem loadVar_at8 {t:TypeId} {n:Nat} (ht:AggT t n) {w:World} {b o:Nat} {L:List Value} (hL:L.length = n) (h:At8 w b o L):(loadVar t ⟨b,o,none⟩).run Tryz.prog w = .ok (.agg L.toArray) w:=by
 have:=run_loadCells_list (P:=Tryz.prog) w ⟨b,o,none⟩ L (fun j v hj => by rw [Go.WideShapes.add_plain]; exact h j v hj)
 unfold loadVar
 simp only [Sem.run_bind,(ht w).1,Result.andThen_ok,if_true,(ht w).2,← hL,this,Sem.run_pure]
theorem wpList_loadG {w:World} {ops:Array Oper} {rest:List Oper} {o:Oper} {a:Act} {Q:Exit → Act → World → Prop} {t:TypeId} {n:Nat} (ht:AggT t n) (hgd:o.guard = none) (p:Operand) (ho:o.op = .load t p)
  {b f:Nat} {L:List Value} (hp:a.eval p = .pointer (some ⟨b,f,none⟩)) (hL:L.length = n) (hc:At8 w b f L)
  (h:wpList Tryz.prog ops Q rest (a.put o.dst (.agg L.toArray)) w):wpList Tryz.prog ops Q (o :: rest) a w:=by
 refine wpList_plain hgd fun K hK => ?_
 unfold Oper.wp
 simp only [execOp,ho,Instr.loadAt,hp,Instr.sureAddr,Sem.run_bind,Sem.run_pure,Result.andThen_ok,loadVar_at8 ht hL hc]
 exact hK _ _ h
theorem yields_loadG {ops:Array Oper} {S:World → Prop} {o:Oper} {a:Act} {t:TypeId} {n:Nat} (ht:AggT t n) (hw:Region.wanted o (yielded ops a.tmps) = true) (p:Operand) (ho:o.op = .load t p)
  {b f:Nat} {L:List Value} (hp:a.eval p = .pointer (some ⟨b,f,none⟩)) (hL:L.length = n) (hb:∀ v,S v → At8 v b f L):YieldsIf Tryz.prog ops S o (.agg L.toArray) a :=
 Or.inl ⟨hw,fun v hv => by simp only [execOp,ho,Instr.loadAt,hp,Instr.sureAddr,Sem.run_bind,Sem.run_pure,Result.andThen_ok,loadVar_at8 ht hL (hb v hv)]⟩
theorem wpList_storeG {w:World} {ops:Array Oper} {rest:List Oper} {o:Oper} {a:Act} {Q:Exit → Act → World → Prop} {ty:TypeId} {n:Nat} (ht:AggT ty n) (hgd:o.guard = none) (p x:Operand) (ho:o.op = .store ty p x)
  {g:Nat} {cs old:Array Value} {t:TypeId} (hp:a.eval p = .pointer (some ⟨g,0,none⟩)) (hx:a.eval x = .agg cs) (hb:Box w g old t) (hs:cs.size = n) (hso:old.size = n) (h1:Ones cs)
  (h:∀ w',Box w' g cs t → Stay g w w' → w'.heap.size = w.heap.size → wpList Tryz.prog ops Q rest (a.put o.dst undef) w'):wpList Tryz.prog ops Q (o :: rest) a w:=by
 refine wpList_plain hgd fun K hK => ?_
 have hst:=run_storeCells_at Tryz.prog g 0 t cs.toList 0 old w hb (by simp [hs,hso]) h1
 simp only [Nat.zero_add,Nat.add_zero,List.take_zero,List.nil_append,Array.length_toList] at hst
 rw [List.drop_of_length_le (by simp [hs,hso]),List.append_nil,Array.toArray_toList] at hst
 unfold Oper.wp
 simp only [execOp,ho,Instr.storeAt,storeVar,hp,hx,Value.cells,Instr.sureAddr,Sem.run_bind,Sem.run_pure,Result.andThen_ok,(ht w).2,hs,ne_eq,not_true_eq_false,if_false,hst]
 exact hK _ _ (h _ (setRow_heap w g old cs t (0,0) hb) setRow_stay8 (by simp [World.setRow]))
def isStoreB (o:Oper) (t:TypeId):Bool:=match o.op with
 | .store u _ _ => u == t
 | _ => false
def isLoadB (o:Oper) (t:TypeId):Bool:=match o.op with
 | .load u _ => u == t
 | _ => false
theorem wpList_isStore {w:World} {ops:Array Oper} {rest:List Oper} {o:Oper} {a:Act} {Q:Exit → Act → World → Prop} (t:TypeId) (h:isStoreB o t = true) (k:wpList Tryz.prog ops Q (o :: rest) a w):wpList Tryz.prog ops Q (o :: rest) a w:=k
theorem wpList_isLoad {w:World} {ops:Array Oper} {rest:List Oper} {o:Oper} {a:Act} {Q:Exit → Act → World → Prop} (t:TypeId) (h:isLoadB o t = true) (k:wpList Tryz.prog ops Q (o :: rest) a w):wpList Tryz.prog ops Q (o :: rest) a w:=k
def Bm (w:World) (b:Nat) (dl:List Bool):Prop:=Mrow 4 bc8 w b dl
theorem Bm.at {w:World} {b m:Nat} {dl:List Bool} (h:Bm w b dl) (hm:m < dl.length):w.cell? ⟨b,m,none⟩ = some (.bool (dl.getD m false)):=seen8 h hm rfl
theorem Bm.put {w:World} {b m:Nat} {dl:List Bool} (h:Bm w b dl) (hm:m < dl.length) (x:Bool):Bm (w.setCell ⟨b,m,none⟩ (.bool x)) b (dl.set m x):=by
 have:=Mrow.set bcWd8 h x hm
 unfold Bm
 simpa [setMany,bc8] using this
theorem Bm.lt {w:World} {b:Nat} {dl:List Bool} (h:Bm w b dl):b < w.heap.size:=lt_of_block h
theorem Bm.below {w w':World} {b:Nat} {dl:List Bool} (h:Bm w b dl) (hb:Below w.heap.size w w'):Bm w' b dl:=Mrow.below h hb
theorem Bm.stay {w w':World} {g b:Nat} {dl:List Bool} (h:Bm w b dl) (hs:Stay g w w') (hg:b ≠ g):Bm w' b dl:=(hs.block hg h.lt).trans h
theorem defG_len:∀ (outs:List Int) (dl:List Bool),(defG dl outs).length = dl.length
 | [],dl => rfl
 | x :: r,dl => by
   show (defG (dl.set x.toNat true) r).length = _
   rw [defG_len r,List.length_set]
theorem defG_take (dl:List Bool) (outs:List Int) (n:Nat) (h:n < outs.length):defG dl (outs.take (n + 1)) = (defG dl (outs.take n)).set (outs.getD n 0).toNat true:=by
 unfold defG
 rw [List.take_add_one,List.foldl_append,List.getD_eq_getElem?_getD,List.getElem?_eq_getElem h]
 rfl
theorem ready_take (dl:List Bool) (ins:List Int) (n:Nat) (h:n < ins.length):readyG dl (ins.take (n + 1)) = (readyG dl (ins.take n) && (decide (ins.getD n 0 = -1) || dl.getD (ins.getD n 0).toNat false)):=by
 unfold readyG
 rw [List.take_add_one,List.all_append,List.getD_eq_getElem?_getD,List.getElem?_eq_getElem h]
 simp
theorem ready_cut (dl:List Bool) (ins:List Int) (n:Nat) (h:n < ins.length) (hx:(decide (ins.getD n 0 = -1) || dl.getD (ins.getD n 0).toNat false) = false):readyG dl ins = false:=by
 unfold readyG
 rw [List.all_eq_false]
 refine ⟨ins.getD n 0,getD_mem9 h,?_⟩
 rw [hx]; decide
theorem careDef9_any (q:Option Addr) (c:Nat) (ins:List Int) (b:Nat) (dl:List Bool) (w:World) (h:Ints .i64 w q c ins) (hd:Bm w b dl) (hl:dl.length ≤ 9223372036854775807) (hin:∀ v ∈ ins,v = -1 ∨ (0 ≤ v ∧ v < dl.length)) :
  Calls Tryz.prog 56 #[.slice q ins.length c,.slice (some ⟨b,0,none⟩) dl.length dl.length] w fun e w' => e = .returned (.bool (readyG dl ins)) ∧ w' = w:=by
 have H:=hide h
 have HD:=hide hd
 have HIN:=hide hin
 clear h hd hin
 obtain ⟨R,hR⟩:∃ R,readyG dl ins = R:=⟨_,rfl⟩
 have HR:=hide hR
 rw [hR]
 clear hR
 go_enter Tryz.func56,Tryz.ntmps56
 go_wp2_with fail
 go_loopw [9] (fun iv wr => ∃ n:Nat,iv = .int .i64 n ∧ n ≤ ins.length ∧ wr = w ∧ Hid (readyG dl (ins.take n) = true)) (fun iv _ => ins.length - (intOf iv).toNat)
 case atStart => exact ⟨0,rfl,by omega,rfl,hide rfl⟩
 case round =>
  obtain ⟨n,rfl,hn,hw,HF⟩:=hrel
  subst hw
  by_cases hlt:n < ins.length
  ·have hi:(n:Int) < (ins.length:Int):=by omega
   obtain ⟨bq,oq,hq,hbq,hcq⟩:=(uh H).ls.lies (show 0 < ins.length by omega)
   subst hq
   have k1:wr.cell? ⟨bq,oq + n,none⟩ = some (.int .i64 (ins.getD n 0)):=hcq n hlt
   have HT:=hide (ready_take dl ins n hlt)
   have HC:=hide (ready_cut dl ins n hlt)
   obtain ⟨r0,r1⟩:=(uh H).i64 n hlt
   have hx:=uh HIN _ (getD_mem9 (z:=0) hlt)
   have hlen:=(uh H).ls.len
   clear hcq
   generalize ins.getD n 0 = x at k1 HT HC r0 r1 hx
   by_cases hm:x = -1
   ·subst hm
    go_wp2_with fail
    go_roundw
    case rel => exact ⟨n + 1,by go_num,by omega,trivial,hide (by rw [uh HT,uh HF]; rfl)⟩
    case measure => simp [intOf]; omega
   ·obtain ⟨m,rfl,hmd⟩:∃ m:Nat,x = m ∧ m < dl.length:=by
     rcases hx with e | ⟨h0,h1⟩
     ·exact absurd e hm
     ·exact ⟨x.toNat,by omega,by omega⟩
    clear hx hm
    have k2:=(uh HD).at hmd
    have hmi:(m:Int) < (dl.length:Int):=by omega
    have HE:Hid ((decide ((m:Int) = -1) || dl.getD (m:Int).toNat false) = dl.getD m false):=hide (by
     rw [Int.toNat_natCast,decide_eq_false (by omega),Bool.false_or])
    generalize dl.getD m false = bv at k2 HE
    cases bv with
    | true =>
      go_wp2_with fail
      go_roundw
      case rel => exact ⟨n + 1,by go_num,by omega,trivial,hide (by rw [uh HT,uh HF,uh HE]; rfl)⟩
      case measure => simp [intOf]; omega
    | false =>
      clear hlen r0 r1
      have e0:R = false:=by rw [← uh HR]; exact uh HC (uh HE)
      subst e0
      go_wp2_with fail
      go_ret
      exact ⟨rfl,rfl⟩
  ·have hi:¬ (n:Int) < (ins.length:Int):=by omega
   have e0:R = true:=by rw [← uh HR,← uh HF,List.take_of_length_le (by omega)]
   subst e0
   go_wp2_with fail
   go_ret
   exact ⟨rfl,rfl⟩
theorem cdefine9_any (q:Option Addr) (c:Nat) (outs:List Int) (b:Nat) (dl:List Bool) (w:World) (h:Ints .i64 w q c outs) (hd:Bm w b dl) (ho:∀ b' o,q = some ⟨b',o,none⟩ → 0 < outs.length → b' ≠ b) (hl:dl.length ≤ 9223372036854775807) (hin:∀ v ∈ outs,0 ≤ v ∧ v < dl.length) :
  Calls Tryz.prog 57 #[.slice q outs.length c,.slice (some ⟨b,0,none⟩) dl.length dl.length] w fun e w' => e = .returned (.tuple #[]) ∧ Bm w' b (defG dl outs) ∧ Stay b w w':=by
 have H:=hide h
 have HD:=hide hd
 have HIN:=hide hin
 have HO:=hide ho
 clear h hd hin ho
 go_enter Tryz.func57,Tryz.ntmps57
 go_wp2_with fail
 go_loopw [8] (fun iv wr => ∃ n:Nat,iv = .int .i64 n ∧ n ≤ outs.length ∧ Hid (Bm wr b (defG dl (outs.take n))) ∧ Hid (Stay b w wr)) (fun iv _ => outs.length - (intOf iv).toNat)
 case atStart => exact ⟨0,rfl,by omega,HD,hide (Stay.refl _ _)⟩
 case round =>
  obtain ⟨n,rfl,hn,HF,HS⟩:=hrel
  by_cases hlt:n < outs.length
  ·have hi:(n:Int) < (outs.length:Int):=by omega
   obtain ⟨bq,oq,hq,hbq,hcq⟩:=((uh H).ls.stay8 (uh HO) (uh HS)).lies (show 0 < outs.length by omega)
   subst hq
   have k1:wr.cell? ⟨bq,oq + n,none⟩ = some (.int .i64 (outs.getD n 0)):=hcq n hlt
   have HT:=hide (defG_take dl outs n hlt)
   obtain ⟨r0,r1⟩:=(uh H).i64 n hlt
   obtain ⟨h0,h1⟩:=uh HIN _ (getD_mem9 (z:=0) hlt)
   have hlen:=(uh H).ls.len
   clear hcq
   generalize outs.getD n 0 = x at k1 HT r0 r1 h0 h1
   obtain ⟨m,rfl⟩:∃ m:Nat,x = m:=⟨x.toNat,by omega⟩
   have hmd:m < dl.length:=by omega
   have hm2:m < (defG dl (outs.take n)).length:=by rw [defG_len]; exact hmd
   have k2:=(uh HF).at hm2
   have kf:wr.frozen? ⟨b,m,none⟩ = false:=Mrow.frozen (uh HF) m
   have kl:=(uh HF).lt
   have HP:=hide ((uh HF).put hm2 true)
   generalize (defG dl (outs.take n)).getD m false = bv at k2
   clear hm2
   go_wp2_with fail
   go_roundw
   case rel =>
    refine ⟨n + 1,by go_num,by omega,hide ?_,hide ((uh HS).trans (Stay.set8 _))⟩
    rw [uh HT,Int.toNat_natCast]; exact uh HP
   case measure => simp [intOf]; omega
  ·have hi:¬ (n:Int) < (outs.length:Int):=by omega
   have e0:n = outs.length:=by omega
   subst e0
   rw [List.take_length] at HF
   go_wp2_with fail
   exact bodyPost_end (by simp [results,Tryz.results57,go_sem]) rfl ⟨rfl,uh HF,uh HS⟩
theorem aggVal:AggT 59 8:=fun w => ⟨by kernel_rfl,by kernel_rfl⟩
theorem aggGn:AggT 51 40:=fun w => ⟨by kernel_rfl,by kernel_rfl⟩
theorem Rc.at9 {β:Type} {k:Nat} {cells:β → List Value} {z:β} {w:World} {b o c:Nat} {l:List β} (h:Rc k cells z w (some ⟨b,o,none⟩) c l) {i:Nat} (hi:i < l.length):At8 w b (o + i * k) (cells (l.getD i z)):=by
 obtain ⟨b',o',e,_,hc⟩:=h.lies (show 0 < l.length by omega)
 cases e
 exact fun j v hj => hc i hi j v hj
theorem Wd.ones {β:Type} {k:Nat} {cells:β → List Value} (hk:Wd k cells) (a:β):Ones (cells a).toArray:=fun v hv => hk.2.2 a v (by simpa using hv)
def valZ:Array Value:=#[.int .i64 0,.slice none 0 0,.bool false,.int .i64 0,.slice none 0 0,.slice none 0 0,.slice none 0 0,.slice none 0 0]
theorem vgSize (x:VgA):(vgCells x).toArray.size = 8:=by simp [vgWd.2.1 x]
theorem gnSize (x:GnA):(gnCells x).toArray.size = 40:=by simp [gnWd.2.1 x]
def consG (l:List VgA):List Bool:=l.map fun a => a.con
theorem cons_take (l:List VgA) (n:Nat) (h:n < l.length):(consG (l.take n) ++ List.replicate (l.length - n) false).set n (l.getD n noVgA).con = consG (l.take (n + 1)) ++ List.replicate (l.length - (n + 1)) false:=by
 have e:l.length - n = (l.length - (n + 1)) + 1:=by omega
 have hn:(consG (l.take n)).length = n:=by unfold consG; rw [List.length_map,List.length_take]; omega
 rw [e]
 have:=set_mid (consG (l.take n)) (l.length - (n + 1)) false (l.getD n noVgA).con
 rw [hn] at this
 rw [this]
 unfold consG
 rw [List.take_add_one,List.map_append,List.getD_eq_getElem?_getD,List.getElem?_eq_getElem h]
 simp
theorem cons_len (l:List VgA) (n:Nat) (h:n ≤ l.length):(consG (l.take n) ++ List.replicate (l.length - n) false).length = l.length:=by
 unfold consG; simp; omega
theorem cgiven9_any (G:GrA) (OK:Nat → Prop) (w:World) (h:GrIn OK w G) (hl:G.vals.length ≤ 1099511627776) (hin:∀ v ∈ G.inp,0 ≤ v ∧ v < G.vals.length) :
  Calls Tryz.prog 28 #[grV G] w fun e w' => (∃ b,e = .returned (.slice (some ⟨b,0,none⟩) G.vals.length G.vals.length) ∧ w.heap.size ≤ b ∧ Bm w' b (givenG (G.vals.map VgA.d) G.inp)) ∧ Below w.heap.size w w':=by
 obtain ⟨vals,qv,cv,nodes,qn,cn,inp,qi,ci,out,qo,co⟩:=G
 simp only at hl hin
 obtain ⟨i1,hi1,y1,z1,b1⟩:=info_parts Tryz.info8bool
 have HV:=hide h.1
 have HI:=hide h.2.2.1
 have HIN:=hide hin
 clear h hin
 have hlen:=(uh HV).1.len
 go_enter Tryz.func28,Tryz.ntmps28
 unfold grV grCells
 go_wp2_with (at_make; (refine wpList_make_full _ rfl _ _ 39 rfl (w.heap.size + 1) 4 i1 (.bool false) 1 Tryz.underlying39 hi1 y1 z1 _ _ _ _ vals.length rfl rfl (by omega) (by omega) (by rw [b1]; omega) (by unfold maxLen; omega) (by simp) ?_; intro w3 hown hgrow; have HM:Hid (Bm w3 (w.heap.size + 1) (List.replicate vals.length false)):=hide (by have:=Mrow.made bcWd8 false rfl hown; simpa [Bm] using this); have HB3:=hide ((Below.refl _ _).grown hgrow (Nat.le_refl _) (fun k hk => by cases hk)); have X3:Hid (Box w3 w.heap.size #[.slice qv vals.length cv,.slice qn nodes.length cn,.slice qi inp.length ci,.slice qo out.length co] 32):=hide (Box.below (Box.new _ _ _) (uh HB3)); have BB3:Hid (Below w.heap.size w w3):=hide (bl_tr (al1p _ _) (uh HB3)); clear hown hgrow HB3; have x3:=(uh X3).cell; have xl:=(uh X3).lt))
 obtain ⟨sb,hsb⟩:∃ sb,w.heap.size + 1 = sb:=⟨_,rfl⟩
 have HSB:=hide hsb
 rw [hsb] at HM
 rw [hsb]
 have ZS:Hid (sb < w3.heap.size):=hide (uh HM).lt
 have LV:=hide hlen
 clear hsb x3 xl hlen
 go_loopw [15] (fun iv wr => ∃ n:Nat,iv = .int .i64 n ∧ n ≤ vals.length ∧ Hid (Bm wr sb (consG (vals.take n) ++ List.replicate (vals.length - n) false)) ∧ Hid (Stay sb w3 wr)) (fun iv _ => vals.length - (intOf iv).toNat)
 case atStart => exact ⟨0,rfl,by omega,hide (by simpa [consG] using uh HM),hide (Stay.refl _ _)⟩
 case round =>
  obtain ⟨n,rfl,hn,HF,HS⟩:=hrel
  have BW:Hid (Below w.heap.size w wr):=hide (bl_tr7 (uh BB3) (bl_mono7 (uh HS).1 (by have:=uh HSB; omega)))
  have hlen:=uh LV
  by_cases hlt:n < vals.length
  ·have hi:(n:Int) < (vals.length:Int):=by omega
   obtain ⟨bq,oq,hq,hbq,_⟩:=(uh HV).1.lies (show 0 < vals.length by omega)
   subst hq
   have A1:Hid (At8 wr bq (oq + n * 8) (vgCells (vals.getD n noVgA))):=hide (Rc.at9 ((uh HV).1.below (uh BW)) hlt)
   have HT:=hide (cons_take vals n hlt)
   have hm2:n < (consG (vals.take n) ++ List.replicate (vals.length - n) false).length:=by rw [cons_len _ _ hn]; exact hlt
   have k2:=(uh HF).at hm2
   have kl:=(uh HF).lt
   have kne:sb ≠ wr.heap.size:=by omega
   have kf:wr.frozen? ⟨sb,n,none⟩ = false:=Mrow.frozen (uh HF) n
   have HP:=hide (fun v (hv:Stay wr.heap.size wr v) => ((uh HF).stay hv (by omega)).put hm2 (vals.getD n noVgA).con)
   have HP1:=hide (fun v (hv:Stay wr.heap.size wr v) => ((uh HF).stay hv (by omega)))
   generalize (consG (vals.take n) ++ List.replicate (vals.length - n) false).getD n false = bv at k2
   generalize (vals.getD n noVgA) = x at A1 HP HT
   clear hm2
   go_wp2_with (first
    | (refine wpList_isLoad 59 rfl ?_; refine wpList_loadG aggVal rfl _ rfl rfl (vgWd.2.1 x) (uh A1) ?_)
    | (refine wpList_isStore 59 rfl ?_; (refine wpList_storeG aggVal rfl _ _ rfl rfl rfl (Box.new wr valZ 59) (vgSize x) rfl (vgWd.ones x) ?_; intro w5 b5 s5 z5; have G5:=hide b5; have S5:Hid (Stay wr.heap.size wr w5):=hide ((Stay.below (al1p _ _) (Nat.le_refl _)).trans s5); have z6:w5.heap.size = wr.heap.size + 1:=z5.trans (by simp); have v2:w5.cell? ⟨wr.heap.size,2,none⟩ = some (.bool x.con):=((uh G5).cell 2).trans rfl; have k3:sb < w5.heap.size:=(by omega); have k4:w5.frozen? ⟨sb,n,none⟩ = false:=Mrow.frozen (uh HP1 w5 (uh S5)) n; have k5:w5.cell? ⟨sb,n,none⟩ = some (.bool bv):=(World.cell?_of_block (w:=wr) (a:=⟨sb,n,none⟩) ((uh S5).block kne kl)).trans k2; clear b5 s5 z5)))
   go_roundw
   case rel =>
    refine ⟨n + 1,by go_num,by omega,hide ?_,hide ((uh HS).trans ?_)⟩
    ·rw [← uh HT]; exact uh HP w5 (uh S5)
    ·exact (Stay.below (uh S5).1 (by omega)).trans (Stay.set8 _)
   case measure => simp [intOf]; omega
  ·have hi:¬ (n:Int) < (vals.length:Int):=by omega
   have e0:n = vals.length:=by omega
   subst e0
   rw [List.take_length,Nat.sub_self] at HF
   obtain ⟨v0,hv0⟩:∃ v,v = wr:=⟨_,rfl⟩
   subst hv0
   have X4:Hid (Box v0 w.heap.size _ _):=hide (((uh HS).block (by have:=uh HSB; omega) (uh X3).lt).trans (uh X3))
   have x4:=(uh X4).cell
   have xl4:=(uh X4).lt
   have HG:Hid (givenG (vals.map VgA.d) inp = defG (consG vals) inp):=hide (by unfold givenG defG consG; rw [List.map_map]; rfl)
   have HL:Hid ((consG vals).length = vals.length):=hide (by unfold consG; simp)
   have LI:=hide (uh HI).1.ls.len
   have HF0:Hid (Bm v0 sb (consG vals)):=hide (by simpa using uh HF)
   clear HF
   go_wp2_with fail
   go_loopw [29] (fun iv wr => ∃ n:Nat,iv = .int .i64 n ∧ n ≤ inp.length ∧ Hid (Bm wr sb (defG (consG vals) (inp.take n))) ∧ Hid (Stay sb v0 wr)) (fun iv _ => inp.length - (intOf iv).toNat)
   case atStart => exact ⟨0,rfl,by omega,HF0,hide (Stay.refl _ _)⟩
   case round =>
    obtain ⟨n,rfl,hn,HF,HS2⟩:=hrel
    have BW2:Hid (Below w.heap.size w wr):=hide (bl_tr7 (uh BW) (bl_mono7 (uh HS2).1 (by have:=uh HSB; omega)))
    have hlen:=uh LI
    by_cases hlt:n < inp.length
    ·have hi:(n:Int) < (inp.length:Int):=by omega
     obtain ⟨bq,oq,hq,hbq,hcq⟩:=((uh HI).1.ls.below (uh BW2)).lies (show 0 < inp.length by omega)
     subst hq
     have k1:wr.cell? ⟨bq,oq + n,none⟩ = some (.int .i64 (inp.getD n 0)):=hcq n hlt
     have HT:=hide (defG_take (consG vals) inp n hlt)
     obtain ⟨r0,r1⟩:=(uh HI).1.i64 n hlt
     obtain ⟨h0,h1⟩:=uh HIN _ (getD_mem9 (z:=0) hlt)
     clear hcq
     generalize inp.getD n 0 = x at k1 HT r0 r1 h0 h1
     obtain ⟨m,rfl⟩:∃ m:Nat,x = m:=⟨x.toNat,by omega⟩
     have hmd:m < vals.length:=by omega
     have hm2:m < (defG (consG vals) (inp.take n)).length:=by rw [defG_len,uh HL]; exact hmd
     have k2:=(uh HF).at hm2
     have kf:wr.frozen? ⟨sb,m,none⟩ = false:=Mrow.frozen (uh HF) m
     have kl:=(uh HF).lt
     have HP:=hide ((uh HF).put hm2 true)
     generalize (defG (consG vals) (inp.take n)).getD m false = bv at k2
     clear hm2
     go_wp2_with fail
     go_roundw
     case rel =>
      refine ⟨n + 1,by go_num,by omega,hide ?_,hide ((uh HS2).trans (Stay.set8 _))⟩
      rw [uh HT,Int.toNat_natCast]; exact uh HP
     case measure => simp [intOf]; omega
    ·have hi:¬ (n:Int) < (inp.length:Int):=by omega
     have e0:n = inp.length:=by omega
     subst e0
     rw [List.take_length] at HF
     go_wp2_with fail
     go_ret
     refine ⟨⟨sb,rfl,by have:=uh HSB; omega,?_⟩,uh BW2⟩
     rw [uh HG]; exact uh HF
theorem Box.set8 {w:World} {g:Nat} {a0 a1 a2 a3 a4 a5 a6 a7:Value} {t:TypeId} (h:Box w g #[a0,a1,a2,a3,a4,a5,a6,a7] t) (u0 u1 u2 u3 u4 u5 u6 u7:Value):Box ((((((((w.setCell ⟨g,0,none⟩ u0).setCell ⟨g,1,none⟩ u1).setCell ⟨g,2,none⟩ u2).setCell ⟨g,3,none⟩ u3).setCell ⟨g,4,none⟩ u4).setCell ⟨g,5,none⟩ u5).setCell ⟨g,6,none⟩ u6).setCell ⟨g,7,none⟩ u7) g #[u0,u1,u2,u3,u4,u5,u6,u7] t:=by
 have h0:Box (w.setCell ⟨g,0,none⟩ u0) g #[u0,a1,a2,a3,a4,a5,a6,a7] t:=h.same 0 u0
 have h1:Box ((w.setCell ⟨g,0,none⟩ u0).setCell ⟨g,1,none⟩ u1) g #[u0,u1,a2,a3,a4,a5,a6,a7] t:=h0.same 1 u1
 have h2:Box (((w.setCell ⟨g,0,none⟩ u0).setCell ⟨g,1,none⟩ u1).setCell ⟨g,2,none⟩ u2) g #[u0,u1,u2,a3,a4,a5,a6,a7] t:=h1.same 2 u2
 have h3:Box ((((w.setCell ⟨g,0,none⟩ u0).setCell ⟨g,1,none⟩ u1).setCell ⟨g,2,none⟩ u2).setCell ⟨g,3,none⟩ u3) g #[u0,u1,u2,u3,a4,a5,a6,a7] t:=h2.same 3 u3
 have h4:Box (((((w.setCell ⟨g,0,none⟩ u0).setCell ⟨g,1,none⟩ u1).setCell ⟨g,2,none⟩ u2).setCell ⟨g,3,none⟩ u3).setCell ⟨g,4,none⟩ u4) g #[u0,u1,u2,u3,u4,a5,a6,a7] t:=h3.same 4 u4
 have h5:Box ((((((w.setCell ⟨g,0,none⟩ u0).setCell ⟨g,1,none⟩ u1).setCell ⟨g,2,none⟩ u2).setCell ⟨g,3,none⟩ u3).setCell ⟨g,4,none⟩ u4).setCell ⟨g,5,none⟩ u5) g #[u0,u1,u2,u3,u4,u5,a6,a7] t:=h4.same 5 u5
 have h6:Box (((((((w.setCell ⟨g,0,none⟩ u0).setCell ⟨g,1,none⟩ u1).setCell ⟨g,2,none⟩ u2).setCell ⟨g,3,none⟩ u3).setCell ⟨g,4,none⟩ u4).setCell ⟨g,5,none⟩ u5).setCell ⟨g,6,none⟩ u6) g #[u0,u1,u2,u3,u4,u5,u6,a7] t:=h5.same 6 u6
 have h7:Box ((((((((w.setCell ⟨g,0,none⟩ u0).setCell ⟨g,1,none⟩ u1).setCell ⟨g,2,none⟩ u2).setCell ⟨g,3,none⟩ u3).setCell ⟨g,4,none⟩ u4).setCell ⟨g,5,none⟩ u5).setCell ⟨g,6,none⟩ u6).setCell ⟨g,7,none⟩ u7) g #[u0,u1,u2,u3,u4,u5,u6,u7] t:=h6.same 7 u7
 exact h7
theorem bset8 {B:Nat} {a w:World} (h:Below B a w) {g:Nat} (hg:B ≤ g) (u0 u1 u2 u3 u4 u5 u6 u7:Value):Below B a ((((((((w.setCell ⟨g,0,none⟩ u0).setCell ⟨g,1,none⟩ u1).setCell ⟨g,2,none⟩ u2).setCell ⟨g,3,none⟩ u3).setCell ⟨g,4,none⟩ u4).setCell ⟨g,5,none⟩ u5).setCell ⟨g,6,none⟩ u6).setCell ⟨g,7,none⟩ u7):=by
 have h0:Below B a (w.setCell ⟨g,0,none⟩ u0):=h.setCell hg u0
 have h1:Below B a ((w.setCell ⟨g,0,none⟩ u0).setCell ⟨g,1,none⟩ u1):=h0.setCell hg u1
 have h2:Below B a (((w.setCell ⟨g,0,none⟩ u0).setCell ⟨g,1,none⟩ u1).setCell ⟨g,2,none⟩ u2):=h1.setCell hg u2
 have h3:Below B a ((((w.setCell ⟨g,0,none⟩ u0).setCell ⟨g,1,none⟩ u1).setCell ⟨g,2,none⟩ u2).setCell ⟨g,3,none⟩ u3):=h2.setCell hg u3
 have h4:Below B a (((((w.setCell ⟨g,0,none⟩ u0).setCell ⟨g,1,none⟩ u1).setCell ⟨g,2,none⟩ u2).setCell ⟨g,3,none⟩ u3).setCell ⟨g,4,none⟩ u4):=h3.setCell hg u4
 have h5:Below B a ((((((w.setCell ⟨g,0,none⟩ u0).setCell ⟨g,1,none⟩ u1).setCell ⟨g,2,none⟩ u2).setCell ⟨g,3,none⟩ u3).setCell ⟨g,4,none⟩ u4).setCell ⟨g,5,none⟩ u5):=h4.setCell hg u5
 have h6:Below B a (((((((w.setCell ⟨g,0,none⟩ u0).setCell ⟨g,1,none⟩ u1).setCell ⟨g,2,none⟩ u2).setCell ⟨g,3,none⟩ u3).setCell ⟨g,4,none⟩ u4).setCell ⟨g,5,none⟩ u5).setCell ⟨g,6,none⟩ u6):=h5.setCell hg u6
 have h7:Below B a ((((((((w.setCell ⟨g,0,none⟩ u0).setCell ⟨g,1,none⟩ u1).setCell ⟨g,2,none⟩ u2).setCell ⟨g,3,none⟩ u3).setCell ⟨g,4,none⟩ u4).setCell ⟨g,5,none⟩ u5).setCell ⟨g,6,none⟩ u6).setCell ⟨g,7,none⟩ u7):=h6.setCell hg u7
 exact h7
theorem Box.off8 {w:World} {k g:Nat} {cs:Array Value} {t:TypeId} (h:Box w k cs t) (hne:k ≠ g) (u0 u1 u2 u3 u4 u5 u6 u7:Value):Box ((((((((w.setCell ⟨g,0,none⟩ u0).setCell ⟨g,1,none⟩ u1).setCell ⟨g,2,none⟩ u2).setCell ⟨g,3,none⟩ u3).setCell ⟨g,4,none⟩ u4).setCell ⟨g,5,none⟩ u5).setCell ⟨g,6,none⟩ u6).setCell ⟨g,7,none⟩ u7) k cs t:=by
 have h0:Box (w.setCell ⟨g,0,none⟩ u0) k cs t:=Box.other h hne 0 u0
 have h1:Box ((w.setCell ⟨g,0,none⟩ u0).setCell ⟨g,1,none⟩ u1) k cs t:=Box.other h0 hne 1 u1
 have h2:Box (((w.setCell ⟨g,0,none⟩ u0).setCell ⟨g,1,none⟩ u1).setCell ⟨g,2,none⟩ u2) k cs t:=Box.other h1 hne 2 u2
 have h3:Box ((((w.setCell ⟨g,0,none⟩ u0).setCell ⟨g,1,none⟩ u1).setCell ⟨g,2,none⟩ u2).setCell ⟨g,3,none⟩ u3) k cs t:=Box.other h2 hne 3 u3
 have h4:Box (((((w.setCell ⟨g,0,none⟩ u0).setCell ⟨g,1,none⟩ u1).setCell ⟨g,2,none⟩ u2).setCell ⟨g,3,none⟩ u3).setCell ⟨g,4,none⟩ u4) k cs t:=Box.other h3 hne 4 u4
 have h5:Box ((((((w.setCell ⟨g,0,none⟩ u0).setCell ⟨g,1,none⟩ u1).setCell ⟨g,2,none⟩ u2).setCell ⟨g,3,none⟩ u3).setCell ⟨g,4,none⟩ u4).setCell ⟨g,5,none⟩ u5) k cs t:=Box.other h4 hne 5 u5
 have h6:Box (((((((w.setCell ⟨g,0,none⟩ u0).setCell ⟨g,1,none⟩ u1).setCell ⟨g,2,none⟩ u2).setCell ⟨g,3,none⟩ u3).setCell ⟨g,4,none⟩ u4).setCell ⟨g,5,none⟩ u5).setCell ⟨g,6,none⟩ u6) k cs t:=Box.other h5 hne 6 u6
 have h7:Box ((((((((w.setCell ⟨g,0,none⟩ u0).setCell ⟨g,1,none⟩ u1).setCell ⟨g,2,none⟩ u2).setCell ⟨g,3,none⟩ u3).setCell ⟨g,4,none⟩ u4).setCell ⟨g,5,none⟩ u5).setCell ⟨g,6,none⟩ u6).setCell ⟨g,7,none⟩ u7) k cs t:=Box.other h6 hne 7 u7
 exact h7
theorem sset8 {a w:World} {g:Nat} (h:Stay g a w) (u0 u1 u2 u3 u4 u5 u6 u7:Value):Stay g a ((((((((w.setCell ⟨g,0,none⟩ u0).setCell ⟨g,1,none⟩ u1).setCell ⟨g,2,none⟩ u2).setCell ⟨g,3,none⟩ u3).setCell ⟨g,4,none⟩ u4).setCell ⟨g,5,none⟩ u5).setCell ⟨g,6,none⟩ u6).setCell ⟨g,7,none⟩ u7):=by
 have h0:Stay g a (w.setCell ⟨g,0,none⟩ u0):=h.trans (Stay.set8 u0)
 have h1:Stay g a ((w.setCell ⟨g,0,none⟩ u0).setCell ⟨g,1,none⟩ u1):=h0.trans (Stay.set8 u1)
 have h2:Stay g a (((w.setCell ⟨g,0,none⟩ u0).setCell ⟨g,1,none⟩ u1).setCell ⟨g,2,none⟩ u2):=h1.trans (Stay.set8 u2)
 have h3:Stay g a ((((w.setCell ⟨g,0,none⟩ u0).setCell ⟨g,1,none⟩ u1).setCell ⟨g,2,none⟩ u2).setCell ⟨g,3,none⟩ u3):=h2.trans (Stay.set8 u3)
 have h4:Stay g a (((((w.setCell ⟨g,0,none⟩ u0).setCell ⟨g,1,none⟩ u1).setCell ⟨g,2,none⟩ u2).setCell ⟨g,3,none⟩ u3).setCell ⟨g,4,none⟩ u4):=h3.trans (Stay.set8 u4)
 have h5:Stay g a ((((((w.setCell ⟨g,0,none⟩ u0).setCell ⟨g,1,none⟩ u1).setCell ⟨g,2,none⟩ u2).setCell ⟨g,3,none⟩ u3).setCell ⟨g,4,none⟩ u4).setCell ⟨g,5,none⟩ u5):=h4.trans (Stay.set8 u5)
 have h6:Stay g a (((((((w.setCell ⟨g,0,none⟩ u0).setCell ⟨g,1,none⟩ u1).setCell ⟨g,2,none⟩ u2).setCell ⟨g,3,none⟩ u3).setCell ⟨g,4,none⟩ u4).setCell ⟨g,5,none⟩ u5).setCell ⟨g,6,none⟩ u6):=h5.trans (Stay.set8 u6)
 have h7:Stay g a ((((((((w.setCell ⟨g,0,none⟩ u0).setCell ⟨g,1,none⟩ u1).setCell ⟨g,2,none⟩ u2).setCell ⟨g,3,none⟩ u3).setCell ⟨g,4,none⟩ u4).setCell ⟨g,5,none⟩ u5).setCell ⟨g,6,none⟩ u6).setCell ⟨g,7,none⟩ u7):=h6.trans (Stay.set8 u7)
 exact h7
theorem World.alloc_size9 (w:World) (o:Obj):(w.alloc o).heap.size = w.heap.size + 1:=by simp
end Go.Proofs.YtbmmcbagdomonaaGreat
