import Derived.Laws.BytesArg
import Derived.Test.YtnmciappielkcaaV05
import Derived.Test.YtnmciappielkcaaV07
import Derived.Test.YtnmciappielkcaaV08
set_option maxRecDepth 100000
set_option maxHeartbeats 8000000
namespace Go.Proofs.Ytnmciappielkcaa
open Go.RowKit
set_option linter.unusedVariables false
def strV (s:Str):Value:=.string (strOfNums s)
theorem str_data (s:Str):(strOfNums s).data = (s.map fun n => UInt8.ofNat n.toNat).toArray:=rfl
theorem str_inj {a b:Str} (ha:∀ c ∈ a,0 ≤ c ∧ c < 256) (hb:∀ c ∈ b,0 ≤ c ∧ c < 256) (h:strOfNums a = strOfNums b):a = b:=by
 have h1:(a.map fun n => UInt8.ofNat n.toNat) = b.map fun n => UInt8.ofNat n.toNat:=by
  have:=congrArg ByteArray.data h
  rw [str_data,str_data] at this
  exact List.toArray_inj this
 have key:∀ (x y:Int),0 ≤ x → x < 256 → 0 ≤ y → y < 256 → UInt8.ofNat x.toNat = UInt8.ofNat y.toNat → x = y:=fun x y x0 x1 y0 y1 e => by
  have:=congrArg UInt8.toNat e
  simp only [UInt8.toNat_ofNat'] at this
  omega
 clear h
 induction a generalizing b with
 | nil =>
   cases b with
   | nil => rfl
   | cons _ _ => simp at h1
 | cons x r ih =>
   cases b with
   | nil => simp at h1
   | cons y s =>
     simp only [List.map_cons,List.cons.injEq] at h1
     obtain ⟨x0,x1⟩:=ha x (by simp)
     obtain ⟨y0,y1⟩:=hb y (by simp)
     rw [key x y x0 x1 y0 y1 h1.1,ih (fun c hc => ha c (by simp [hc])) (fun c hc => hb c (by simp [hc])) h1.2]
def TenT (B:Nat) (w:World) (T:Ten) (A:TA):Prop:=TenIn w T A ∧ Tag 3 B w A.pd T.2.1.length ∧ Tag 28 B w A.pf T.2.2.1.length ∧ Tag 2 B w A.pi T.2.2.2.1.length ∧ Tag 4 B w A.pb T.2.2.2.2.length
def tenTS:List TypeId:=[3,28,2,4]
theorem Ints.keptT {k:IntKind} {t:TypeId} {TS:List TypeId} {B:Nat} {w w':World} {p:Option Addr} {cap:Nat} {xs:List Int} (h:Ints k w p cap xs) (g:Tag t B w p xs.length) (ht:t ∈ TS) (kp:Kept TS B w w'):Ints k w' p cap xs:=(h.ls.kept g ht kp).ints h.2.2.1
theorem TenT.kept {B:Nat} {TS:List TypeId} {w w':World} {T:Ten} {A:TA} (h:TenT B w T A) (hs:∀ t ∈ tenTS,t ∈ TS) (k:Kept TS B w w'):TenT B w' T A:=by
 obtain ⟨⟨h1,h2,h3,h4,h5⟩,g1,g2,g3,g4⟩:=h
 have t1:=hs 3 (by simp [tenTS])
 have t2:=hs 28 (by simp [tenTS])
 have t3:=hs 2 (by simp [tenTS])
 have t4:=hs 4 (by simp [tenTS])
 exact ⟨⟨h1,h2.keptT g1 t1 k,h3.keptT g2 t2 k,h4.keptT g3 t3 k,h5.kept g4 t4 k⟩,g1.kept t1 k,g2.kept t2 k,g3.kept t3 k,g4.kept t4 k⟩
structure VaA where
 nm:Str
 ty:Int
 ds:List Int
 q:Option Addr
 c:Nat
def VaA.d (a:VaA):ValD:=(a.nm,a.ty,a.ds)
def VaIn (B:Nat) (w:World) (a:VaA):Prop:=isB a.nm ∧ (Lit.int .i64 a.ty).wf = true ∧ Ints .i64 w a.q a.c a.ds ∧ Tag 3 B w a.q a.ds.length
theorem VaIn.kept {B:Nat} {TS:List TypeId} {w w':World} {a:VaA} (h:VaIn B w a) (hs:3 ∈ TS) (k:Kept TS B w w'):VaIn B w' a:=⟨h.1,h.2.1,h.2.2.1.keptT h.2.2.2 hs k,h.2.2.2.kept hs k⟩
structure InA where
 nm:Str
 T:Ten
 A:TA
def InA.d (a:InA):InitD:=(a.nm,a.T)
def InIn (B:Nat) (w:World) (a:InA):Prop:=isB a.nm ∧ TenT B w a.T a.A
theorem InIn.kept {B:Nat} {TS:List TypeId} {w w':World} {a:InA} (h:InIn B w a) (hs:∀ t ∈ tenTS,t ∈ TS) (k:Kept TS B w w'):InIn B w' a:=⟨h.1,h.2.kept hs k⟩
structure AtA where
 nm:Str
 kd:Int
 f:Int
 i:Int
 s:Str
 T:Ten
 A:TA
 fl:List Int
 qf:Option Addr
 cf:Nat
 is:List Int
 qi:Option Addr
 ci:Nat
def AtA.d (a:AtA):AttrD:=(a.nm,a.kd,a.f,a.i,a.s,a.T,a.fl,a.is)
def noAtA:AtA:=⟨[],0,0,0,[],(0,[],[],[],[]),noTA,[],none,0,[],none,0⟩
def atCells (a:AtA):List Value:=[strV a.nm,.int .i64 a.kd,.int .u32 a.f,.int .i64 a.i,strV a.s] ++ (tenCells a.T a.A).toList ++ [.slice a.qf a.fl.length a.cf,.slice a.qi a.is.length a.ci]
theorem atWd:Wd 12 atCells:=⟨by decide,fun _ => rfl,fun a u hu => by simp [atCells,tenCells] at hu; rcases hu with rfl | rfl | rfl | rfl | rfl | rfl | rfl | rfl | rfl | rfl | rfl | rfl <;> rfl⟩
def AtIn (B:Nat) (w:World) (a:AtA):Prop :=
 isB a.nm ∧ (Lit.int .i64 a.kd).wf = true ∧ (Lit.int .u32 a.f).wf = true ∧ (Lit.int .i64 a.i).wf = true ∧ isB a.s ∧ TenT B w a.T a.A ∧ (Ints .u32 w a.qf a.cf a.fl ∧ Tag 28 B w a.qf a.fl.length) ∧ Ints .i64 w a.qi a.ci a.is ∧ Tag 2 B w a.qi a.is.length
theorem AtIn.kept {B:Nat} {TS:List TypeId} {w w':World} {a:AtA} (h:AtIn B w a) (hs:∀ t ∈ tenTS,t ∈ TS) (k:Kept TS B w w'):AtIn B w' a:=by
 obtain ⟨h1,h2,h3,h4,h5,h6,⟨h7,h8⟩,h9,h10⟩:=h
 have t2:=hs 28 (by simp [tenTS])
 have t3:=hs 2 (by simp [tenTS])
 exact ⟨h1,h2,h3,h4,h5,h6.kept hs k,⟨h7.keptT h8 t2 k,h8.kept t2 k⟩,h9.keptT h10 t3 k,h10.kept t3 k⟩
structure NoA where
 op:Str
 nm:Str
 ins:List Str
 qi:Option Addr
 ci:Nat
 outs:List Str
 qo:Option Addr
 co:Nat
 at':List AtA
 qa:Option Addr
 ca:Nat
def NoA.d (a:NoA):NodeD:=(a.op,a.nm,a.ins,a.outs,a.at'.map AtA.d)
def noCells (a:NoA):List Value:=[strV a.op,strV a.nm,.slice a.qi a.ins.length a.ci,.slice a.qo a.outs.length a.co,.slice a.qa a.at'.length a.ca]
def nodeTS:List TypeId:=[3,28,2,4,9,45]
def NoIn (B:Nat) (w:World) (a:NoA):Prop :=
 isB a.op ∧ isB a.nm ∧ ((∀ s ∈ a.ins,isB s) ∧ Ls strV w a.qi a.ci a.ins ∧ Tag 9 B w a.qi a.ins.length) ∧ ((∀ s ∈ a.outs,isB s) ∧ Ls strV w a.qo a.co a.outs ∧ Tag 9 B w a.qo a.outs.length) ∧ (∀ x ∈ a.at',AtIn B w x) ∧ Rc 12 atCells noAtA w a.qa a.ca a.at' ∧ Tag 45 B w a.qa a.at'.length
theorem NoIn.kept {B:Nat} {TS:List TypeId} {w w':World} {a:NoA} (h:NoIn B w a) (hs:∀ t ∈ nodeTS,t ∈ TS) (k:Kept TS B w w'):NoIn B w' a:=by
 obtain ⟨h1,h2,⟨h3,h4,h5⟩,⟨h6,h7,h8⟩,h9,h10,h11⟩:=h
 have t5:=hs 9 (by simp [nodeTS])
 have t6:=hs 45 (by simp [nodeTS])
 have tt:∀ t ∈ tenTS,t ∈ TS:=fun t ht => hs t (by simp only [tenTS,List.mem_cons,List.not_mem_nil,or_false] at ht; rcases ht with rfl | rfl | rfl | rfl <;> simp [nodeTS])
 exact ⟨h1,h2,⟨h3,h4.kept h5 t5 k,h5.kept t5 k⟩,⟨h6,h7.kept h8 t5 k,h8.kept t5 k⟩,fun x hx => (h9 x hx).kept tt k,h10.kept h11 t6 k,h11.kept t6 k⟩
structure MoA where
 ops:Int
 nm:Str
 nodes:List NoA
 qn:Option Addr
 cn:Nat
 inits:List InA
 qi:Option Addr
 ci:Nat
 inp:List VaA
 qp:Option Addr
 cp:Nat
 out:List VaA
 qo:Option Addr
 co:Nat
def MoA.d (a:MoA):ModelD:=(a.ops,a.nm,a.nodes.map NoA.d,a.inits.map InA.d,a.inp.map VaA.d,a.out.map VaA.d)
def Ent (K:FuncId):Prop:=∀ (args:Array Value) (v:World),(callFunc K args).run Try.prog v = .ok (.enter K args) v
theorem any_take7 {α:Type} (P:α → Bool) (z:α) (l:List α) (n:Nat) (h:n < l.length):(l.take (n + 1)).any P = ((l.take n).any P || P (l.getD n z)):=by
 rw [List.take_add_one,List.any_append,List.getD_eq_getElem?_getD,List.getElem?_eq_getElem h]
 simp
theorem getD_mem7 {α:Type} {z:α} {l:List α} {i:Nat} (h:i < l.length):l.getD i z ∈ l:=by
 rw [List.getD_eq_getElem?_getD,List.getElem?_eq_getElem h]; simp
theorem ent_of {f:FuncId} {fn:Func} {c:Code} (hf:Try.prog.funcs[f]? = some fn) (hname:(fn.name == "runtime.NumGoroutine") = false) (hb:fn.body = some c):Ent f:=by
 intro args w
 have h1:fn.name ≠ "runtime.NumGoroutine":=by simpa using hname
 simp [callFunc,hf,h1,hb,mark]
theorem any_mem7 {α:Type} {P:α → Bool} {z:α} {l:List α} {n:Nat} (h:n < l.length) (hp:P (l.getD n z) = true):l.any P = true:=List.any_eq_true.2 ⟨_,getD_mem7 h,hp⟩
theorem cidxAttr_any (K:FuncId) (hK:Ent K) (caps:Array Value) (P:AtA → Bool) (p:Option Addr) (c:Nat) (l:List AtA) (w:World) (h:Rc 12 atCells noAtA w p c l)
  (H:∀ v,Below w.heap.size w v → ∀ x ∈ l,Calls Try.prog K (#[.agg (atCells x).toArray] ++ caps) v fun e w' => e = .returned (.bool (P x)) ∧ Below v.heap.size v w') :
  Calls Try.prog 65 #[.slice p l.length c,.func (.func K) #[] caps] w fun e w' => (∃ r:Int,e = .returned (.int .i64 r) ∧ decide (0 ≤ r) = l.any P) ∧ Below w.heap.size w w':=by
 have hk:∀ (args:Array Value) (v:World),(callFunc K args).run Try.prog v = .ok (.enter K args) v:=hK
 have A1:=hide h
 have HH:=hide H
 clear hK
 have nl:=h.len
 clear h H
 go_enter Try.func65,Try.ntmps65
 go_wp2_with fail
 go_loopw [8] (fun iv wr => ∃ n:Nat,iv = .int .i64 n ∧ n ≤ l.length ∧ Hid ((l.take n).any P = false) ∧ Hid (Below w.heap.size w wr)) (fun iv _ => l.length - (intOf iv).toNat)
 case atStart => exact ⟨0,rfl,by omega,hide rfl,hide (Below.refl _ _)⟩
 case round =>
  obtain ⟨n,rfl,hn,HN,HB⟩:=hrel
  by_cases hlt:n < l.length
  ·have hi:(n:Int) < (l.length:Int):=by omega
   obtain ⟨b,o,rfl,hb,hc⟩:=((uh A1).below (uh HB)).lies (by omega)
   have k0:wr.cell? ⟨b,o + n * 12,none⟩ = some (strV (l.getD n noAtA).nm):=hc n hlt 0 _ rfl
   have k1:wr.cell? ⟨b,o + n * 12 + 1,none⟩ = some (.int .i64 (l.getD n noAtA).kd):=hc n hlt 1 _ rfl
   have k2:wr.cell? ⟨b,o + n * 12 + 2,none⟩ = some (.int .u32 (l.getD n noAtA).f):=hc n hlt 2 _ rfl
   have k3:wr.cell? ⟨b,o + n * 12 + 3,none⟩ = some (.int .i64 (l.getD n noAtA).i):=hc n hlt 3 _ rfl
   have k4:wr.cell? ⟨b,o + n * 12 + 4,none⟩ = some (strV (l.getD n noAtA).s):=hc n hlt 4 _ rfl
   have k5:wr.cell? ⟨b,o + n * 12 + 5,none⟩ = some (.int .i64 (l.getD n noAtA).T.1):=hc n hlt 5 _ rfl
   have k6:wr.cell? ⟨b,o + n * 12 + 6,none⟩ = some (.slice (l.getD n noAtA).A.pd (l.getD n noAtA).T.2.1.length (l.getD n noAtA).A.cd):=hc n hlt 6 _ rfl
   have k7:wr.cell? ⟨b,o + n * 12 + 7,none⟩ = some (.slice (l.getD n noAtA).A.pf (l.getD n noAtA).T.2.2.1.length (l.getD n noAtA).A.cf):=hc n hlt 7 _ rfl
   have k8:wr.cell? ⟨b,o + n * 12 + 8,none⟩ = some (.slice (l.getD n noAtA).A.pi (l.getD n noAtA).T.2.2.2.1.length (l.getD n noAtA).A.ci):=hc n hlt 8 _ rfl
   have k9:wr.cell? ⟨b,o + n * 12 + 9,none⟩ = some (.slice (l.getD n noAtA).A.pb (l.getD n noAtA).T.2.2.2.2.length (l.getD n noAtA).A.cb):=hc n hlt 9 _ rfl
   have k10:wr.cell? ⟨b,o + n * 12 + 10,none⟩ = some (.slice (l.getD n noAtA).qf (l.getD n noAtA).fl.length (l.getD n noAtA).cf):=hc n hlt 10 _ rfl
   have k11:wr.cell? ⟨b,o + n * 12 + 11,none⟩ = some (.slice (l.getD n noAtA).qi (l.getD n noAtA).is.length (l.getD n noAtA).ci):=hc n hlt 11 _ rfl
   have HX:=hide (fun v (hv:Below wr.heap.size wr v) => uh HH v (bl_tr (uh HB) hv) (l.getD n noAtA) (getD_mem7 hlt))
   have HT:=hide (any_take7 P noAtA l n hlt)
   have HM:=hide (any_mem7 (P:=P) (z:=noAtA) hlt)
   generalize P (l.getD n noAtA) = D at HX HT HM
   generalize l.getD n noAtA = a at k0 k1 k2 k3 k4 k5 k6 k7 k8 k9 k10 k11 HX
   unfold atCells tenCells strV at HX
   simp only [List.cons_append,List.nil_append] at HX
   unfold strV at *
   clear hc
   cases D
   ·have HN2:Hid ((l.take (n + 1)).any P = false):=hide (by rw [uh HT,uh HN]; rfl)
    clear HT HM HN
    go_wp2_with fail
    refine (uh HX _ (Below.refl _ _)).mono ?_
    rintro e w1 ⟨rfl,hb1⟩
    have BB:=hide (bl_tr (uh HB) hb1)
    clear hb1
    go_wp2_with fail
    go_roundw
    case rel => exact ⟨n + 1,by go_num,by omega,HN2,BB⟩
    case measure => simp [intOf]; omega
   ·have HE:=hide (uh HM rfl)
    clear HT HM HN
    go_wp2_with fail
    refine (uh HX _ (Below.refl _ _)).mono ?_
    rintro e w1 ⟨rfl,hb1⟩
    have BB:=hide (bl_tr (uh HB) hb1)
    clear hb1
    go_wp2_with fail
    go_ret
    exact ⟨⟨n,rfl,by rw [uh HE]; simp⟩,uh BB⟩
  ·have hi:¬ (n:Int) < (l.length:Int):=by omega
   have HE:Hid (l.any P = false):=hide (by have:=uh HN; rw [List.take_of_length_le (by omega)] at this; exact this)
   clear HN
   go_wp2_with fail
   go_ret
   exact ⟨⟨-1,rfl,by rw [uh HE]; rfl⟩,uh HB⟩
theorem ccontAttr_any (K:FuncId) (hK:Ent K) (caps:Array Value) (P:AtA → Bool) (p:Option Addr) (c:Nat) (l:List AtA) (w:World) (h:Rc 12 atCells noAtA w p c l)
  (H:∀ v,Below w.heap.size w v → ∀ x ∈ l,Calls Try.prog K (#[.agg (atCells x).toArray] ++ caps) v fun e w' => e = .returned (.bool (P x)) ∧ Below v.heap.size v w') :
  Calls Try.prog 54 #[.slice p l.length c,.func (.func K) #[] caps] w fun e w' => e = .returned (.bool (l.any P)) ∧ Below w.heap.size w w':=by
 have IX:=hide (cidxAttr_any K hK caps P p c l w h H)
 generalize l.any P = D at IX ⊢
 clear h H
 go_enter Try.func54,Try.ntmps54
 go_wp2_with fail
 refine (uh IX).mono ?_
 rintro e v ⟨⟨r,rfl,hr⟩,hb⟩
 have HR:=hide hr
 have HB:=hide hb
 clear hr hb
 go_wp2_with fail
 go_ret
 exact ⟨ret_bool (uh HR),uh HB⟩
end Go.Proofs.Ytnmciappielkcaa
