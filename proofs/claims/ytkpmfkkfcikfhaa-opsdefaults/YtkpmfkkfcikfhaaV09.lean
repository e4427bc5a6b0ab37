import Derived.Laws.BytesArg
import Derived.Test.YtkpmfkkfcikfhaaV06
import Derived.Test.YtkpmfkkfcikfhaaV08
set_option maxRecDepth 100000
set_option maxHeartbeats 8000000
namespace Go.Proofs.Ytkpmfkkfcikfhaa
open Go.RowKit
set_option linter.unusedVariables false
def strV (s:Str):Value:=.string (strOfNums s)
theorem str_data (s:Str):(strOfNums s).data = (s.map fun n => UInt8.ofNat n.toNat).toArray:=rfl
theorem str_inj {a b:Str} (ha:∀ c ∈ a,0 ≤ c ∧ c < 256) (hb:∀ c ∈ b,0 ≤ c ∧ c < 256) (h:strOfNums a = strOfNums b):a = b:=by
 have h1:(a.map fun n => UInt8.ofNat n.toNat) = b.map fun n => UInt8.ofNat n.toNat:=by
  have:=congrArg ByteArray.data h
  rw [str_data,str_data] at this
  exact List.toArray_inj this
 have key:∀ (x y:Int),0 ≤ x → x < 256 → 0 ≤ y → y < 256 → UInt8.ofNat x.toNat = UInt8.ofNat y.toNat → x = y:=fun x y x0 x1 y0 y1 e => by
  have:=congrArg UInt8.toNat e
  simp only [UInt8.toNat_ofNat'] at this
  omega
 clear h
 induction a generalizing b with
 | nil =>
   cases b with
   | nil => rfl
   | cons _ _ => simp at h1
 | cons x r ih =>
   cases b with
   | nil => simp at h1
   | cons y s =>
     simp only [List.map_cons,List.cons.injEq] at h1
     obtain ⟨x0,x1⟩:=ha x (by simp)
     obtain ⟨y0,y1⟩:=hb y (by simp)
     rw [key x y x0 x1 y0 y1 h1.1,ih (fun c hc => ha c (by simp [hc])) (fun c hc => hb c (by simp [hc])) h1.2]
def TenT (B:Nat) (w:World) (T:Ten) (A:TA):Prop:=TenIn w T A ∧ Tag 3 B w A.pd T.2.1.length ∧ Tag 38 B w A.pf T.2.2.1.length ∧ Tag 2 B w A.pi T.2.2.2.1.length ∧ Tag 4 B w A.pb T.2.2.2.2.length
def tenTS:List TypeId:=[3,38,2,4]
theorem Ints.keptT {k:IntKind} {t:TypeId} {TS:List TypeId} {B:Nat} {w w':World} {p:Option Addr} {cap:Nat} {xs:List Int} (h:Ints k w p cap xs) (g:Tag t B w p xs.length) (ht:t ∈ TS) (kp:Kept TS B w w'):Ints k w' p cap xs:=(h.ls.kept g ht kp).ints h.2.2.1
theorem TenT.kept {B:Nat} {TS:List TypeId} {w w':World} {T:Ten} {A:TA} (h:TenT B w T A) (hs:∀ t ∈ tenTS,t ∈ TS) (k:Kept TS B w w'):TenT B w' T A:=by
 obtain ⟨⟨h1,h2,h3,h4,h5⟩,g1,g2,g3,g4⟩:=h
 have t1:=hs 3 (by simp [tenTS])
 have t2:=hs 38 (by simp [tenTS])
 have t3:=hs 2 (by simp [tenTS])
 have t4:=hs 4 (by simp [tenTS])
 exact ⟨⟨h1,h2.keptT g1 t1 k,h3.keptT g2 t2 k,h4.keptT g3 t3 k,h5.kept g4 t4 k⟩,g1.kept t1 k,g2.kept t2 k,g3.kept t3 k,g4.kept t4 k⟩
structure AtA where
 nm:Str
 kd:Int
 f:Int
 i:Int
 s:Str
 T:Ten
 A:TA
 fl:List Int
 qf:Option Addr
 cf:Nat
 is:List Int
 qi:Option Addr
 ci:Nat
def AtA.d (a:AtA):AttrD:=(a.nm,a.kd,a.f,a.i,a.s,a.T,a.fl,a.is)
def noAtA:AtA:=⟨[],0,0,0,[],(0,[],[],[],[]),noTA,[],none,0,[],none,0⟩
def atCells (a:AtA):List Value:=[strV a.nm,.int .i64 a.kd,.int .u32 a.f,.int .i64 a.i,strV a.s] ++ (tenCells a.T a.A).toList ++ [.slice a.qf a.fl.length a.cf,.slice a.qi a.is.length a.ci]
theorem atWd:Wd 12 atCells:=⟨by decide,fun _ => rfl,fun a u hu => by simp [atCells,tenCells] at hu; rcases hu with rfl | rfl | rfl | rfl | rfl | rfl | rfl | rfl | rfl | rfl | rfl | rfl <;> rfl⟩
def AtIn (B:Nat) (w:World) (a:AtA):Prop :=
 isB a.nm ∧ (Lit.int .i64 a.kd).wf = true ∧ (Lit.int .u32 a.f).wf = true ∧ (Lit.int .i64 a.i).wf = true ∧ isB a.s ∧ TenT B w a.T a.A ∧ (Ints .u32 w a.qf a.cf a.fl ∧ Tag 38 B w a.qf a.fl.length) ∧ Ints .i64 w a.qi a.ci a.is ∧ Tag 2 B w a.qi a.is.length
theorem AtIn.kept {B:Nat} {TS:List TypeId} {w w':World} {a:AtA} (h:AtIn B w a) (hs:∀ t ∈ tenTS,t ∈ TS) (k:Kept TS B w w'):AtIn B w' a:=by
 obtain ⟨h1,h2,h3,h4,h5,h6,⟨h7,h8⟩,h9,h10⟩:=h
 have t2:=hs 38 (by simp [tenTS])
 have t3:=hs 2 (by simp [tenTS])
 exact ⟨h1,h2,h3,h4,h5,h6.kept hs k,⟨h7.keptT h8 t2 k,h8.kept t2 k⟩,h9.keptT h10 t3 k,h10.kept t3 k⟩
structure NoA where
 op:Str
 nm:Str
 ins:List Str
 qi:Option Addr
 ci:Nat
 outs:List Str
 qo:Option Addr
 co:Nat
 at':List AtA
 qa:Option Addr
 ca:Nat
def NoA.d (a:NoA):NodeD:=(a.op,a.nm,a.ins,a.outs,a.at'.map AtA.d)
def noCells (a:NoA):List Value:=[strV a.op,strV a.nm,.slice a.qi a.ins.length a.ci,.slice a.qo a.outs.length a.co,.slice a.qa a.at'.length a.ca]
def nodeTS:List TypeId:=[3,38,2,4,9,52]
def NoIn (B:Nat) (w:World) (a:NoA):Prop :=
 isB a.op ∧ isB a.nm ∧ ((∀ s ∈ a.ins,isB s) ∧ Ls strV w a.qi a.ci a.ins ∧ Tag 9 B w a.qi a.ins.length) ∧ ((∀ s ∈ a.outs,isB s) ∧ Ls strV w a.qo a.co a.outs ∧ Tag 9 B w a.qo a.outs.length) ∧ (∀ x ∈ a.at',AtIn B w x) ∧ Rc 12 atCells noAtA w a.qa a.ca a.at' ∧ Tag 52 B w a.qa a.at'.length
theorem NoIn.kept {B:Nat} {TS:List TypeId} {w w':World} {a:NoA} (h:NoIn B w a) (hs:∀ t ∈ nodeTS,t ∈ TS) (k:Kept TS B w w'):NoIn B w' a:=by
 obtain ⟨h1,h2,⟨h3,h4,h5⟩,⟨h6,h7,h8⟩,h9,h10,h11⟩:=h
 have t5:=hs 9 (by simp [nodeTS])
 have t6:=hs 52 (by simp [nodeTS])
 have tt:∀ t ∈ tenTS,t ∈ TS:=fun t ht => hs t (by simp only [tenTS,List.mem_cons,List.not_mem_nil,or_false] at ht; rcases ht with rfl | rfl | rfl | rfl <;> simp [nodeTS])
 exact ⟨h1,h2,⟨h3,h4.kept h5 t5 k,h5.kept t5 k⟩,⟨h6,h7.kept h8 t5 k,h8.kept t5 k⟩,fun x hx => (h9 x hx).kept tt k,h10.kept h11 t6 k,h11.kept t6 k⟩
end Go.Proofs.Ytkpmfkkfcikfhaa
