import Derived.Deep.DeepAppendWide
import Derived.Laws.BytesArg
import Derived.Lib.ConvBytes
import Derived.Laws.OwnMore
import Derived.Test.YtaikppgoahdjbabGreatV01
import Derived.Test.YtaikppgoahdjbabGreatV02
import Derived.Test.YtaikppgoahdjbabGreatV04
set_option maxRecDepth 100000
set_option maxHeartbeats 8000000
namespace Go.Proofs.YtaikppgoahdjbabGreat
open Go.RowKit
set_option linter.unusedVariables false
def Wd {β:Type} (k:Nat) (cells:β → List Value):Prop:=0 < k ∧ (∀ a,(cells a).length = k) ∧ ∀ a,∀ u ∈ cells a,u.oneCell' = true
def Rc {β:Type} (k:Nat) (cells:β → List Value) (z:β) (w:World) (p:Option Addr) (cap:Nat) (l:List β):Prop :=
 l.length ≤ cap ∧ cap ≤ 9223372036854775807 ∧ (0 < l.length → ∃ b o,p = some ⟨b,o,none⟩ ∧ b < w.heap.size ∧ ∀ i,i < l.length → ∀ j u,(cells (l.getD i z))[j]? = some u → w.cell? ⟨b,o + i * k + j,none⟩ = some u) ∧ (p = none → cap = 0)
section
variable {β:Type} {k:Nat} {cells:β → List Value} {z:β} {w w' wr:World} {p:Option Addr} {cap:Nat} {l:List β} {t:TypeId} {v:Value}
theorem Rc.len (h:Rc k cells z w p cap l):l.length ≤ 9223372036854775807:=Nat.le_trans h.1 h.2.1
theorem Rc.nil (w:World):Rc k cells z w none 0 []:=⟨by simp,by omega,by simp,fun _ => rfl⟩
theorem Rc.lies (h:Rc k cells z w p cap l) (hp:0 < l.length):∃ b o,p = some ⟨b,o,none⟩ ∧ b < w.heap.size ∧ ∀ i,i < l.length → ∀ j u,(cells (l.getD i z))[j]? = some u → w.cell? ⟨b,o + i * k + j,none⟩ = some u:=h.2.2.1 hp
theorem Rc.block (h:Rc k cells z w p cap l) (hs:w.heap.size ≤ w'.heap.size) (hk:∀ b o,p = some ⟨b,o,none⟩ → 0 < l.length → w'.heap[b]? = w.heap[b]?):Rc k cells z w' p cap l:=by
 obtain ⟨h1,h2,h4,h5⟩:=h
 refine ⟨h1,h2,fun hp => ?_,h5⟩
 obtain ⟨b,o,e,g1,g2⟩:=h4 hp
 exact ⟨b,o,e,Nat.lt_of_lt_of_le g1 hs,fun i hi j u hu => (World.cell?_of_block (w:=w) (hk b o e hp)).trans (g2 i hi j u hu)⟩
theorem Rc.below (h:Rc k cells z w p cap l) (hb:Below w.heap.size w w'):Rc k cells z w' p cap l:=by
 refine h.block hb.size (fun b o e hp => ?_)
 obtain ⟨b',o',e',g1,_⟩:=h.lies hp
 rw [e] at e'
 simp only [Option.some.injEq,Addr.mk.injEq] at e'
 rw [e'.1]
 exact hb.block b' g1
def OwnR {β:Type} (t:TypeId) (k:Nat) (cells:β → List Value) (w wr:World) (v:Value) (l:List β):Prop:=wr.ownsRow w.heap.size t k v l.length (l.flatMap cells) ∧ Below w.heap.size w wr
theorem rc_len (hk:Wd k cells) (l:List β):(l.flatMap cells).length = l.length * k:=by
 induction l with
 | nil => simp
 | cons a r ih => rw [List.flatMap_cons,List.length_append,ih,hk.2.1,List.length_cons,Nat.add_mul]; omega
theorem rc_get (hk:Wd k cells):∀ (l:List β) (i j:Nat),i < l.length → j < k → (l.flatMap cells)[i * k + j]? = (cells (l.getD i z))[j]?
 | [],i,j,h,_ => by simp at h
 | a :: r,0,j,h,hj => by
   simp only [List.flatMap_cons,Nat.zero_mul,Nat.zero_add]
   rw [List.getElem?_append_left (by rw [hk.2.1]; exact hj)]
   rfl
 | a :: r,i + 1,j,h,hj => by
   simp only [List.flatMap_cons]
   rw [List.getElem?_append_right (by rw [hk.2.1,Nat.add_mul]; omega),hk.2.1,show (i + 1) * k + j - k = i * k + j by rw [Nat.add_mul]; omega,rc_get hk r i j (by simpa using h) hj]
   rfl
theorem rc_new {cs:Array Value} {x:β} (hk:Wd k cells) (w:World) (t:TypeId) (hc:cs = (cells x).toArray):Rc k cells z (w.alloc (.cells cs t)) (some ⟨w.heap.size,0,none⟩) 1 [x]:=by
 refine ⟨Nat.le_refl _,by omega,fun _ => ⟨w.heap.size,0,rfl,by simp,fun i hi j u hu => ?_⟩,fun h => by cases h⟩
 have hi0:i = 0:=by simp at hi; omega
 subst hi0
 rw [Box.cell (Box.new w cs t),hc]
 have e:0 + 0 * k + j = j:=by omega
 rw [e]
 simpa using hu
end
def Kept (TS:List TypeId) (B:Nat) (w w':World):Prop :=
 w.heap.size ≤ w'.heap.size ∧ (∀ b,b < B → b < w.heap.size → w'.heap[b]? = w.heap[b]?) ∧ ∀ (b:Nat) (cur:Array Value) (t:TypeId),t ∈ TS → w.heap[b]? = some (Obj.cells cur t (0,0)) → w'.heap[b]? = some (Obj.cells cur t (0,0))
theorem Kept.below {TS:List TypeId} {B:Nat} {w w':World} (h:Below w.heap.size w w'):Kept TS B w w':=⟨h.size,fun b _ hb => h.block b hb,fun b cur t _ hh => (h.block b (lt_of_block hh)).trans hh⟩
theorem Kept.trans {TS:List TypeId} {B:Nat} {a b c:World} (h:Kept TS B a b) (k:Kept TS B b c):Kept TS B a c :=
 ⟨Nat.le_trans h.1 k.1,fun i h1 h2 => (k.2.1 i h1 (Nat.lt_of_lt_of_le h2 h.1)).trans (h.2.1 i h1 h2),fun i cur t ht hh => k.2.2 i cur t ht (h.2.2 i cur t ht hh)⟩
theorem Kept.set {TS:List TypeId} {B g j:Nat} {e:TypeId} {w:World} {cur:Array Value} {u:Value} (hp:w.heap[g]? = some (Obj.cells cur e (0,0))) (hB:B ≤ g) (hne:¬ e ∈ TS):Kept TS B w (w.setCell ⟨g,j,none⟩ u):=by
 refine ⟨by simp [World.setCell],fun b h1 h2 => Below.heap_setCell _ _ _ _ (by simp; omega),fun b c2 t ht hh => ?_⟩
 have hn:b ≠ g:=fun e2 => by
  subst e2
  rw [hp] at hh
  simp only [Option.some.injEq,Obj.cells.injEq] at hh
  rw [← hh.2.1] at ht
  exact hne ht
 rw [Below.heap_setCell _ _ _ _ hn]; exact hh
def Tag (t:TypeId) (B:Nat) (w:World) (p:Option Addr) (n:Nat):Prop:=0 < n → ∃ b o,p = some ⟨b,o,none⟩ ∧ b < w.heap.size ∧ (b < B ∨ ∃ cur:Array Value,w.heap[b]? = some (Obj.cells cur t (0,0)))
theorem Tag.kept {t:TypeId} {TS:List TypeId} {B n:Nat} {w w':World} {p:Option Addr} (h:Tag t B w p n) (ht:t ∈ TS) (k:Kept TS B w w'):Tag t B w' p n:=fun hp => by
 obtain ⟨b,o,e,hb,h1 | ⟨cur,h1⟩⟩:=h hp
 ·exact ⟨b,o,e,Nat.lt_of_lt_of_le hb k.1,.inl h1⟩
 ·exact ⟨b,o,e,Nat.lt_of_lt_of_le hb k.1,.inr ⟨cur,k.2.2 b cur t ht h1⟩⟩
theorem Tag.block {t:TypeId} {TS:List TypeId} {B n:Nat} {w w':World} {p:Option Addr} (h:Tag t B w p n) (ht:t ∈ TS) (k:Kept TS B w w'):∀ b o,p = some ⟨b,o,none⟩ → 0 < n → w'.heap[b]? = w.heap[b]?:=fun b o e hp => by
 obtain ⟨b',o',e',hb,h1⟩:=h hp
 rw [e] at e'
 simp only [Option.some.injEq,Addr.mk.injEq] at e'
 obtain ⟨rfl,_,_⟩:=e'
 rcases h1 with h1 | ⟨cur,h1⟩
 ·exact k.2.1 b h1 hb
 ·rw [k.2.2 b cur t ht h1,h1]
theorem Tag.nil (t:TypeId) (B:Nat) (w:World) (p:Option Addr):Tag t B w p 0:=fun hp => by omega
theorem own_tag {t:TypeId} {B base k n:Nat} {w:World} {p:Option Addr} {m c:Nat} {xs:List Value} (h:w.ownsRow base t k (.slice p m c) n xs):Tag t B w p n:=fun hp => by
 rcases h.2 with ⟨_,hn⟩ | ⟨g,cap,cur,hv,hb,hh,_⟩
 ·omega
 ·simp only [Value.slice.injEq] at hv
  exact ⟨g,0,hv.1,lt_of_block hh,.inr ⟨cur,hh⟩⟩
theorem Ls.kept {α:Type} [Inhabited α] {f:α → Value} {t:TypeId} {TS:List TypeId} {B:Nat} {w w':World} {p:Option Addr} {cap:Nat} {xs:List α} (h:Ls f w p cap xs) (g:Tag t B w p xs.length) (ht:t ∈ TS) (k:Kept TS B w w'):Ls f w' p cap xs:=by
 have hb:=g.block ht k
 obtain ⟨h1,h2,h4,h5⟩:=h
 refine ⟨h1,h2,fun hp => ?_,h5⟩
 obtain ⟨b,o,e,g1,g2⟩:=h4 hp
 exact ⟨b,o,e,Nat.lt_of_lt_of_le g1 k.1,fun i hi => (World.cell?_of_block (w:=w) (hb b o e hp)).trans (g2 i hi)⟩
theorem Rc.kept {β:Type} {n:Nat} {cells:β → List Value} {z:β} {t:TypeId} {TS:List TypeId} {B:Nat} {w w':World} {p:Option Addr} {cap:Nat} {l:List β} (h:Rc n cells z w p cap l) (g:Tag t B w p l.length) (ht:t ∈ TS) (k:Kept TS B w w'):Rc n cells z w' p cap l :=
 h.block k.1 (g.block ht k)
def strV (s:Str):Value:=.string (strOfNums s)
theorem str_data (s:Str):(strOfNums s).data = (s.map fun n => UInt8.ofNat n.toNat).toArray:=rfl
theorem str_inj {a b:Str} (ha:∀ c ∈ a,0 ≤ c ∧ c < 256) (hb:∀ c ∈ b,0 ≤ c ∧ c < 256) (h:strOfNums a = strOfNums b):a = b:=by
 have h1:(a.map fun n => UInt8.ofNat n.toNat) = b.map fun n => UInt8.ofNat n.toNat:=by
  have:=congrArg ByteArray.data h
  rw [str_data,str_data] at this
  exact List.toArray_inj this
 have key:∀ (x y:Int),0 ≤ x → x < 256 → 0 ≤ y → y < 256 → UInt8.ofNat x.toNat = UInt8.ofNat y.toNat → x = y:=fun x y x0 x1 y0 y1 e => by
  have:=congrArg UInt8.toNat e
  simp only [UInt8.toNat_ofNat'] at this
  omega
 clear h
 induction a generalizing b with
 | nil =>
   cases b with
   | nil => rfl
   | cons _ _ => simp at h1
 | cons x r ih =>
   cases b with
   | nil => simp at h1
   | cons y s =>
     simp only [List.map_cons,List.cons.injEq] at h1
     obtain ⟨x0,x1⟩:=ha x (by simp)
     obtain ⟨y0,y1⟩:=hb y (by simp)
     rw [key x y x0 x1 y0 y1 h1.1,ih (fun c hc => ha c (by simp [hc])) (fun c hc => hb c (by simp [hc])) h1.2]
theorem str_len (s:Str):(strOfNums s).size = s.length:=by
 show (strOfNums s).data.size = _
 rw [str_data]; simp
def TenT (B:Nat) (w:World) (T:Ten) (A:TA):Prop:=TenIn w T A ∧ Tag 3 B w A.pd T.2.1.length ∧ Tag 118 B w A.pf T.2.2.1.length ∧ Tag 2 B w A.pi T.2.2.2.1.length ∧ Tag 4 B w A.pb T.2.2.2.2.length
def tenTS:List TypeId:=[3,118,2,4]
theorem Ints.keptT {k:IntKind} {t:TypeId} {TS:List TypeId} {B:Nat} {w w':World} {p:Option Addr} {cap:Nat} {xs:List Int} (h:Ints k w p cap xs) (g:Tag t B w p xs.length) (ht:t ∈ TS) (kp:Kept TS B w w'):Ints k w' p cap xs:=(h.ls.kept g ht kp).ints h.2.2.1
theorem TenT.kept {B:Nat} {TS:List TypeId} {w w':World} {T:Ten} {A:TA} (h:TenT B w T A) (hs:∀ t ∈ tenTS,t ∈ TS) (k:Kept TS B w w'):TenT B w' T A:=by
 obtain ⟨⟨h1,h2,h3,h4,h5⟩,g1,g2,g3,g4⟩:=h
 have t1:=hs 3 (by simp [tenTS])
 have t2:=hs 118 (by simp [tenTS])
 have t3:=hs 2 (by simp [tenTS])
 have t4:=hs 4 (by simp [tenTS])
 exact ⟨⟨h1,h2.keptT g1 t1 k,h3.keptT g2 t2 k,h4.keptT g3 t3 k,h5.kept g4 t4 k⟩,g1.kept t1 k,g2.kept t2 k,g3.kept t3 k,g4.kept t4 k⟩
structure VaA where
 nm:Str
 ty:Int
 ds:List Int
 q:Option Addr
 c:Nat
def VaA.d (a:VaA):ValD:=(a.nm,a.ty,a.ds)
def noVaA:VaA:=⟨[],0,[],none,0⟩
def vaCells (a:VaA):List Value:=[strV a.nm,.int .i64 a.ty,.slice a.q a.ds.length a.c]
theorem vaWd:Wd 3 vaCells:=⟨by decide,fun _ => rfl,fun a u hu => by simp [vaCells] at hu; rcases hu with rfl | rfl | rfl <;> rfl⟩
def VaIn (B:Nat) (w:World) (a:VaA):Prop:=isB a.nm ∧ (Lit.int .i64 a.ty).wf = true ∧ Ints .i64 w a.q a.c a.ds ∧ Tag 3 B w a.q a.ds.length
theorem VaIn.kept {B:Nat} {TS:List TypeId} {w w':World} {a:VaA} (h:VaIn B w a) (hs:3 ∈ TS) (k:Kept TS B w w'):VaIn B w' a:=⟨h.1,h.2.1,h.2.2.1.keptT h.2.2.2 hs k,h.2.2.2.kept hs k⟩
structure InA where
 nm:Str
 T:Ten
 A:TA
def InA.d (a:InA):InitD:=(a.nm,a.T)
def noInA:InA:=⟨[],(0,[],[],[],[]),noTA⟩
def inCells (a:InA):List Value:=strV a.nm :: (tenCells a.T a.A).toList
theorem inWd:Wd 6 inCells:=⟨by decide,fun _ => rfl,fun a u hu => by simp [inCells,tenCells] at hu; rcases hu with rfl | rfl | rfl | rfl | rfl | rfl <;> rfl⟩
def InIn (B:Nat) (w:World) (a:InA):Prop:=isB a.nm ∧ TenT B w a.T a.A
theorem InIn.kept {B:Nat} {TS:List TypeId} {w w':World} {a:InA} (h:InIn B w a) (hs:∀ t ∈ tenTS,t ∈ TS) (k:Kept TS B w w'):InIn B w' a:=⟨h.1,h.2.kept hs k⟩
structure AtA where
 nm:Str
 kd:Int
 f:Int
 i:Int
 s:Str
 T:Ten
 A:TA
 fl:List Int
 qf:Option Addr
 cf:Nat
 is:List Int
 qi:Option Addr
 ci:Nat
def AtA.d (a:AtA):AttrD:=(a.nm,a.kd,a.f,a.i,a.s,a.T,a.fl,a.is)
def noAtA:AtA:=⟨[],0,0,0,[],(0,[],[],[],[]),noTA,[],none,0,[],none,0⟩
def atCells (a:AtA):List Value:=[strV a.nm,.int .i64 a.kd,.int .u32 a.f,.int .i64 a.i,strV a.s] ++ (tenCells a.T a.A).toList ++ [.slice a.qf a.fl.length a.cf,.slice a.qi a.is.length a.ci]
theorem atWd:Wd 12 atCells:=⟨by decide,fun _ => rfl,fun a u hu => by simp [atCells,tenCells] at hu; rcases hu with rfl | rfl | rfl | rfl | rfl | rfl | rfl | rfl | rfl | rfl | rfl | rfl <;> rfl⟩
def AtIn (B:Nat) (w:World) (a:AtA):Prop :=
 isB a.nm ∧ (Lit.int .i64 a.kd).wf = true ∧ (Lit.int .u32 a.f).wf = true ∧ (Lit.int .i64 a.i).wf = true ∧ isB a.s ∧ TenT B w a.T a.A ∧ (Ints .u32 w a.qf a.cf a.fl ∧ Tag 118 B w a.qf a.fl.length) ∧ Ints .i64 w a.qi a.ci a.is ∧ Tag 2 B w a.qi a.is.length
theorem AtIn.kept {B:Nat} {TS:List TypeId} {w w':World} {a:AtA} (h:AtIn B w a) (hs:∀ t ∈ tenTS,t ∈ TS) (k:Kept TS B w w'):AtIn B w' a:=by
 obtain ⟨h1,h2,h3,h4,h5,h6,⟨h7,h8⟩,h9,h10⟩:=h
 have t2:=hs 118 (by simp [tenTS])
 have t3:=hs 2 (by simp [tenTS])
 exact ⟨h1,h2,h3,h4,h5,h6.kept hs k,⟨h7.keptT h8 t2 k,h8.kept t2 k⟩,h9.keptT h10 t3 k,h10.kept t3 k⟩
structure NoA where
 op:Str
 nm:Str
 ins:List Str
 qi:Option Addr
 ci:Nat
 outs:List Str
 qo:Option Addr
 co:Nat
 at':List AtA
 qa:Option Addr
 ca:Nat
def NoA.d (a:NoA):NodeD:=(a.op,a.nm,a.ins,a.outs,a.at'.map AtA.d)
def noNoA:NoA:=⟨[],[],[],none,0,[],none,0,[],none,0⟩
def noCells (a:NoA):List Value:=[strV a.op,strV a.nm,.slice a.qi a.ins.length a.ci,.slice a.qo a.outs.length a.co,.slice a.qa a.at'.length a.ca]
theorem noWd:Wd 5 noCells:=⟨by decide,fun _ => rfl,fun a u hu => by simp [noCells] at hu; rcases hu with rfl | rfl | rfl | rfl | rfl <;> rfl⟩
def nodeTS:List TypeId:=[3,118,2,4,9,120]
def NoIn (B:Nat) (w:World) (a:NoA):Prop :=
 isB a.op ∧ isB a.nm ∧ ((∀ s ∈ a.ins,isB s) ∧ Ls strV w a.qi a.ci a.ins ∧ Tag 9 B w a.qi a.ins.length) ∧ ((∀ s ∈ a.outs,isB s) ∧ Ls strV w a.qo a.co a.outs ∧ Tag 9 B w a.qo a.outs.length) ∧ (∀ x ∈ a.at',AtIn B w x) ∧ Rc 12 atCells noAtA w a.qa a.ca a.at' ∧ Tag 120 B w a.qa a.at'.length
theorem NoIn.kept {B:Nat} {TS:List TypeId} {w w':World} {a:NoA} (h:NoIn B w a) (hs:∀ t ∈ nodeTS,t ∈ TS) (k:Kept TS B w w'):NoIn B w' a:=by
 obtain ⟨h1,h2,⟨h3,h4,h5⟩,⟨h6,h7,h8⟩,h9,h10,h11⟩:=h
 have t5:=hs 9 (by simp [nodeTS])
 have t6:=hs 120 (by simp [nodeTS])
 have tt:∀ t ∈ tenTS,t ∈ TS:=fun t ht => hs t (by simp only [tenTS,List.mem_cons,List.not_mem_nil,or_false] at ht; rcases ht with rfl | rfl | rfl | rfl <;> simp [nodeTS])
 exact ⟨h1,h2,⟨h3,h4.kept h5 t5 k,h5.kept t5 k⟩,⟨h6,h7.kept h8 t5 k,h8.kept t5 k⟩,fun x hx => (h9 x hx).kept tt k,h10.kept h11 t6 k,h11.kept t6 k⟩
structure MoA where
 ops:Int
 nm:Str
 nodes:List NoA
 qn:Option Addr
 cn:Nat
 inits:List InA
 qi:Option Addr
 ci:Nat
 inp:List VaA
 qp:Option Addr
 cp:Nat
 out:List VaA
 qo:Option Addr
 co:Nat
def MoA.d (a:MoA):ModelD:=(a.ops,a.nm,a.nodes.map NoA.d,a.inits.map InA.d,a.inp.map VaA.d,a.out.map VaA.d)
def noMoA:MoA:=⟨0,[],[],none,0,[],none,0,[],none,0,[],none,0⟩
def moCells (a:MoA):Array Value:=#[.int .i64 a.ops,strV a.nm,.slice a.qn a.nodes.length a.cn,.slice a.qi a.inits.length a.ci,.slice a.qp a.inp.length a.cp,.slice a.qo a.out.length a.co]
def moV (a:MoA):Value:=.agg (moCells a)
def modelTS:List TypeId:=[3,118,2,4,9,120,81,88,47]
def MoIn (B:Nat) (w:World) (a:MoA):Prop :=
 (Lit.int .i64 a.ops).wf = true ∧ isB a.nm ∧ ((∀ x ∈ a.nodes,NoIn B w x) ∧ Rc 5 noCells noNoA w a.qn a.cn a.nodes ∧ Tag 81 B w a.qn a.nodes.length) ∧ ((∀ x ∈ a.inits,InIn B w x) ∧ Rc 6 inCells noInA w a.qi a.ci a.inits ∧ Tag 88 B w a.qi a.inits.length) ∧
  ((∀ x ∈ a.inp,VaIn B w x) ∧ Rc 3 vaCells noVaA w a.qp a.cp a.inp ∧ Tag 47 B w a.qp a.inp.length) ∧ (∀ x ∈ a.out,VaIn B w x) ∧ Rc 3 vaCells noVaA w a.qo a.co a.out ∧ Tag 47 B w a.qo a.out.length
theorem MoIn.kept {B:Nat} {w w':World} {a:MoA} (h:MoIn B w a) (k:Kept modelTS B w w'):MoIn B w' a:=by
 obtain ⟨h1,h2,⟨a1,a2,a3⟩,⟨b1,b2,b3⟩,⟨c1,c2,c3⟩,d1,d2,d3⟩:=h
 have tn:∀ t ∈ nodeTS,t ∈ modelTS:=fun t ht => by simp only [nodeTS,List.mem_cons,List.not_mem_nil,or_false] at ht; rcases ht with rfl | rfl | rfl | rfl | rfl | rfl <;> simp [modelTS]
 have tt:∀ t ∈ tenTS,t ∈ modelTS:=fun t ht => by simp only [tenTS,List.mem_cons,List.not_mem_nil,or_false] at ht; rcases ht with rfl | rfl | rfl | rfl <;> simp [modelTS]
 have t1:81 ∈ modelTS:=by simp [modelTS]
 have t2:88 ∈ modelTS:=by simp [modelTS]
 have t3:47 ∈ modelTS:=by simp [modelTS]
 have t4:3 ∈ modelTS:=by simp [modelTS]
 exact ⟨h1,h2,⟨fun x hx => (a1 x hx).kept tn k,a2.kept a3 t1 k,a3.kept t1 k⟩,⟨fun x hx => (b1 x hx).kept tt k,b2.kept b3 t2 k,b3.kept t2 k⟩,⟨fun x hx => (c1 x hx).kept t4 k,c2.kept c3 t3 k,c3.kept t3 k⟩,fun x hx => (d1 x hx).kept t4 k,d2.kept d3 t3 k,d3.kept t3 k⟩
theorem MoIn.below {B:Nat} {w w':World} {a:MoA} (h:MoIn B w a) (hb:Below w.heap.size w w'):MoIn B w' a:=h.kept (Kept.below hb)
theorem any_takeI (P:Int → Bool) (l:List Int) (n:Nat) (h:n < l.length):(l.take (n + 1)).any P = ((l.take n).any P || P (l.getD n 0)):=by
 rw [List.take_add_one,List.any_append,List.getD_eq_getElem?_getD,List.getElem?_eq_getElem h]
 simp
theorem any_memI {P:Int → Bool} {l:List Int} {n:Nat} (h:n < l.length) (hp:P (l.getD n 0) = true):l.any P = true:=List.any_eq_true.2 ⟨_,getD_mem6 h,hp⟩
theorem field_blk (num:Int) (b:List Int):fieldB (blkF num b) = varV (num * 8 + 2) ++ (varV (b.length:Int) ++ b):=by
 unfold fieldB bodyB blkF
 simp
theorem below_bytes (w:World) (e:TypeId) (s:ByteArray):Below w.heap.size w (Go.Lib.bytesWorld w e s):=by
 refine ⟨?_,?_,?_,by rw [Go.Lib.bytesWorld_size]; omega,fun k hk => Go.Lib.bytesWorld_at_old w e s k hk⟩
 all_goals rfl
theorem str_isE (s:Str):(strOfNums s).toList.isEmpty = decide (s = []):=by
 rw [ByteArray.toList_eq,strOfNums_data]
 cases s <;> rfl
theorem u64w_rng (x:Int):0 ≤ u64w x ∧ u64w x < 18446744073709551616:=by
 unfold u64w
 rw [IntKind.wrap_u64]
 omega
theorem str_getD {s:Str} {j:Nat} (hs:isB s) (hj:j < s.length):(((strOfNums s).data.toList.getD j 0).toNat:Int) = s.getD j 0:=by
 rw [strOfNums_data,List.getD_eq_getElem?_getD,List.getElem?_map,List.getElem?_eq_getElem hj,List.getD_eq_getElem?_getD,List.getElem?_eq_getElem hj]
 obtain ⟨h0,h1⟩:=hs s[j] (List.getElem_mem hj)
 simp only [Option.map_some,Option.getD_some,UInt8.toNat_ofNat']
 omega
theorem ls_bytes {w:World} {e:TypeId} {s:Str} (hs:isB s) (hl:s.length ≤ 9223372036854775807):Ls (Value.int .u8) (Go.Lib.bytesWorld w e (strOfNums s)) (some ⟨w.heap.size,0,none⟩) (grownCap w s.length 0 e) s:=by
 refine ⟨grownCap_ge w s.length 0 e,grownCap_le_maxLen w s.length 0 e (by unfold maxLen; omega),fun _ => ⟨w.heap.size,0,rfl,by rw [Go.Lib.bytesWorld_size]; omega,fun i hi => ?_⟩,fun h => by cases h⟩
 rw [Nat.zero_add,Go.Lib.bytesWorld_cell w e (strOfNums s) i (by rw [str_len]; exact hi),str_getD hs hi]
 rfl
def TenSm (T:Ten):Prop:=T.2.1.length ≤ 140737488355328 ∧ T.2.2.1.length ≤ 140737488355328 ∧ T.2.2.2.1.length ≤ 140737488355328 ∧ T.2.2.2.2.length ≤ 140737488355328
theorem quo_gt {N x:Int} (h0:0 < N) (h1:N ≤ 4096) (hx:0 ≤ x):(4096 / N < x) ↔ 4096 < N * x:=by
 constructor
 ·intro h
  rcases Int.lt_or_le 4096 (N * x) with g | g
  ·exact g
  ·have:=Int.le_ediv_of_mul_le h0 (a:=x) (b:=4096) (by rw [Int.mul_comm]; exact g)
   omega
 ·intro h
  rcases Int.lt_or_le (4096 / N) x with g | g
  ·exact g
  ·have h2:N * x ≤ N * (4096 / N):=Int.mul_le_mul_of_nonneg_left g (by omega)
   have h3:N * (4096 / N) ≤ 4096:=Int.mul_ediv_self_le (by omega)
   omega
theorem countF_step {N x:Int} {r:List Int} (h0:0 < N) (hx:0 < x):countF N (x :: r) = if 4096 < N * x then (0,8) else countF (N * x) r:=by
 rw [countF]
 by_cases h:4096 < x
 ·rw [if_pos h]
  have:x ≤ N * x:=by
   have:=Int.mul_le_mul_of_nonneg_right (show (1:Int) ≤ N by omega) (show 0 ≤ x by omega)
   omega
  rw [if_pos (by omega)]
 ·rw [if_neg h]
theorem wq4096 {N:Int} (h0:0 < N) (h1:N ≤ 4096):IntKind.i64.wrap (Int.tdiv 4096 N) = 4096 / N:=by
 rw [Int.tdiv_eq_ediv_of_nonneg (by omega),IntKind.wrap_i64]
 have a1:0 ≤ 4096 / N:=Int.ediv_nonneg (by omega) (by omega)
 have a2:4096 / N ≤ 4096:=Int.ediv_le_self _ (by omega)
 omega
theorem ccount_any (p:Option Addr) (c:Nat) (ds:List Int) (w:World) (h:Ints .i64 w p c ds) :
  Calls Tryz.prog 14 #[.slice p ds.length c] w fun e w' => e = .returned (.tuple #[.int .i64 (countV ds).1,.int .i64 (countV ds).2]) ∧ w' = w:=by
 have A1:=hide h
 have nl:=h.len
 have HR:Hid (∀ R,countV ds = R → R = if ds.any (fun x => decide (x < 0)) = true then (0,1) else if 8 < ds.length then (0,8) else if ds.any (fun x => x == 0) = true then (0,0) else countF 1 ds):=hide (fun R hR => by rw [← hR]; rfl)
 generalize hR:countV ds = R
 replace HR:=hide (uh HR R hR)
 clear hR h
 obtain ⟨R1,R2⟩:=R
 simp only
 go_enter Tryz.func14,Tryz.ntmps14
 go_wp2_with fail
 go_loop [4,12] (fun zv iv => ∃ n:Nat,∃ z:Bool,iv = .int .i64 n ∧ zv = .bool z ∧ n ≤ ds.length ∧ Hid (z = (ds.take n).any (fun x => x == 0)) ∧ Hid ((ds.take n).any (fun x => decide (x < 0)) = false)) (fun _ iv => ds.length - (intOf iv).toNat)
 case atStart => exact ⟨0,false,rfl,rfl,by omega,hide rfl,hide rfl⟩
 case round =>
  obtain ⟨n,z,rfl,rfl,hn,HZ,HN⟩:=hrel
  by_cases hlt:n < ds.length
  ·have hi:(n:Int) < (ds.length:Int):=by omega
   obtain ⟨b,o,rfl,hb,hc⟩:=(uh A1).lies (by omega)
   have k1:w.cell? ⟨b,o + n,none⟩ = some (.int .i64 (ds.getD n 0)):=hc n hlt
   have HT0:=hide (any_takeI (fun x => x == 0) ds n hlt)
   have HT1:=hide (any_takeI (fun x => decide (x < 0)) ds n hlt)
   have HM:Hid (ds.getD n 0 < 0 → ds.any (fun x => decide (x < 0)) = true):=hide (fun hh => any_memI (P:=fun x => decide (x < 0)) hlt (by simpa using hh))
   generalize ds.getD n 0 = x at k1 HT0 HT1 HM
   clear hc
   by_cases hx:x < 0
   ·have HE:Hid (R1 = 0 ∧ R2 = 1):=hide (by have:=uh HR; rw [if_pos (uh HM hx)] at this; simpa using this)
    clear HT0 HT1 HM HZ HN HR
    go_wp2_with fail
    go_ret2
    exact ⟨by rw [(uh HE).1,(uh HE).2]; rfl,rfl⟩
   ·have HN2:Hid ((ds.take (n + 1)).any (fun x => decide (x < 0)) = false):=hide (by rw [uh HT1,uh HN]; simp; omega)
    cases z with
    | true =>
      have HZ2:Hid (true = (ds.take (n + 1)).any (fun x => x == 0)):=hide (by rw [uh HT0,← uh HZ]; rfl)
      clear HT0 HT1 HM HZ HN
      go_wp2_with fail
      go_round
      case rel => exact ⟨n + 1,true,by go_num,rfl,by omega,HZ2,HN2⟩
      case measure => simp [intOf]; omega
    | false =>
      have HZ2:Hid ((x == 0) = (ds.take (n + 1)).any (fun x => x == 0)):=hide (by rw [uh HT0,← uh HZ]; simp)
      clear HT0 HT1 HM HZ HN
      by_cases hx0:x = 0
      ·have tx:(x == 0) = true:=by simp [hx0]
       go_wp2_with fail
       go_round
       case rel => exact ⟨n + 1,true,by go_num,rfl,by omega,hide (by rw [← uh HZ2,tx]),HN2⟩
       case measure => simp [intOf]; omega
      ·have tx:(x == 0) = false:=by simp [hx0]
       go_wp2_with fail
       go_round
       case rel => exact ⟨n + 1,false,by go_num,rfl,by omega,hide (by rw [← uh HZ2,tx]),HN2⟩
       case measure => simp [intOf]; omega
  ·have hi:¬ (n:Int) < (ds.length:Int):=by omega
   have HN3:Hid (ds.any (fun x => decide (x < 0)) = false):=hide (by have:=uh HN; rw [List.take_of_length_le (by omega)] at this; exact this)
   have HZ3:Hid (z = ds.any (fun x => x == 0)):=hide (by have:=uh HZ; rw [List.take_of_length_le (by omega)] at this; exact this)
   have HR2:Hid ((R1,R2) = if 8 < ds.length then ((0,8):Int × Int) else if ds.any (fun x => x == 0) = true then (0,0) else countF 1 ds):=hide (by have:=uh HR; rw [uh HN3,if_neg (by decide)] at this; exact this)
   clear HZ HN HR
   by_cases h8:8 < ds.length
   ·have t8:(8:Int) < (ds.length:Int):=by omega
    have HE:Hid (R1 = 0 ∧ R2 = 8):=hide (by have:=uh HR2; rw [if_pos h8] at this; simpa using this)
    go_wp2_with fail
    go_ret2
    exact ⟨by rw [(uh HE).1,(uh HE).2]; rfl,rfl⟩
   ·have t8:¬ (8:Int) < (ds.length:Int):=by omega
    cases z with
    | true =>
      have HE:Hid (R1 = 0 ∧ R2 = 0):=hide (by have:=uh HR2; rw [if_neg h8,← uh HZ3,if_pos rfl] at this; simpa using this)
      clear HR2
      go_wp2_with fail
      go_ret2
      exact ⟨by rw [(uh HE).1,(uh HE).2]; rfl,rfl⟩
    | false =>
      have HC:Hid (countF 1 ds = (R1,R2)):=hide (by have:=uh HR2; rw [if_neg h8,← uh HZ3,if_neg (by decide)] at this; exact this.symm)
      have HP:Hid (∀ x ∈ ds,0 < x):=hide (fun x hx => by
       have h1:=uh HN3
       rw [List.any_eq_false] at h1
       have h1:=h1 x hx
       have h2:=(uh HZ3).symm
       rw [List.any_eq_false] at h2
       have h2:=h2 x hx
       simp at h1 h2
       omega)
      clear HR2
      go_wp2_with fail
      go_loop [7,30] (fun mv iv => ∃ j:Nat,∃ N:Int,iv = .int .i64 j ∧ mv = .int .i64 N ∧ j ≤ ds.length ∧ 0 < N ∧ N ≤ 4096 ∧ Hid (countF N (ds.drop j) = (R1,R2))) (fun _ iv => ds.length - (intOf iv).toNat)
      case atStart => exact ⟨0,1,rfl,rfl,by omega,by omega,by omega,hide (by rw [List.drop_zero]; exact uh HC)⟩
      case round =>
       obtain ⟨j,N,rfl,rfl,hj,N0,N1,HJ⟩:=hrel
       by_cases hjl:j < ds.length
       ·have hji:(j:Int) < (ds.length:Int):=by omega
        obtain ⟨b,o,rfl,hb,hc⟩:=(uh A1).lies (by omega)
        have k1:w.cell? ⟨b,o + j,none⟩ = some (.int .i64 (ds.getD j 0)):=hc j hjl
        have x0:=uh HP _ (getD_mem6 hjl)
        have HD:Hid (countF N (ds.getD j 0 :: ds.drop (j + 1)) = (R1,R2)):=hide (by rw [← drop_cons6 hjl]; exact uh HJ)
        generalize ds.getD j 0 = x at k1 x0 HD
        clear hc HJ
        have nz:(N == 0) = false:=by rw [beq_eq_false_iff_ne]; omega
        have nz2:N ≠ 0:=by omega
        have hq:=wq4096 N0 N1
        have hqq:=quo_gt N0 N1 (Int.le_of_lt x0)
        have a1:0 ≤ 4096 / N:=Int.ediv_nonneg (by omega) (by omega)
        have a2:4096 / N ≤ 4096:=Int.ediv_le_self _ (by omega)
        have HS:=hide (countF_step (r:=ds.drop (j + 1)) N0 x0)
        have hm0:0 < N * x:=Int.mul_pos N0 x0
        obtain ⟨M,hM⟩:∃ M,N * x = M:=⟨_,rfl⟩
        obtain ⟨Q,hQ⟩:∃ Q,4096 / N = Q:=⟨_,rfl⟩
        rw [hQ] at hq hqq a1 a2
        rw [hM] at hqq hm0
        rw [uh HS,hM] at HD
        have HM:=hide hM
        have HQ:=hide hQ
        clear HS hQ hM
        by_cases hbig:4096 < M
        ·have HE:Hid (R1 = 0 ∧ R2 = 8):=hide (by have:=uh HD; rw [if_pos hbig] at this; simp only [Prod.mk.injEq] at this; exact ⟨this.1.symm,this.2.symm⟩)
         have hxq:Q < x:=hqq.2 hbig
         clear HD hqq
         go_wp2_with fail
         go_ret2
         exact ⟨by rw [(uh HE).1,(uh HE).2]; rfl,rfl⟩
        ·have HD2:Hid (countF M (ds.drop (j + 1)) = (R1,R2)):=hide (by have:=uh HD; rw [if_neg hbig] at this; exact this)
         have hxq:¬ Q < x:=fun h => hbig (hqq.1 h)
         have hwr:IntKind.i64.wrap (N * x) = M:=by rw [uh HM,IntKind.wrap_i64]; omega
         clear HD hqq
         go_wp2_with fail
         go_round
         case rel => exact ⟨j + 1,M,by go_num,by first | rfl | (rw [uh HM]) | (rw [hwr]),by omega,hm0,by omega,HD2⟩
         case measure => simp [intOf]; omega
       ·have hji:¬ (j:Int) < (ds.length:Int):=by omega
        have HE:Hid (R1 = N ∧ R2 = 0):=hide (by have:=uh HJ; rw [List.drop_of_length_le (by omega),countF] at this; simp only [Prod.mk.injEq] at this; exact ⟨this.1.symm,this.2.symm⟩)
        clear HJ
        go_wp2_with fail
        go_ret2
        exact ⟨by rw [(uh HE).1,(uh HE).2]; rfl,rfl⟩
theorem cwidth_any (k:Int) (w:World):Calls Tryz.prog 105 #[.int .i64 k] w fun e w' => e = .returned (.int .i64 (widthV k)) ∧ w' = w:=by
 unfold widthV
 by_cases h1:k = 1
 ·subst h1
  go_enter Tryz.func105,Tryz.ntmps105
  go_wp2_with fail
  go_ret
  exact ⟨rfl,rfl⟩
 ·have e1:(k == 1) = false:=by simp [h1]
  rw [if_neg h1]
  by_cases h7:k = 7
  ·subst h7
   go_enter Tryz.func105,Tryz.ntmps105
   go_wp2_with fail
   go_ret
   exact ⟨rfl,rfl⟩
  ·have e7:(k == 7) = false:=by simp [h7]
   rw [if_neg h7]
   by_cases h9:k = 9
   ·subst h9
    go_enter Tryz.func105,Tryz.ntmps105
    go_wp2_with fail
    go_ret
    exact ⟨rfl,rfl⟩
   ·have e9:(k == 9) = false:=by simp [h9]
    rw [if_neg h9]
    clear h1 h7 h9
    go_enter Tryz.func105,Tryz.ntmps105
    go_wp2_with fail
    go_ret
    exact ⟨rfl,rfl⟩
theorem width_knownB (k:Int):(widthV k == 0) = !knownB k:=by
 unfold widthV knownB
 by_cases h1:k = 1
 ·subst h1; decide
 ·by_cases h7:k = 7
  ·subst h7; decide
  ·by_cases h9:k = 9
   ·subst h9; decide
   ·simp [h1,h7,h9]
def ownN (t:TenD):Int:=if t.1 = 1 then (t.2.2.1.length:Int) else if t.1 = 7 then (t.2.2.2.1.length:Int) else (t.2.2.2.2.length:Int)
def elemsN (t:TenD):Int:=(t.2.2.1.length:Int) + t.2.2.2.1.length + t.2.2.2.2.length
def mayT (t:TenD):Bool:=knownB t.1 && ((countV t.2.1).2 != 1 && ((countV t.2.1).2 != 0 || (ownN t == (countV t.2.1).1 && elemsN t == (countV t.2.1).1)))
theorem mayT_W (t:TenD):mayT t = !(tensW t).1:=by
 obtain ⟨ty,ds,fs,is,bs⟩:=t
 unfold mayT tensW
 simp only
 by_cases hk:knownB ty = false
 ·rw [if_pos hk,hk]; rfl
 ·rw [if_neg hk]
  have hk':knownB ty = true:=by simpa using hk
  rw [hk']
  have hs:(hasT (ty,ds,fs,is,bs)).1 = ownN (ty,ds,fs,is,bs) ∧ ((0 < (hasT (ty,ds,fs,is,bs)).2) ↔ elemsN (ty,ds,fs,is,bs) ≠ ownN (ty,ds,fs,is,bs)):=by
   unfold hasT ownN elemsN
   simp only
   by_cases h1:ty = 1
   ·simp only [if_pos h1]; constructor
    ·trivial
    ·omega
   ·simp only [if_neg h1]
    by_cases h7:ty = 7
    ·simp only [if_pos h7]; constructor
     ·trivial
     ·omega
    ·simp only [if_neg h7]; constructor
     ·trivial
     ·omega
  unfold dimsW f3 bad3 big3
  simp only
  obtain ⟨s1,s2⟩:=hs
  generalize countV ds = C
  obtain ⟨C1,C2⟩:=C
  rw [s1]
  have s3:(decide (ownN (ty,ds,fs,is,bs) ≠ C1 ∨ 0 < (hasT (ty,ds,fs,is,bs)).2)) = !(ownN (ty,ds,fs,is,bs) == C1 && elemsN (ty,ds,fs,is,bs) == C1):=by
   rw [Bool.eq_iff_iff]
   simp only [decide_eq_true_eq,Bool.not_eq_true',Bool.and_eq_false_iff,beq_eq_false_iff_ne,s2]
   omega
  rw [s3]
  simp only [bne]
  generalize (C2 == 1) = a
  generalize (C2 == 0) = b
  generalize (ownN (ty,ds,fs,is,bs) == C1 && elemsN (ty,ds,fs,is,bs) == C1) = d
  cases a <;> cases b <;> cases d <;> rfl
theorem cown_any (T:Ten) (A:TA) (w:World):Calls Tryz.prog 106 #[tenV T A] w fun e w' => e = .returned (.int .i64 (ownN T)) ∧ Below w.heap.size w w':=by
 obtain ⟨ty,ds,fs,is,bs⟩:=T
 obtain ⟨pd,cd,pf,cf,pi,ci,pb,cb⟩:=A
 unfold tenV tenCells ownN
 simp only
 have HB:=hide (fun o => al1p w o)
 by_cases h1:ty = 1
 ·subst h1
  go_enter Tryz.func106,Tryz.ntmps106
  go_wp2_with fail
  go_ret
  exact ⟨rfl,uh HB _⟩
 ·have e1:(ty == 1) = false:=by simp [h1]
  rw [if_neg h1]
  by_cases h7:ty = 7
  ·subst h7
   go_enter Tryz.func106,Tryz.ntmps106
   go_wp2_with fail
   go_ret
   exact ⟨rfl,uh HB _⟩
  ·have e7:(ty == 7) = false:=by simp [h7]
   rw [if_neg h7]
   clear h1 h7
   go_enter Tryz.func106,Tryz.ntmps106
   go_wp2_with fail
   go_ret
   exact ⟨rfl,uh HB _⟩
theorem celems_any (T:Ten) (A:TA) (w:World) (h:TenSm T):Calls Tryz.prog 107 #[tenV T A] w fun e w' => e = .returned (.int .i64 (elemsN T)) ∧ Below w.heap.size w w':=by
 obtain ⟨ty,ds,fs,is,bs⟩:=T
 obtain ⟨pd,cd,pf,cf,pi,ci,pb,cb⟩:=A
 obtain ⟨h1,h2,h3,h4⟩:=h
 simp only at h1 h2 h3 h4
 unfold tenV tenCells elemsN
 simp only
 have HB:=hide (fun o => al1p w o)
 go_enter Tryz.func107,Tryz.ntmps107
 go_wp2_with fail
 go_ret
 exact ⟨rfl,uh HB _⟩
theorem count_cases (d:List Int):(countV d).2 = 0 ∨ (countV d).2 = 1 ∨ (countV d).2 = 8:=by
 have hF:∀ (l:List Int) (n:Int),(countF n l).2 = 0 ∨ (countF n l).2 = 8:=fun l => by
  induction l with
  | nil => intro n; exact .inl rfl
  | cons x r ih =>
    intro n
    rw [countF]
    split
    ·exact .inr rfl
    ·split
     ·exact .inr rfl
     ·exact ih _
 unfold countV
 split
 ·exact .inr (.inl rfl)
 ·split
  ·exact .inr (.inr rfl)
  ·split
   ·exact .inl rfl
   ·rcases hF d 1 with h | h
    ·exact .inl h
    ·exact .inr (.inr h)
theorem ctenMay_any (T:Ten) (A:TA) (w:World) (h:TenIn w T A) (hs:TenSm T) :
  Calls Tryz.prog 60 #[tenV T A] w fun e w' => e = .returned (.bool (mayT T)) ∧ Below w.heap.size w w':=by
 obtain ⟨ty,ds,fs,is,bs⟩:=T
 obtain ⟨pd,cd,pf,cf,pi,ci,pb,cb⟩:=A
 have C1:=hide (fun v (hv:Below w.heap.size w v) => ccount_any pd cd ds v (h.2.1.below hv))
 have C2:=hide (fun v => cwidth_any ty v)
 have C3:=hide (fun v => cown_any (ty,ds,fs,is,bs) ⟨pd,cd,pf,cf,pi,ci,pb,cb⟩ v)
 have C4:=hide (fun v => celems_any (ty,ds,fs,is,bs) ⟨pd,cd,pf,cf,pi,ci,pb,cb⟩ v hs)
 obtain ⟨R,hR⟩:∃ R,mayT (ty,ds,fs,is,bs) = R:=⟨_,rfl⟩
 have HR:Hid (R = (!(widthV ty == 0) && ((countV ds).2 != 1 && ((countV ds).2 != 0 || (ownN (ty,ds,fs,is,bs) == (countV ds).1 && elemsN (ty,ds,fs,is,bs) == (countV ds).1))))):=hide (by rw [← hR,width_knownB,Bool.not_not]; rfl)
 rw [hR]
 clear hR h hs
 generalize widthV ty = WD at C2 HR
 generalize countV ds = C at C1 HR
 obtain ⟨N,E⟩:=C
 simp only at C1 HR
 generalize ownN (ty,ds,fs,is,bs) = ON at C3 HR
 generalize elemsN (ty,ds,fs,is,bs) = EN at C4 HR
 unfold tenV tenCells at C3 C4 ⊢
 simp only at C3 C4 ⊢
 go_enter Tryz.func60,Tryz.ntmps60
 go_wp2_with fail
 refine (uh C1 _ (al1p _ _)).mono ?_
 rintro e v ⟨rfl,hv⟩
 replace hv:=hv.symm
 subst hv
 go_wp2_with fail
 refine (uh C2 _).mono ?_
 rintro e v ⟨rfl,hv⟩
 replace hv:=hv.symm
 subst hv
 by_cases c1:WD = 0
 ·have t1:(WD == 0) = true:=by simp [c1]
  have HE:Hid (false = R):=hide (by rw [uh HR,t1]; rfl)
  clear HR c1
  go_wp2_with fail
  go_ret
  exact ⟨ret_bool (uh HE),al1p _ _⟩
 ·have t1:(WD == 0) = false:=by simp [c1]
  by_cases c2:E = 1
  ·have t2:(E == 1) = true:=by simp [c2]
   have HE:Hid (false = R):=hide (by rw [uh HR,c2]; simp)
   clear HR c1 c2
   go_wp2_with fail
   go_ret
   exact ⟨ret_bool (uh HE),al1p _ _⟩
  ·have t2:(E == 1) = false:=by simp [c2]
   by_cases c3:E = 0
   ·have t3:(E != 0) = false:=by simp [c3]
    by_cases c4:ON = N
    ·have t4:(ON == N) = true:=by simp [c4]
     have HE:Hid ((EN == N) = R):=hide (by rw [uh HR,t1,c3,t4]; simp)
     clear HR c1 c2 c3 c4
     go_wp2_with fail
     refine (uh C3 _).mono ?_
     rintro e v ⟨rfl,hv⟩
     have B1:=hide (bl_tr (al1p w (Obj.cells #[.int .i64 ty,.slice pd ds.length cd,.slice pf fs.length cf,.slice pi is.length ci,.slice pb bs.length cb] 86)) hv)
     have x1:=(Box.below (Box.new w #[.int .i64 ty,.slice pd ds.length cd,.slice pf fs.length cf,.slice pi is.length ci,.slice pb bs.length cb] 86) hv).cell
     clear hv
     go_wp2_with fail
     refine (uh C4 _).mono ?_
     rintro e v2 ⟨rfl,hv⟩
     have B2:=hide (bl_tr (uh B1) hv)
     clear hv
     go_wp2_with fail
     go_ret
     exact ⟨ret_bool (uh HE),uh B2⟩
    ·have t4:(ON == N) = false:=by simp [c4]
     have HE:Hid (false = R):=hide (by rw [uh HR,t1,c3,t4]; simp)
     clear HR c1 c2 c3 c4
     go_wp2_with fail
     refine (uh C3 _).mono ?_
     rintro e v ⟨rfl,hv⟩
     have B1:=hide (bl_tr (al1p w (Obj.cells #[.int .i64 ty,.slice pd ds.length cd,.slice pf fs.length cf,.slice pi is.length ci,.slice pb bs.length cb] 86)) hv)
     clear hv
     go_wp2_with fail
     go_ret
     exact ⟨ret_bool (uh HE),uh B1⟩
   ·have t3:(E != 0) = true:=by simp [c3]
    have HE:Hid (true = R):=hide (by rw [uh HR,t1,t3]; simp [c2])
    clear HR c1 c2 c3
    go_wp2_with fail
    go_ret
    exact ⟨ret_bool (uh HE),al1p _ _⟩
def mayV (v:ValD):Bool:=knownB v.2.1 && (countV v.2.2).2 != 1
theorem cvalMay_any (a:VaA) {B:Nat} (w:World) (h:VaIn B w a) :
  Calls Tryz.prog 62 #[.agg (vaCells a).toArray] w fun e w' => e = .returned (.bool (mayV a.d)) ∧ Below w.heap.size w w':=by
 obtain ⟨nm,ty,ds,q,c⟩:=a
 have C1:=hide (fun v (hv:Below w.heap.size w v) => ccount_any q c ds v (h.2.2.1.below hv))
 have C2:=hide (fun v => cwidth_any ty v)
 obtain ⟨R,hR⟩:∃ R,mayV (VaA.d ⟨nm,ty,ds,q,c⟩) = R:=⟨_,rfl⟩
 have HR:Hid (R = (!(widthV ty == 0) && (countV ds).2 != 1)):=hide (by rw [← hR,width_knownB,Bool.not_not]; rfl)
 have hw0:0 ≤ widthV ty:=by unfold widthV; split <;> (try split) <;> (try split) <;> omega
 rw [hR]
 clear hR h
 generalize widthV ty = WD at C2 HR hw0
 generalize countV ds = C at C1 HR
 obtain ⟨N,E⟩:=C
 simp only at C1 HR
 unfold vaCells strV
 simp only
 go_enter Tryz.func62,Tryz.ntmps62
 go_wp2_with fail
 refine (uh C1 _ (al1p _ _)).mono ?_
 rintro e v ⟨rfl,hv⟩
 replace hv:=hv.symm
 subst hv
 go_wp2_with fail
 refine (uh C2 _).mono ?_
 rintro e v ⟨rfl,hv⟩
 replace hv:=hv.symm
 subst hv
 by_cases c1:WD = 0
 ·have t1:¬ 0 < WD:=by omega
  have HE:Hid (false = R):=hide (by rw [uh HR,c1]; rfl)
  clear HR c1
  go_wp2_with fail
  go_ret
  exact ⟨ret_bool (uh HE),al1p _ _⟩
 ·have t1:0 < WD:=by omega
  have HE:Hid ((E != 1) = R):=hide (by rw [uh HR]; simp [c1])
  clear HR c1
  go_wp2_with fail
  go_ret
  exact ⟨ret_bool (uh HE),al1p _ _⟩
def muchD (d:List Int):Bool:=(countV d).2 == 8
theorem cdimsMuch_any (p:Option Addr) (c:Nat) (ds:List Int) (w:World) (h:Ints .i64 w p c ds) :
  Calls Tryz.prog 114 #[.slice p ds.length c] w fun e w' => e = .returned (.bool (muchD ds)) ∧ w' = w:=by
 have C1:=hide (ccount_any p c ds w h)
 unfold muchD
 generalize countV ds = C at C1 ⊢
 obtain ⟨N,E⟩:=C
 simp only at C1 ⊢
 clear h
 go_enter Tryz.func114,Tryz.ntmps114
 go_wp2_with fail
 refine (uh C1).mono ?_
 rintro e v ⟨rfl,hv⟩
 replace hv:=hv.symm
 subst hv
 go_wp2_with fail
 go_ret
 exact ⟨rfl,rfl⟩
def muchN (s:Str):Bool:=decide ((256:Int) < s.length)
theorem cnameMuch_any (s:Str) (w:World):Calls Tryz.prog 63 #[strV s] w fun e w' => e = .returned (.bool (muchN s)) ∧ w' = w:=by
 unfold muchN strV
 have hl:=str_len s
 go_enter Tryz.func63,Tryz.ntmps63
 go_wp2_with fail
 go_ret
 exact ⟨rfl,rfl⟩
def Mrow {β:Type} (t:TypeId) (cells:β → List Value) (w:World) (b:Nat) (xs:List β):Prop:=w.heap[b]? = some (Obj.cells (xs.flatMap cells).toArray t (0,0))
def setMany (w:World) (b:Nat):Nat → List Value → World
 | _,[] => w
 | off,u :: us => setMany (w.setCell ⟨b,off,none⟩ u) b (off + 1) us
def writeA (a:Array Value):Nat → List Value → Array Value
 | _,[] => a
 | off,u :: us => writeA (a.setIfInBounds off u) (off + 1) us
theorem writeA_list:∀ (us:List Value) (a:Array Value) (off:Nat),off + us.length ≤ a.size → (writeA a off us).toList = a.toList.take off ++ us ++ a.toList.drop (off + us.length)
 | [],a,off,h => by simp [writeA]
 | u :: us,a,off,h => by
   simp only [List.length_cons] at h
   have hs:(a.setIfInBounds off u).size = a.size:=by simp
   rw [writeA,writeA_list us (a.setIfInBounds off u) (off + 1) (by rw [hs]; omega)]
   have e:(a.setIfInBounds off u).toList = a.toList.set off u:=by simp
   rw [e]
   have hl:off < a.toList.length:=by simp; omega
   rw [List.set_eq_take_append_cons_drop,if_pos hl]
   have t1:(a.toList.take off).length = off:=by simp; omega
   have e1:(a.toList.take off ++ u :: a.toList.drop (off + 1)).take (off + 1) = a.toList.take off ++ [u]:=by
    rw [List.take_append,t1,List.take_of_length_le (by omega),show off + 1 - off = 1 by omega]; rfl
   have e2:(a.toList.take off ++ u :: a.toList.drop (off + 1)).drop (off + 1 + us.length) = a.toList.drop (off + (u :: us).length):=by
    rw [List.drop_append,t1,List.drop_of_length_le (by omega),show off + 1 + us.length - off = us.length + 1 by omega]
    simp only [List.drop_succ_cons,List.nil_append,List.drop_drop,List.length_cons]
    congr 1
    omega
   rw [e1,e2]
   simp
theorem setMany_block:∀ (us:List Value) (w:World) (b off:Nat) (a:Array Value) (t:TypeId),w.heap[b]? = some (Obj.cells a t (0,0)) → (setMany w b off us).heap[b]? = some (Obj.cells (writeA a off us) t (0,0))
 | [],w,b,off,a,t,h => h
 | u :: us,w,b,off,a,t,h => setMany_block us _ b (off + 1) _ t (Box.same h off u)
theorem setMany_other:∀ (us:List Value) (w:World) (b off c:Nat),c ≠ b → (setMany w b off us).heap[c]? = w.heap[c]?
 | [],w,b,off,c,h => rfl
 | u :: us,w,b,off,c,h => (setMany_other us _ b (off + 1) c h).trans (Below.heap_setCell _ _ _ _ h)
theorem setMany_below {B:Nat} {a:World}:∀ (us:List Value) (w:World) (b off:Nat),Below B a w → B ≤ b → Below B a (setMany w b off us)
 | [],w,b,off,h,_ => h
 | u :: us,w,b,off,h,hb => setMany_below us _ b (off + 1) (h.setCell (p:=⟨b,off,none⟩) hb u) hb
theorem setMany_size:∀ (us:List Value) (w:World) (b off:Nat),(setMany w b off us).heap.size = w.heap.size
 | [],w,b,off => rfl
 | u :: us,w,b,off => (setMany_size us _ b (off + 1)).trans (by simp [World.setCell])
section
variable {β:Type} {k:Nat} {cells:β → List Value} {w w':World} {t:TypeId} {b:Nat} {xs:List β}
theorem flat_set (hk:Wd k cells):∀ (xs:List β) (i:Nat) (x:β),i < xs.length → (xs.set i x).flatMap cells = (xs.flatMap cells).take (i * k) ++ cells x ++ (xs.flatMap cells).drop (i * k + k)
 | [],i,x,h => by simp at h
 | y :: r,0,x,h => by
   have hy:=hk.2.1 y
   simp only [List.set_cons_zero,List.flatMap_cons,Nat.zero_mul,List.take_zero,List.nil_append,Nat.zero_add]
   rw [List.drop_append,hy,List.drop_of_length_le (by omega),Nat.sub_self,List.drop_zero,List.nil_append]
 | y :: r,i + 1,x,h => by
   have hy:=hk.2.1 y
   simp only [List.set_cons_succ,List.flatMap_cons]
   have m1:(i + 1) * k = i * k + k:=by rw [Nat.add_mul]; omega
   have e1:(cells y ++ r.flatMap cells).take ((i + 1) * k) = cells y ++ (r.flatMap cells).take (i * k):=by
    rw [List.take_append,hy,m1,show i * k + k - k = i * k by omega,List.take_of_length_le (show (cells y).length ≤ i * k + k by omega)]
   have e2:(cells y ++ r.flatMap cells).drop ((i + 1) * k + k) = (r.flatMap cells).drop (i * k + k):=by
    rw [List.drop_append,hy,m1,show i * k + k + k - k = i * k + k by omega,List.drop_of_length_le (show (cells y).length ≤ i * k + k + k by omega),List.nil_append]
   rw [flat_set hk r i x (by simpa using h),e1,e2]
   simp [List.append_assoc]
theorem Mrow.set (hk:Wd k cells) (h:Mrow t cells w b xs) (x:β) {i:Nat} (hi:i < xs.length):Mrow t cells (setMany w b (i * k) (cells x)) b (xs.set i x):=by
 have hs:i * k + k ≤ (xs.flatMap cells).length:=by
  rw [rc_len hk]
  have:=Nat.mul_le_mul_right k hi
  rw [Nat.succ_mul] at this
  exact this
 have h1:=setMany_block (cells x) w b (i * k) _ t h
 unfold Mrow
 rw [h1]
 congr 2
 apply Array.toList_inj.1
 rw [writeA_list _ _ _ (by simpa [hk.2.1 x] using hs),flat_set hk xs i x hi,hk.2.1 x]
theorem Mrow.at (hk:Wd k cells) {z:β} (h:Mrow t cells w b xs) {i j:Nat} {u:Value} (hi:i < xs.length) (hu:(cells (xs.getD i z))[j]? = some u):w.cell? ⟨b,i * k + j,none⟩ = some u:=by
 have hj:j < k:=by
  have:=(List.getElem?_eq_some_iff.1 hu).1
  rw [hk.2.1] at this; exact this
 have e:=rc_get (z:=z) hk xs i j hi hj
 unfold Mrow at h
 simp [World.cell?,h]
 rw [e]; exact hu
theorem Mrow.frozen (h:Mrow t cells w b xs) (j:Nat):w.frozen? ⟨b,j,none⟩ = false:=by
 unfold Mrow at h
 simp [World.frozen?,h]
theorem Mrow.below (h:Mrow t cells w b xs) (hb:Below w.heap.size w w'):Mrow t cells w' b xs:=(hb.block b (lt_of_block h)).trans h
theorem made_flat (hk:Wd k cells) (z:β) (n:Nat):(madeCells (cells z).toArray (n * k)).toList = (List.replicate n z).flatMap cells:=by
 have h0:=hk.1
 apply List.ext_getElem?
 intro j
 by_cases hj:j < n * k
 ·have hd:j / k < (List.replicate n z).length:=by rw [List.length_replicate]; exact Nat.div_lt_of_lt_mul (by rw [Nat.mul_comm]; exact hj)
  have hm:j % k < k:=Nat.mod_lt _ h0
  have e:=rc_get (z:=z) hk (List.replicate n z) (j / k) (j % k) hd hm
  rw [show j / k * k + j % k = j from by rw [Nat.mul_comm]; exact Nat.div_add_mod j k] at e
  rw [e]
  have e2:(List.replicate n z).getD (j / k) z = z:=by
   rw [List.getD_eq_getElem?_getD,List.getElem?_eq_getElem hd,List.getElem_replicate]; rfl
  rw [e2]
  have hl:j % k < (cells z).length:=by rw [hk.2.1]; exact hm
  simp [madeCells,hj,hk.2.1]
  rw [List.getElem?_eq_getElem hl]
  rfl
 ·have e1:((List.replicate n z).flatMap cells).length = n * k:=by rw [rc_len hk,List.length_replicate]
  rw [List.getElem?_eq_none (l:=(List.replicate n z).flatMap cells) (by rw [e1]; omega),List.getElem?_eq_none (by simp [madeCells]; omega)]
theorem Mrow.made (hk:Wd k cells) (z:β) {zv:Value} {base g n:Nat} (hz:zv.cells = (cells z).toArray) (ho:w.ownsRow base t k (.slice (some ⟨g,0,none⟩) n n) n (madeCells zv.cells (n * k)).toList):Mrow t cells w g (List.replicate n z):=by
 rcases ho.2 with ⟨hv,_⟩ | ⟨g',cap,cur,hv,hb,hh,hc,hm,hs,ht⟩
 ·cases hv
 ·simp only [Value.slice.injEq,Option.some.injEq,Addr.mk.injEq] at hv
  obtain ⟨⟨rfl,_,_⟩,_,rfl⟩:=hv
  unfold Mrow
  rw [hh]
  congr 2
  apply Array.toList_inj.1
  rw [List.take_of_length_le (by simp [hs])] at ht
  rw [ht,hz,made_flat hk]
theorem Mrow.own (hk:Wd k cells) {a:World} (h:Mrow t cells w b xs) (hb:a.heap.size ≤ b) (hl:xs.length ≤ maxLen) (ha:Below a.heap.size a w):OwnR t k cells a w (.slice (some ⟨b,0,none⟩) xs.length xs.length) xs :=
 ⟨⟨rc_len hk xs,.inr ⟨b,xs.length,_,rfl,hb,h,Nat.le_refl _,hl,by simp [rc_len hk],by simp; rw [List.take_of_length_le (by rw [rc_len hk]; omega)]⟩⟩,ha⟩
theorem set_mid {α:Type} (ys:List α) (m:Nat) (z x:α):(ys ++ List.replicate (m + 1) z).set ys.length x = (ys ++ [x]) ++ List.replicate m z:=by
 rw [List.replicate_succ,List.set_append_right _ _ (Nat.le_refl _),Nat.sub_self,List.set_cons_zero,List.append_assoc]; rfl
end
end Go.Proofs.YtaikppgoahdjbabGreat
