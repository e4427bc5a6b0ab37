import Derived.Deep.DeepAppendWide
import Derived.Laws.BytesArg
import Derived.Test.YtbmmcbagdomonaaGreatChecked
import Derived.Lib.ConvBytes
import Derived.Deep.RegionLawGrows
import Derived.Deep.RegionHeld3
import Derived.SizedLaws
import Derived.Deep.Slices
import Derived.Test.YtbmmcbagdomonaaGreatV03
set_option maxRecDepth 100000
set_option maxHeartbeats 40000000
namespace Go.Proofs.YtbmmcbagdomonaaGreat
open Go.RowKit
set_option linter.unusedVariables false
theorem al1p (w:World) (o:Obj):Below w.heap.size w (w.alloc o):=(Below.refl _ _).alloc (Nat.le_refl _) _
theorem getD_mem6 {ds:List Int} {n:Nat} (h:n < ds.length):ds.getD n 0 ∈ ds:=by
 rw [List.getD_eq_getElem?_getD,List.getElem?_eq_getElem h]; simp
theorem drop_cons6 {b:List Int} {n:Nat} (h:n < b.length):b.drop n = b.getD n 0 :: b.drop (n + 1):=by
 rw [List.drop_eq_getElem_cons h]; congr 1; simp [List.getElem?_eq_getElem h]
def Wd {β:Type} (k:Nat) (cells:β → List Value):Prop:=0 < k ∧ (∀ a,(cells a).length = k) ∧ ∀ a,∀ u ∈ cells a,u.oneCell' = true
def Rc {β:Type} (k:Nat) (cells:β → List Value) (z:β) (w:World) (p:Option Addr) (cap:Nat) (l:List β):Prop :=
 l.length ≤ cap ∧ cap ≤ 9223372036854775807 ∧ (0 < l.length → ∃ b o,p = some ⟨b,o,none⟩ ∧ b < w.heap.size ∧ ∀ i,i < l.length → ∀ j u,(cells (l.getD i z))[j]? = some u → w.cell? ⟨b,o + i * k + j,none⟩ = some u) ∧ (p = none → cap = 0)
section
variable {β:Type} {k:Nat} {cells:β → List Value} {z:β} {w w' wr:World} {p:Option Addr} {cap:Nat} {l:List β} {t:TypeId} {v:Value}
theorem Rc.len (h:Rc k cells z w p cap l):l.length ≤ 9223372036854775807:=Nat.le_trans h.1 h.2.1
theorem Rc.nil (w:World):Rc k cells z w none 0 []:=⟨by simp,by omega,by simp,fun _ => rfl⟩
theorem Rc.lies (h:Rc k cells z w p cap l) (hp:0 < l.length):∃ b o,p = some ⟨b,o,none⟩ ∧ b < w.heap.size ∧ ∀ i,i < l.length → ∀ j u,(cells (l.getD i z))[j]? = some u → w.cell? ⟨b,o + i * k + j,none⟩ = some u:=h.2.2.1 hp
theorem Rc.block (h:Rc k cells z w p cap l) (hs:w.heap.size ≤ w'.heap.size) (hk:∀ b o,p = some ⟨b,o,none⟩ → 0 < l.length → w'.heap[b]? = w.heap[b]?):Rc k cells z w' p cap l:=by
 obtain ⟨h1,h2,h4,h5⟩:=h
 refine ⟨h1,h2,fun hp => ?_,h5⟩
 obtain ⟨b,o,e,g1,g2⟩:=h4 hp
 exact ⟨b,o,e,Nat.lt_of_lt_of_le g1 hs,fun i hi j u hu => (World.cell?_of_block (w:=w) (hk b o e hp)).trans (g2 i hi j u hu)⟩
theorem Rc.below (h:Rc k cells z w p cap l) (hb:Below w.heap.size w w'):Rc k cells z w' p cap l:=by
 refine h.block hb.size (fun b o e hp => ?_)
 obtain ⟨b',o',e',g1,_⟩:=h.lies hp
 rw [e] at e'
 simp only [Option.some.injEq,Addr.mk.injEq] at e'
 rw [e'.1]
 exact hb.block b' g1
def OwnR {β:Type} (t:TypeId) (k:Nat) (cells:β → List Value) (w wr:World) (v:Value) (l:List β):Prop:=wr.ownsRow w.heap.size t k v l.length (l.flatMap cells) ∧ Below w.heap.size w wr
theorem OwnR.nil (t:TypeId) (h:Below w.heap.size w wr):OwnR t k cells w wr (.slice none 0 0) []:=⟨World.ownsRow_nil _ _ _ _,h⟩
theorem OwnR.below (h:OwnR t k cells w wr v l) (hb:Below wr.heap.size wr w'):OwnR t k cells w w' v l:=by
 obtain ⟨⟨l1,h1⟩,h2⟩:=h
 refine ⟨⟨l1,?_⟩,bl_tr h2 hb⟩
 rcases h1 with ⟨rfl,h0⟩ | ⟨g,cap,cur,rfl,hb1,hh,hc,hm,hs,ht⟩
 ·exact .inl ⟨rfl,h0⟩
 ·exact .inr ⟨g,cap,cur,rfl,hb1,(hb.block g (lt_of_block hh)).trans hh,hc,hm,hs,ht⟩
theorem rc_len (hk:Wd k cells) (l:List β):(l.flatMap cells).length = l.length * k:=by
 induction l with
 | nil => simp
 | cons a r ih => rw [List.flatMap_cons,List.length_append,ih,hk.2.1,List.length_cons,Nat.add_mul]; omega
theorem rc_get (hk:Wd k cells):∀ (l:List β) (i j:Nat),i < l.length → j < k → (l.flatMap cells)[i * k + j]? = (cells (l.getD i z))[j]?
 | [],i,j,h,_ => by simp at h
 | a :: r,0,j,h,hj => by
   simp only [List.flatMap_cons,Nat.zero_mul,Nat.zero_add]
   rw [List.getElem?_append_left (by rw [hk.2.1]; exact hj)]
   rfl
 | a :: r,i + 1,j,h,hj => by
   simp only [List.flatMap_cons]
   rw [List.getElem?_append_right (by rw [hk.2.1,Nat.add_mul]; omega),hk.2.1,show (i + 1) * k + j - k = i * k + j by rw [Nat.add_mul]; omega,rc_get hk r i j (by simpa using h) hj]
   rfl
theorem OwnR.form (hk:Wd k cells) (h:OwnR t k cells w wr v l):∃ p cap,v = .slice p l.length cap ∧ Rc k cells z wr p cap l ∧ Fresh w.heap.size wr p (l.length * k):=by
 obtain ⟨⟨l1,h1⟩,h2⟩:=h
 have h0:wr.ownsRow w.heap.size t k v l.length (l.flatMap cells):=⟨l1,h1⟩
 rcases h1 with ⟨rfl,hn⟩ | ⟨g,cap,cur,rfl,hb,hh,hc,hm,hs,ht⟩
 ·exact ⟨none,0,by rw [hn],⟨by omega,by omega,fun hp => by omega,fun _ => rfl⟩,fun b o e => by cases e⟩
 ·refine ⟨some ⟨g,0,none⟩,cap,rfl,⟨hc,hm,fun hp => ⟨g,0,rfl,(h0.lt g rfl).2,fun i hi j u hu => ?_⟩,fun h => by cases h⟩,fun b o e hp => ?_⟩
  ·have hj:j < k:=by
    have:=(List.getElem?_eq_some_iff.1 hu).1
    rw [hk.2.1] at this; exact this
   have hlt:i * k + j < l.length * k:=by
    have:(i + 1) * k ≤ l.length * k:=Nat.mul_le_mul_right k hi
    rw [Nat.add_mul] at this
    omega
   have e:cur.toList[i * k + j]? = some u:=by
    have e1:(cur.toList.take (l.length * k))[i * k + j]? = cur.toList[i * k + j]?:=List.getElem?_take_of_lt hlt
    rw [← e1,ht,rc_get (z:=z) hk l i j hi hj,hu]
   simp [World.cell?,hh]
   simpa using e
  ·simp only [Option.some.injEq,Addr.mk.injEq] at e
   obtain ⟨rfl,rfl,_⟩:=e
   exact ⟨hb,fun i _ => h0.frozenAt (0 + i)⟩
theorem rc_cells {b o:Nat} (hk:Wd k cells) (h:∀ i,i < l.length → ∀ j u,(cells (l.getD i z))[j]? = some u → w.cell? ⟨b,o + i * k + j,none⟩ = some u):∀ j u,(l.flatMap cells)[j]? = some u → w.cell? ((⟨b,o,none⟩:Addr).add j) = some u:=by
 intro j u hj
 have hjl:j < l.length * k:=by
  have:=(List.getElem?_eq_some_iff.1 hj).1
  rw [rc_len hk] at this; exact this
 have hdk:j / k < l.length:=Nat.div_lt_of_lt_mul (by rw [Nat.mul_comm]; exact hjl)
 have hmk:j % k < k:=Nat.mod_lt _ hk.1
 have e1:j = j / k * k + j % k:=by rw [Nat.mul_comm]; exact (Nat.div_add_mod j k).symm
 have e2:=rc_get (z:=z) hk l (j / k) (j % k) hdk hmk
 rw [← e1] at e2
 rw [e2] at hj
 have:=h (j / k) hdk (j % k) u hj
 rw [Go.WideShapes.add_plain,show o + j = o + j / k * k + j % k by omega]
 exact this
theorem wpList_append_rc {P:Program} {ops:Array Oper} {rest:List Oper} {o:Oper} {a:Act} {Q:Exit → Act → World → Prop} (hk:Wd k cells) (z:β) (hgd:o.guard = none) (s x:Operand) (t:TypeId)
  (ho:o.op = .call { callee:=.builtin .append,args:=#[s,x],argTypes:=#[t,t] })
  (w0:World) (e:TypeId) (i:TypeInfo) (zv:Value) (bytes:Nat) (ht:P.underlying t = some (.slice e)) (hi:P.info? e = some i) (hz:i.zero = some zv)
  (hsize:i.size = k) (hby:i.bytes = bytes) (hzs:zv.cells.size = k)
  (v:Value) (l:List β) (hs:a.eval s = v) (hown:OwnR e k cells w0 w v l)
  (p:Option Addr) (c:Nat) (m:List β) (hx:a.eval x = .slice p m.length c) (hc:Rc k cells z w p c m)
  (h63:l.length + m.length ≤ maxLen) (hbytes:((l.length + m.length) + (l.length + m.length) / 4 + 192) * bytes ≤ 281474976710656)
  (h:∀ v' w',OwnR e k cells w0 w' v' (l ++ m) → w.grownBy w' v.ownBlock → wpList P ops Q rest (a.put o.dst v') w'):wpList P ops Q (o :: rest) a w:=by
 cases p with
 | none =>
   have hx0:m = []:=by
    rcases Nat.eq_zero_or_pos m.length with g | g
    ·exact List.eq_nil_of_length_eq_zero g
    ·obtain ⟨b,o,e,_⟩:=hc.lies g; cases e
   subst hx0
   have hc0:c = 0:=hc.2.2.2 rfl
   subst hc0
   refine wpList_append_own_none hgd s x t ho w0.heap.size e i k ht hi v _ _ hs hown.1 hx (h v w ?_ ⟨rfl,rfl,rfl,Nat.le_refl _,fun _ _ _ => rfl⟩)
   rw [List.append_nil]; exact hown
 | some ad =>
   have hcells:∀ j u,(m.flatMap cells)[j]? = some u → w.cell? (ad.add j) = some u:=by
    rcases Nat.eq_zero_or_pos m.length with g | g
    ·have:m = []:=List.eq_nil_of_length_eq_zero g
     subst this
     intro j u hj; simp at hj
    ·obtain ⟨b,o,e,hb,hcc⟩:=hc.lies g
     simp only [Option.some.injEq] at e
     subst e
     exact rc_cells hk hcc
   refine wpList_append_own_wide w hgd s x t ho w0.heap.size e i zv k bytes ht hi hz hsize hby hzs hk.1 v l.length (l.flatMap cells) hs hown.1 ad m.length c (m.flatMap cells) hx (rc_len hk m) hcells (fun u hu => by
    obtain ⟨f,_,hf⟩:=List.mem_flatMap.1 hu
    exact hk.2.2 f u hf) h63 hbytes hown.2.size ?_
   intro v' w' h1 h2 _
   refine h v' w' ⟨?_,hown.2.grown h2 hown.2.size (fun k hk => (hown.1.lt k hk).1)⟩ h2
   rw [List.length_append,List.flatMap_append]; exact h1
theorem rc_new {cs:Array Value} {x:β} (hk:Wd k cells) (w:World) (t:TypeId) (hc:cs = (cells x).toArray):Rc k cells z (w.alloc (.cells cs t)) (some ⟨w.heap.size,0,none⟩) 1 [x]:=by
 refine ⟨Nat.le_refl _,by omega,fun _ => ⟨w.heap.size,0,rfl,by simp,fun i hi j u hu => ?_⟩,fun h => by cases h⟩
 have hi0:i = 0:=by simp at hi; omega
 subst hi0
 rw [Box.cell (Box.new w cs t),hc]
 have e:0 + 0 * k + j = j:=by omega
 rw [e]
 simpa using hu
end
def Kept (TS:List TypeId) (B:Nat) (w w':World):Prop :=
 w.heap.size ≤ w'.heap.size ∧ (∀ b,b < B → b < w.heap.size → w'.heap[b]? = w.heap[b]?) ∧ ∀ (b:Nat) (cur:Array Value) (t:TypeId),t ∈ TS → w.heap[b]? = some (Obj.cells cur t (0,0)) → w'.heap[b]? = some (Obj.cells cur t (0,0))
theorem Kept.below {TS:List TypeId} {B:Nat} {w w':World} (h:Below w.heap.size w w'):Kept TS B w w':=⟨h.size,fun b _ hb => h.block b hb,fun b cur t _ hh => (h.block b (lt_of_block hh)).trans hh⟩
theorem Kept.trans {TS:List TypeId} {B:Nat} {a b c:World} (h:Kept TS B a b) (k:Kept TS B b c):Kept TS B a c :=
 ⟨Nat.le_trans h.1 k.1,fun i h1 h2 => (k.2.1 i h1 (Nat.lt_of_lt_of_le h2 h.1)).trans (h.2.1 i h1 h2),fun i cur t ht hh => k.2.2 i cur t ht (h.2.2 i cur t ht hh)⟩
theorem Kept.set {TS:List TypeId} {B g j:Nat} {e:TypeId} {w:World} {cur:Array Value} {u:Value} (hp:w.heap[g]? = some (Obj.cells cur e (0,0))) (hB:B ≤ g) (hne:¬ e ∈ TS):Kept TS B w (w.setCell ⟨g,j,none⟩ u):=by
 refine ⟨by simp [World.setCell],fun b h1 h2 => Below.heap_setCell _ _ _ _ (by simp; omega),fun b c2 t ht hh => ?_⟩
 have hn:b ≠ g:=fun e2 => by
  subst e2
  rw [hp] at hh
  simp only [Option.some.injEq,Obj.cells.injEq] at hh
  rw [← hh.2.1] at ht
  exact hne ht
 rw [Below.heap_setCell _ _ _ _ hn]; exact hh
def Tag (t:TypeId) (B:Nat) (w:World) (p:Option Addr) (n:Nat):Prop:=0 < n → ∃ b o,p = some ⟨b,o,none⟩ ∧ b < w.heap.size ∧ (b < B ∨ ∃ cur:Array Value,w.heap[b]? = some (Obj.cells cur t (0,0)))
theorem Tag.kept {t:TypeId} {TS:List TypeId} {B n:Nat} {w w':World} {p:Option Addr} (h:Tag t B w p n) (ht:t ∈ TS) (k:Kept TS B w w'):Tag t B w' p n:=fun hp => by
 obtain ⟨b,o,e,hb,h1 | ⟨cur,h1⟩⟩:=h hp
 ·exact ⟨b,o,e,Nat.lt_of_lt_of_le hb k.1,.inl h1⟩
 ·exact ⟨b,o,e,Nat.lt_of_lt_of_le hb k.1,.inr ⟨cur,k.2.2 b cur t ht h1⟩⟩
theorem Tag.block {t:TypeId} {TS:List TypeId} {B n:Nat} {w w':World} {p:Option Addr} (h:Tag t B w p n) (ht:t ∈ TS) (k:Kept TS B w w'):∀ b o,p = some ⟨b,o,none⟩ → 0 < n → w'.heap[b]? = w.heap[b]?:=fun b o e hp => by
 obtain ⟨b',o',e',hb,h1⟩:=h hp
 rw [e] at e'
 simp only [Option.some.injEq,Addr.mk.injEq] at e'
 obtain ⟨rfl,_,_⟩:=e'
 rcases h1 with h1 | ⟨cur,h1⟩
 ·exact k.2.1 b h1 hb
 ·rw [k.2.2 b cur t ht h1,h1]
theorem Tag.nil (t:TypeId) (B:Nat) (w:World) (p:Option Addr):Tag t B w p 0:=fun hp => by omega
theorem Ls.kept {α:Type} [Inhabited α] {f:α → Value} {t:TypeId} {TS:List TypeId} {B:Nat} {w w':World} {p:Option Addr} {cap:Nat} {xs:List α} (h:Ls f w p cap xs) (g:Tag t B w p xs.length) (ht:t ∈ TS) (k:Kept TS B w w'):Ls f w' p cap xs:=by
 have hb:=g.block ht k
 obtain ⟨h1,h2,h4,h5⟩:=h
 refine ⟨h1,h2,fun hp => ?_,h5⟩
 obtain ⟨b,o,e,g1,g2⟩:=h4 hp
 exact ⟨b,o,e,Nat.lt_of_lt_of_le g1 k.1,fun i hi => (World.cell?_of_block (w:=w) (hb b o e hp)).trans (g2 i hi)⟩
theorem Rc.kept {β:Type} {n:Nat} {cells:β → List Value} {z:β} {t:TypeId} {TS:List TypeId} {B:Nat} {w w':World} {p:Option Addr} {cap:Nat} {l:List β} (h:Rc n cells z w p cap l) (g:Tag t B w p l.length) (ht:t ∈ TS) (k:Kept TS B w w'):Rc n cells z w' p cap l :=
 h.block k.1 (g.block ht k)
def strV (s:Str):Value:=.string (strOfNums s)
theorem str_data (s:Str):(strOfNums s).data = (s.map fun n => UInt8.ofNat n.toNat).toArray:=rfl
theorem str_inj {a b:Str} (ha:∀ c ∈ a,0 ≤ c ∧ c < 256) (hb:∀ c ∈ b,0 ≤ c ∧ c < 256) (h:strOfNums a = strOfNums b):a = b:=by
 have h1:(a.map fun n => UInt8.ofNat n.toNat) = b.map fun n => UInt8.ofNat n.toNat:=by
  have:=congrArg ByteArray.data h
  rw [str_data,str_data] at this
  exact List.toArray_inj this
 have key:∀ (x y:Int),0 ≤ x → x < 256 → 0 ≤ y → y < 256 → UInt8.ofNat x.toNat = UInt8.ofNat y.toNat → x = y:=fun x y x0 x1 y0 y1 e => by
  have:=congrArg UInt8.toNat e
  simp only [UInt8.toNat_ofNat'] at this
  omega
 clear h
 induction a generalizing b with
 | nil =>
   cases b with
   | nil => rfl
   | cons _ _ => simp at h1
 | cons x r ih =>
   cases b with
   | nil => simp at h1
   | cons y s =>
     simp only [List.map_cons,List.cons.injEq] at h1
     obtain ⟨x0,x1⟩:=ha x (by simp)
     obtain ⟨y0,y1⟩:=hb y (by simp)
     rw [key x y x0 x1 y0 y1 h1.1,ih (fun c hc => ha c (by simp [hc])) (fun c hc => hb c (by simp [hc])) h1.2]
theorem str_len (s:Str):(strOfNums s).size = s.length:=by
 show (strOfNums s).data.size = _
 rw [str_data]; simp
def TenT (B:Nat) (w:World) (T:Ten) (A:TA):Prop:=TenIn w T A ∧ Tag 3 B w A.pd T.2.1.length ∧ Tag 43 B w A.pf T.2.2.1.length ∧ Tag 2 B w A.pi T.2.2.2.1.length ∧ Tag 4 B w A.pb T.2.2.2.2.length
def tenTS:List TypeId:=[3,43,2,4]
theorem Ints.keptT {k:IntKind} {t:TypeId} {TS:List TypeId} {B:Nat} {w w':World} {p:Option Addr} {cap:Nat} {xs:List Int} (h:Ints k w p cap xs) (g:Tag t B w p xs.length) (ht:t ∈ TS) (kp:Kept TS B w w'):Ints k w' p cap xs:=(h.ls.kept g ht kp).ints h.2.2.1
theorem TenT.kept {B:Nat} {TS:List TypeId} {w w':World} {T:Ten} {A:TA} (h:TenT B w T A) (hs:∀ t ∈ tenTS,t ∈ TS) (k:Kept TS B w w'):TenT B w' T A:=by
 obtain ⟨⟨h1,h2,h3,h4,h5⟩,g1,g2,g3,g4⟩:=h
 have t1:=hs 3 (by simp [tenTS])
 have t2:=hs 43 (by simp [tenTS])
 have t3:=hs 2 (by simp [tenTS])
 have t4:=hs 4 (by simp [tenTS])
 exact ⟨⟨h1,h2.keptT g1 t1 k,h3.keptT g2 t2 k,h4.keptT g3 t3 k,h5.kept g4 t4 k⟩,g1.kept t1 k,g2.kept t2 k,g3.kept t3 k,g4.kept t4 k⟩
structure VaA where
 nm:Str
 ty:Int
 ds:List Int
 q:Option Addr
 c:Nat
def VaA.d (a:VaA):ValD:=(a.nm,a.ty,a.ds)
def noVaA:VaA:=⟨[],0,[],none,0⟩
def vaCells (a:VaA):List Value:=[strV a.nm,.int .i64 a.ty,.slice a.q a.ds.length a.c]
theorem vaWd:Wd 3 vaCells:=⟨by decide,fun _ => rfl,fun a u hu => by simp [vaCells] at hu; rcases hu with rfl | rfl | rfl <;> rfl⟩
def VaIn (B:Nat) (w:World) (a:VaA):Prop:=isB a.nm ∧ (Lit.int .i64 a.ty).wf = true ∧ Ints .i64 w a.q a.c a.ds ∧ Tag 3 B w a.q a.ds.length
theorem VaIn.kept {B:Nat} {TS:List TypeId} {w w':World} {a:VaA} (h:VaIn B w a) (hs:3 ∈ TS) (k:Kept TS B w w'):VaIn B w' a:=⟨h.1,h.2.1,h.2.2.1.keptT h.2.2.2 hs k,h.2.2.2.kept hs k⟩
structure InA where
 nm:Str
 T:Ten
 A:TA
def InA.d (a:InA):InitD:=(a.nm,a.T)
def noInA:InA:=⟨[],(0,[],[],[],[]),noTA⟩
def inCells (a:InA):List Value:=strV a.nm :: (tenCells a.T a.A).toList
theorem inWd:Wd 6 inCells:=⟨by decide,fun _ => rfl,fun a u hu => by simp [inCells,tenCells] at hu; rcases hu with rfl | rfl | rfl | rfl | rfl | rfl <;> rfl⟩
def InIn (B:Nat) (w:World) (a:InA):Prop:=isB a.nm ∧ TenT B w a.T a.A
theorem InIn.kept {B:Nat} {TS:List TypeId} {w w':World} {a:InA} (h:InIn B w a) (hs:∀ t ∈ tenTS,t ∈ TS) (k:Kept TS B w w'):InIn B w' a:=⟨h.1,h.2.kept hs k⟩
structure AtA where
 nm:Str
 kd:Int
 f:Int
 i:Int
 s:Str
 T:Ten
 A:TA
 fl:List Int
 qf:Option Addr
 cf:Nat
 is:List Int
 qi:Option Addr
 ci:Nat
def AtA.d (a:AtA):AttrD:=(a.nm,a.kd,a.f,a.i,a.s,a.T,a.fl,a.is)
def noAtA:AtA:=⟨[],0,0,0,[],(0,[],[],[],[]),noTA,[],none,0,[],none,0⟩
def atCells (a:AtA):List Value:=[strV a.nm,.int .i64 a.kd,.int .u32 a.f,.int .i64 a.i,strV a.s] ++ (tenCells a.T a.A).toList ++ [.slice a.qf a.fl.length a.cf,.slice a.qi a.is.length a.ci]
theorem atWd:Wd 12 atCells:=⟨by decide,fun _ => rfl,fun a u hu => by simp [atCells,tenCells] at hu; rcases hu with rfl | rfl | rfl | rfl | rfl | rfl | rfl | rfl | rfl | rfl | rfl | rfl <;> rfl⟩
def AtIn (B:Nat) (w:World) (a:AtA):Prop :=
 isB a.nm ∧ (Lit.int .i64 a.kd).wf = true ∧ (Lit.int .u32 a.f).wf = true ∧ (Lit.int .i64 a.i).wf = true ∧ isB a.s ∧ TenT B w a.T a.A ∧ (Ints .u32 w a.qf a.cf a.fl ∧ Tag 43 B w a.qf a.fl.length) ∧ Ints .i64 w a.qi a.ci a.is ∧ Tag 2 B w a.qi a.is.length
theorem AtIn.kept {B:Nat} {TS:List TypeId} {w w':World} {a:AtA} (h:AtIn B w a) (hs:∀ t ∈ tenTS,t ∈ TS) (k:Kept TS B w w'):AtIn B w' a:=by
 obtain ⟨h1,h2,h3,h4,h5,h6,⟨h7,h8⟩,h9,h10⟩:=h
 have t2:=hs 43 (by simp [tenTS])
 have t3:=hs 2 (by simp [tenTS])
 exact ⟨h1,h2,h3,h4,h5,h6.kept hs k,⟨h7.keptT h8 t2 k,h8.kept t2 k⟩,h9.keptT h10 t3 k,h10.kept t3 k⟩
structure NoA where
 op:Str
 nm:Str
 ins:List Str
 qi:Option Addr
 ci:Nat
 outs:List Str
 qo:Option Addr
 co:Nat
 at':List AtA
 qa:Option Addr
 ca:Nat
def NoA.d (a:NoA):NodeD:=(a.op,a.nm,a.ins,a.outs,a.at'.map AtA.d)
def noNoA:NoA:=⟨[],[],[],none,0,[],none,0,[],none,0⟩
def noCells (a:NoA):List Value:=[strV a.op,strV a.nm,.slice a.qi a.ins.length a.ci,.slice a.qo a.outs.length a.co,.slice a.qa a.at'.length a.ca]
theorem noWd:Wd 5 noCells:=⟨by decide,fun _ => rfl,fun a u hu => by simp [noCells] at hu; rcases hu with rfl | rfl | rfl | rfl | rfl <;> rfl⟩
def nodeTS:List TypeId:=[3,43,2,4,9,121]
def NoIn (B:Nat) (w:World) (a:NoA):Prop :=
 isB a.op ∧ isB a.nm ∧ ((∀ s ∈ a.ins,isB s) ∧ Ls strV w a.qi a.ci a.ins ∧ Tag 9 B w a.qi a.ins.length) ∧ ((∀ s ∈ a.outs,isB s) ∧ Ls strV w a.qo a.co a.outs ∧ Tag 9 B w a.qo a.outs.length) ∧ (∀ x ∈ a.at',AtIn B w x) ∧ Rc 12 atCells noAtA w a.qa a.ca a.at' ∧ Tag 121 B w a.qa a.at'.length
theorem NoIn.kept {B:Nat} {TS:List TypeId} {w w':World} {a:NoA} (h:NoIn B w a) (hs:∀ t ∈ nodeTS,t ∈ TS) (k:Kept TS B w w'):NoIn B w' a:=by
 obtain ⟨h1,h2,⟨h3,h4,h5⟩,⟨h6,h7,h8⟩,h9,h10,h11⟩:=h
 have t5:=hs 9 (by simp [nodeTS])
 have t6:=hs 121 (by simp [nodeTS])
 have tt:∀ t ∈ tenTS,t ∈ TS:=fun t ht => hs t (by simp only [tenTS,List.mem_cons,List.not_mem_nil,or_false] at ht; rcases ht with rfl | rfl | rfl | rfl <;> simp [nodeTS])
 exact ⟨h1,h2,⟨h3,h4.kept h5 t5 k,h5.kept t5 k⟩,⟨h6,h7.kept h8 t5 k,h8.kept t5 k⟩,fun x hx => (h9 x hx).kept tt k,h10.kept h11 t6 k,h11.kept t6 k⟩
structure MoA where
 ops:Int
 nm:Str
 nodes:List NoA
 qn:Option Addr
 cn:Nat
 inits:List InA
 qi:Option Addr
 ci:Nat
 inp:List VaA
 qp:Option Addr
 cp:Nat
 out:List VaA
 qo:Option Addr
 co:Nat
def MoA.d (a:MoA):ModelD:=(a.ops,a.nm,a.nodes.map NoA.d,a.inits.map InA.d,a.inp.map VaA.d,a.out.map VaA.d)
def moCells (a:MoA):Array Value:=#[.int .i64 a.ops,strV a.nm,.slice a.qn a.nodes.length a.cn,.slice a.qi a.inits.length a.ci,.slice a.qp a.inp.length a.cp,.slice a.qo a.out.length a.co]
def moV (a:MoA):Value:=.agg (moCells a)
def modelTS:List TypeId:=[3,43,2,4,9,121,55,61,63]
def MoIn (B:Nat) (w:World) (a:MoA):Prop :=
 (Lit.int .i64 a.ops).wf = true ∧ isB a.nm ∧ ((∀ x ∈ a.nodes,NoIn B w x) ∧ Rc 5 noCells noNoA w a.qn a.cn a.nodes ∧ Tag 55 B w a.qn a.nodes.length) ∧ ((∀ x ∈ a.inits,InIn B w x) ∧ Rc 6 inCells noInA w a.qi a.ci a.inits ∧ Tag 61 B w a.qi a.inits.length) ∧
  ((∀ x ∈ a.inp,VaIn B w x) ∧ Rc 3 vaCells noVaA w a.qp a.cp a.inp ∧ Tag 63 B w a.qp a.inp.length) ∧ (∀ x ∈ a.out,VaIn B w x) ∧ Rc 3 vaCells noVaA w a.qo a.co a.out ∧ Tag 63 B w a.qo a.out.length
theorem MoIn.kept {B:Nat} {w w':World} {a:MoA} (h:MoIn B w a) (k:Kept modelTS B w w'):MoIn B w' a:=by
 obtain ⟨h1,h2,⟨a1,a2,a3⟩,⟨b1,b2,b3⟩,⟨c1,c2,c3⟩,d1,d2,d3⟩:=h
 have tn:∀ t ∈ nodeTS,t ∈ modelTS:=fun t ht => by simp only [nodeTS,List.mem_cons,List.not_mem_nil,or_false] at ht; rcases ht with rfl | rfl | rfl | rfl | rfl | rfl <;> simp [modelTS]
 have tt:∀ t ∈ tenTS,t ∈ modelTS:=fun t ht => by simp only [tenTS,List.mem_cons,List.not_mem_nil,or_false] at ht; rcases ht with rfl | rfl | rfl | rfl <;> simp [modelTS]
 have t1:55 ∈ modelTS:=by simp [modelTS]
 have t2:61 ∈ modelTS:=by simp [modelTS]
 have t3:63 ∈ modelTS:=by simp [modelTS]
 have t4:3 ∈ modelTS:=by simp [modelTS]
 exact ⟨h1,h2,⟨fun x hx => (a1 x hx).kept tn k,a2.kept a3 t1 k,a3.kept t1 k⟩,⟨fun x hx => (b1 x hx).kept tt k,b2.kept b3 t2 k,b3.kept t2 k⟩,⟨fun x hx => (c1 x hx).kept t4 k,c2.kept c3 t3 k,c3.kept t3 k⟩,fun x hx => (d1 x hx).kept t4 k,d2.kept d3 t3 k,d3.kept t3 k⟩
theorem MoIn.below {B:Nat} {w w':World} {a:MoA} (h:MoIn B w a) (hb:Below w.heap.size w w'):MoIn B w' a:=h.kept (Kept.below hb)
def runL (P:Program) (ops:Array Oper):List Oper → Act → World → Option (Act × World)
 | [],a,w => some (a,w)
 | o :: r,a,w =>
   match Region.wanted o (yielded ops a.tmps) with
   | true =>
     match (execOp a.eval o).run P w with
     | .ok (.value v) w' => runL P ops r (a.put o.dst v) w'
     | .ok .skip w' => runL P ops r (a.put o.dst undef) w'
     | _ => none
   | false => runL P ops r (a.put o.dst undef) w
def runC (P:Program):Code → Act → World → Option (Exit × Act × World)
 | .skip,a,w => some (.normal,a,w)
 | .region _ ops false,a,w =>
   match runL P ops ops.toList a w with
   | some (a',w') => some (.normal,a',w')
   | none => none
 | .seq x y,a,w =>
   match runC P x a w with
   | some (.normal,a',w') => runC P y a' w'
   | some (.exit k,a',w') => some (.exit k,a',w')
   | some (.ret,a',w') => some (.ret,a',w')
   | _ => none
 | .cond c x y,a,w =>
   match a.eval c with
   | .bool true => runC P x a w
   | .bool false => runC P y a w
   | _ => none
 | .block id c,a,w =>
   match runC P c a w with
   | some (.normal,a',w') => some (.normal,a',w')
   | some (.exit k,a',w') => if k = id then some (.normal,a',w') else some (.exit k,a',w')
   | some (.ret,a',w') => some (.ret,a',w')
   | _ => none
 | .exit k,a,w => some (.exit k,a,w)
 | .ret,a,w => some (.ret,a,w)
 | _,_,_ => none
theorem runL_wp {P:Program} {ops:Array Oper} {Q:Exit → Act → World → Prop} {a':Act} {w':World} (hQ:Q .normal a' w'):∀ (l:List Oper) (a:Act) (w:World),runL P ops l a w = some (a',w') → wpList P ops Q l a w
 | [],a,w,h => by
   simp only [runL,Option.some.injEq,Prod.mk.injEq] at h
   obtain ⟨rfl,rfl⟩:=h
   exact hQ
 | o :: r,a,w,h => by
   unfold runL at h
   unfold wpList
   split at h
   ·rename_i hw
    rw [if_pos hw]
    refine .inl ?_
    unfold Oper.wp
    split at h
    ·rename_i v w1 he
     rw [he]
     exact runL_wp hQ r _ _ h
    ·rename_i w1 he
     rw [he]
     exact runL_wp hQ r _ _ h
    ·cases h
   ·rename_i hw
    rw [if_neg (by rw [hw]; decide)]
    exact runL_wp hQ r _ _ h
theorem runC_wp {P:Program}:∀ (c:Code) {Q:Exit → Act → World → Prop} (a:Act) (w:World) {e:Exit} {a':Act} {w':World},runC P c a w = some (e,a',w') → Q e a' w' → c.wp P Q a w
 | .skip,Q,a,w,e,a',w',h,hQ => by
   simp only [runC,Option.some.injEq,Prod.mk.injEq] at h
   obtain ⟨rfl,rfl,rfl⟩:=h
   exact wp_skip hQ
 | .region _ ops false,Q,a,w,e,a',w',h,hQ => by
   unfold runC at h
   split at h
   ·rename_i a1 w1 he
    simp only [Option.some.injEq,Prod.mk.injEq] at h
    obtain ⟨rfl,rfl,rfl⟩:=h
    exact wp_region_list (runL_wp hQ _ _ _ he)
   ·cases h
 | .region _ _ true,Q,a,w,e,a',w',h,hQ => by simp [runC] at h
 | .seq x y,Q,a,w,e,a',w',h,hQ => by
   unfold runC at h
   refine wp_seq ?_
   split at h
   ·rename_i a1 w1 he
    exact runC_wp x a w he (runC_wp y a1 w1 h hQ)
   ·rename_i k a1 w1 he
    simp only [Option.some.injEq,Prod.mk.injEq] at h
    obtain ⟨rfl,rfl,rfl⟩:=h
    exact runC_wp x a w he hQ
   ·rename_i a1 w1 he
    simp only [Option.some.injEq,Prod.mk.injEq] at h
    obtain ⟨rfl,rfl,rfl⟩:=h
    exact runC_wp x a w he hQ
   ·cases h
 | .cond c x y,Q,a,w,e,a',w',h,hQ => by
   unfold runC at h
   split at h
   ·rename_i hc
    exact wp_cond_true hc (runC_wp x a w h hQ)
   ·rename_i hc
    exact wp_cond_false hc (runC_wp y a w h hQ)
   ·cases h
 | .block id c,Q,a,w,e,a',w',h,hQ => by
   unfold runC at h
   refine wp_block ?_
   split at h
   ·rename_i a1 w1 he
    simp only [Option.some.injEq,Prod.mk.injEq] at h
    obtain ⟨rfl,rfl,rfl⟩:=h
    exact runC_wp c a w he hQ
   ·rename_i k a1 w1 he
    refine runC_wp c a w he ?_
    unfold Exit.inBlock
    by_cases hk:k = id
    ·rw [if_pos hk] at h
     simp only [Option.some.injEq,Prod.mk.injEq] at h
     obtain ⟨rfl,rfl,rfl⟩:=h
     simp only [if_pos hk]
     exact hQ
    ·rw [if_neg hk] at h
     simp only [Option.some.injEq,Prod.mk.injEq] at h
     obtain ⟨rfl,rfl,rfl⟩:=h
     simp only [if_neg hk]
     exact hQ
   ·rename_i a1 w1 he
    simp only [Option.some.injEq,Prod.mk.injEq] at h
    obtain ⟨rfl,rfl,rfl⟩:=h
    exact runC_wp c a w he hQ
   ·cases h
 | .exit k,Q,a,w,e,a',w',h,hQ => by
   simp only [runC,Option.some.injEq,Prod.mk.injEq] at h
   obtain ⟨rfl,rfl,rfl⟩:=h
   exact wp_exit hQ
 | .ret,Q,a,w,e,a',w',h,hQ => by
   simp only [runC,Option.some.injEq,Prod.mk.injEq] at h
   obtain ⟨rfl,rfl,rfl⟩:=h
   exact wp_ret hQ
 | .loop c,Q,a,w,e,a',w',h,hQ => by simp [runC] at h
 | .rangeFunc _ _ _ _,Q,a,w,e,a',w',h,hQ => by simp [runC] at h
 | .scope _,Q,a,w,e,a',w',h,hQ => by simp [runC] at h
 | .label _,Q,a,w,e,a',w',h,hQ => by simp [runC] at h
 | .goto _,Q,a,w,e,a',w',h,hQ => by simp [runC] at h
 | .refuse _,Q,a,w,e,a',w',h,hQ => by simp [runC] at h
def runF (P:Program) (f:FuncId) (args:Array Value) (w:World):Option (Bool × Result Value × World) :=
 match P.funcs[f]? with
 | some fn =>
   match fn.body with
   | some c =>
     match runC P c { tmps:=args ++ Array.replicate (fn.ntmps - args.size) undef,defers:=[] } w with
     | some (.ret,a,w') => some (a.defers.isEmpty,(results fn a.tmps).run P w',w')
     | some (.normal,a,w') => some (a.defers.isEmpty,(results fn a.tmps).run P w',w')
     | _ => none
   | none => none
 | none => none
theorem runF_calls {P:Program} {f:FuncId} {args:Array Value} {w:World} {R:Ending → World → Prop} {v:Value} {w':World} (h:runF P f args w = some (true,.ok v w',w')) (hR:R (.returned v) w'):Calls P f args w R:=by
 unfold runF at h
 split at h
 ·rename_i fn hf
  split at h
  ·rename_i c hc
   split at h
   ·rename_i a w1 he
    simp only [Option.some.injEq,Prod.mk.injEq,List.isEmpty_iff] at h
    obtain ⟨h1,h2,rfl⟩:=h
    exact calls_of_wp hf hc (runC_wp c _ _ he (bodyPost_ret h2 h1 hR))
   ·rename_i a w1 he
    simp only [Option.some.injEq,Prod.mk.injEq,List.isEmpty_iff] at h
    obtain ⟨h1,h2,rfl⟩:=h
    exact calls_of_wp hf hc (runC_wp c _ _ he (bodyPost_end h2 h1 hR))
   ·cases h
  ·cases h
 ·cases h
theorem any_takeI (P:Int → Bool) (l:List Int) (n:Nat) (h:n < l.length):(l.take (n + 1)).any P = ((l.take n).any P || P (l.getD n 0)):=by
 rw [List.take_add_one,List.any_append,List.getD_eq_getElem?_getD,List.getElem?_eq_getElem h]
 simp
theorem any_memI {P:Int → Bool} {l:List Int} {n:Nat} (h:n < l.length) (hp:P (l.getD n 0) = true):l.any P = true:=List.any_eq_true.2 ⟨_,getD_mem6 h,hp⟩
def TenSm (T:Ten):Prop:=T.2.1.length ≤ 140737488355328 ∧ T.2.2.1.length ≤ 140737488355328 ∧ T.2.2.2.1.length ≤ 140737488355328 ∧ T.2.2.2.2.length ≤ 140737488355328
theorem str_isE (s:Str):(strOfNums s).toList.isEmpty = decide (s = []):=by
 rw [ByteArray.toList_eq,strOfNums_data]
 cases s <;> rfl
theorem al2p (w:World) (a b:Obj):Below w.heap.size w ((w.alloc a).alloc b):=((Below.refl _ _).alloc (Nat.le_refl _) _).alloc (by simp) _
def AtSm (a:AtA):Prop:=a.nm.length ≤ 100000 ∧ a.s.length ≤ 100000 ∧ a.fl.length ≤ 100000 ∧ a.is.length ≤ 100000 ∧ a.T.2.1.length ≤ 1000 ∧ a.T.2.2.1.length ≤ 10000000 ∧ a.T.2.2.2.1.length ≤ 10000000 ∧ a.T.2.2.2.2.length ≤ 10000000
theorem weights_mem_all {H:Type} {P:Program} {e:TypeId} {d:DataW H}:∀ {l:List (DataW H)},d ∈ l → ∀ m ∈ d.weights P e,m ∈ DataW.weightsAll P e l
 | x :: r,hd,m,hm => by
   rw [DataW.weightsAll,List.mem_append]
   rcases List.mem_cons.1 hd with h | h
   ·subst h; exact .inl hm
   ·exact .inr (weights_mem_all h m hm)
end Go.Proofs.YtbmmcbagdomonaaGreat
