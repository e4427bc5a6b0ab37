import Derived.Test.YtmdlaahdgjegcaaGreatChecked
import Derived.WalkKit
import Derived.ProofKit
import Derived.OpenShut
import Derived.Deep.QuietTactic
import Derived.BigQuiet
import Derived.Deep.RegionWith
import Derived.Below
import Derived.Handy
import Derived.RegionTactic
import Derived.ChangeAlike
import Derived.Laws.MathBits
import Derived.Laws.BitsAll
import Derived.RowKit
import Derived.Carry
import Derived.Laws.OwnMore
import Derived.Laws.AppendOwnNone
import Derived.SizedLaws
import Derived.Deep.Grids
set_option maxRecDepth 100000
set_option maxHeartbeats 8000000
namespace Go.Proofs.YtmdlaahdgjegcaaGreat
open Go.RowKit
set_option linter.unusedVariables false
theorem hide {p:Prop} (h:p):Hid p:=h
theorem uh {p:Prop} (h:Hid p):p:=h
theorem wf_u32_iff {n:Int} (h:(Lit.int .u32 n).wf = true):0 ≤ n ∧ n < 4294967296:=by
 simp [Lit.wf,IntKind.min,IntKind.max,IntKind.signed,IntKind.bits] at h; omega
theorem ret_bool {a b:Bool} (h:a = b):Ending.returned (.bool a) = .returned (.bool b):=by rw [h]
theorem bl_tr {w v u:World} (h:Below w.heap.size w v) (k:Below v.heap.size v u):Below w.heap.size w u:=h.trans (k.mono h.size)
def Ints (k:IntKind) (w:World) (p:Option Addr) (cap:Nat) (xs:List Int):Prop :=
 xs.length ≤ cap ∧ cap ≤ 9223372036854775807 ∧ (∀ x ∈ xs,(Lit.int k x).wf = true) ∧
  (0 < xs.length → ∃ b o,p = some ⟨b,o,none⟩ ∧ b < w.heap.size ∧ ∀ i,i < xs.length → w.cell? ⟨b,o + i,none⟩ = some (.int k (xs.getD i 0))) ∧ (p = none → cap = 0)
theorem Ints.lies {k:IntKind} {w:World} {p:Option Addr} {cap:Nat} {xs:List Int} (h:Ints k w p cap xs) (hp:0 < xs.length):∃ b o,p = some ⟨b,o,none⟩ ∧ b < w.heap.size ∧ ∀ i,i < xs.length → w.cell? ⟨b,o + i,none⟩ = some (.int k (xs.getD i 0)):=h.2.2.2.1 hp
theorem Ints.below {k:IntKind} {w w':World} {p:Option Addr} {cap:Nat} {xs:List Int} (h:Ints k w p cap xs) (hb:Below w.heap.size w w'):Ints k w' p cap xs:=by
 obtain ⟨h1,h2,h3,h4,h5⟩:=h
 refine ⟨h1,h2,h3,fun hp => ?_,h5⟩
 obtain ⟨b,o,e,g1,g2⟩:=h4 hp
 exact ⟨b,o,e,Nat.lt_of_lt_of_le g1 hb.size,fun i hi => (hb.cell (p:=⟨b,o + i,none⟩) g1).trans (g2 i hi)⟩
theorem bw_drew {B:Nat} {a w:World} (h:Below B a w) (n:Nat):Below B a (w.drewN n):=h.trans ⟨rfl,rfl,rfl,Nat.le_refl _,fun _ _ => rfl⟩
theorem Ints.len {k:IntKind} {w:World} {p:Option Addr} {cap:Nat} {xs:List Int} (h:Ints k w p cap xs):xs.length ≤ 9223372036854775807:=Nat.le_trans h.1 h.2.1
theorem Ints.wf {k:IntKind} {w:World} {p:Option Addr} {cap:Nat} {xs:List Int} (h:Ints k w p cap xs) (i:Nat) (hi:i < xs.length):(Lit.int k (xs.getD i 0)).wf = true:=by
 have:xs.getD i 0 = xs[i]:=by simp [List.getElem?_eq_getElem hi]
 rw [this]; exact h.2.2.1 _ (List.getElem_mem hi)
def Ls {α:Type} [Inhabited α] (f:α → Value) (w:World) (p:Option Addr) (cap:Nat) (xs:List α):Prop :=
 xs.length ≤ cap ∧ cap ≤ 9223372036854775807 ∧ (0 < xs.length → ∃ b o,p = some ⟨b,o,none⟩ ∧ b < w.heap.size ∧ ∀ i,i < xs.length → w.cell? ⟨b,o + i,none⟩ = some (f (xs.getD i default))) ∧ (p = none → cap = 0)
theorem Ls.len {α:Type} [Inhabited α] {f:α → Value} {w:World} {p:Option Addr} {cap:Nat} {xs:List α} (h:Ls f w p cap xs):xs.length ≤ 9223372036854775807:=Nat.le_trans h.1 h.2.1
theorem Ls.lies {α:Type} [Inhabited α] {f:α → Value} {w:World} {p:Option Addr} {cap:Nat} {xs:List α} (h:Ls f w p cap xs) (hp:0 < xs.length):∃ b o,p = some ⟨b,o,none⟩ ∧ b < w.heap.size ∧ ∀ i,i < xs.length → w.cell? ⟨b,o + i,none⟩ = some (f (xs.getD i default)):=h.2.2.1 hp
theorem Ls.below {α:Type} [Inhabited α] {f:α → Value} {w w':World} {p:Option Addr} {cap:Nat} {xs:List α} (h:Ls f w p cap xs) (hb:Below w.heap.size w w'):Ls f w' p cap xs:=by
 obtain ⟨h1,h2,h4,h5⟩:=h
 refine ⟨h1,h2,fun hp => ?_,h5⟩
 obtain ⟨b,o,e,g1,g2⟩:=h4 hp
 exact ⟨b,o,e,Nat.lt_of_lt_of_le g1 hb.size,fun i hi => (hb.cell (p:=⟨b,o + i,none⟩) g1).trans (g2 i hi)⟩
theorem Ls.nil {α:Type} [Inhabited α] {f:α → Value} (w:World):Ls f w none 0 []:=⟨by simp,by omega,by simp,fun _ => rfl⟩
def OwnG {α:Type} (t:TypeId) (f:α → Value) (w wr:World) (v:Value) (os:List α):Prop :=
 wr.ownsRow w.heap.size t 1 v os.length (os.map f) ∧ Below w.heap.size w wr
theorem OwnG.nil {α:Type} {f:α → Value} (t:TypeId) (w wr:World) (h:Below w.heap.size w wr):OwnG t f w wr (.slice none 0 0) []:=⟨World.ownsRow_nil _ _ _ _,h⟩
theorem OwnG.below {α:Type} {f:α → Value} {t:TypeId} {w wr w':World} {v:Value} {os:List α} (h:OwnG t f w wr v os) (hb:Below wr.heap.size wr w'):OwnG t f w w' v os:=by
 obtain ⟨⟨l1,h1⟩,h2⟩:=h
 refine ⟨⟨l1,?_⟩,bl_tr h2 hb⟩
 rcases h1 with ⟨rfl,h0⟩ | ⟨g,cap,cur,rfl,hb1,hh,hc,hm,hs,ht⟩
 ·exact .inl ⟨rfl,h0⟩
 ·refine .inr ⟨g,cap,cur,rfl,hb1,?_,hc,hm,hs,ht⟩
  rw [hb.block g ?_]; exact hh
  rcases Nat.lt_or_ge g wr.heap.size with h | h
  ·exact h
  ·rw [Array.getElem?_eq_none h] at hh; cases hh
def Fresh (B:Nat) (w:World) (p:Option Addr) (n:Nat):Prop:=∀ b o,p = some ⟨b,o,none⟩ → 0 < n → B ≤ b ∧ ∀ i,i < n → w.frozen? ⟨b,o + i,none⟩ = false
theorem Fresh.mono {B C:Nat} {w:World} {p:Option Addr} {n:Nat} (h:Fresh B w p n) (hc:C ≤ B):Fresh C w p n:=fun b o e hp => ⟨Nat.le_trans hc (h b o e hp).1,(h b o e hp).2⟩
theorem OwnG.form {α:Type} [Inhabited α] {f:α → Value} {t:TypeId} {w wr:World} {v:Value} {os:List α} (h:OwnG t f w wr v os):∃ p cap,v = .slice p os.length cap ∧ Ls f wr p cap os ∧ Fresh w.heap.size wr p os.length:=by
 obtain ⟨⟨l1,h1⟩,h2⟩:=h
 have h0:wr.ownsRow w.heap.size t 1 v os.length (os.map f):=⟨l1,h1⟩
 rcases h1 with ⟨rfl,hn⟩ | ⟨g,cap,cur,rfl,hb,hh,hc,hm,hs,ht⟩
 ·exact ⟨none,0,by rw [hn],⟨by omega,by omega,fun hp => by omega,fun _ => rfl⟩,fun b o e => by cases e⟩
 ·refine ⟨some ⟨g,0,none⟩,cap,rfl,⟨hc,hm,fun hp => ⟨g,0,rfl,(h0.lt g rfl).2,fun i hi => ?_⟩,fun h => by cases h⟩,fun b o e hp => ?_⟩
  ·have e:cur.toList[i]? = some (f (os.getD i default)):=by
    have e1:(cur.toList.take (os.length * 1))[i]? = cur.toList[i]?:=List.getElem?_take_of_lt (by omega)
    rw [← e1,ht,List.getElem?_map,List.getElem?_eq_getElem hi,List.getD_eq_getElem?_getD,List.getElem?_eq_getElem hi]; rfl
   simp [World.cell?,hh]
   simpa using e
  ·simp only [Option.some.injEq,Addr.mk.injEq] at e
   obtain ⟨rfl,rfl,_⟩:=e
   exact ⟨hb,fun i _ => h0.frozenAt (0 + i)⟩
theorem lsMap_cells {α:Type} [Inhabited α] {f:α → Value} {w:World} {b o:Nat} {xs:List α} (h:∀ i,i < xs.length → w.cell? ⟨b,o + i,none⟩ = some (f (xs.getD i default))) :
  ∀ j u,(xs.map f)[j]? = some u → w.cell? ((⟨b,o,none⟩:Addr).add j) = some u:=by
 intro j u hj
 have hlt:j < xs.length:=by
  have:=(List.getElem?_eq_some_iff.1 hj).1
  simpa using this
 rw [Go.WideShapes.add_plain,h j hlt]
 rw [List.getElem?_map,List.getElem?_eq_getElem hlt] at hj
 rw [List.getD_eq_getElem?_getD,List.getElem?_eq_getElem hlt]
 simpa using hj
theorem wpList_append_ls {α:Type} [Inhabited α] {f:α → Value} {P:Program} {w:World} {ops:Array Oper} {rest:List Oper} {o:Oper} {a:Act} {Q:Exit → Act → World → Prop} (hgd:o.guard = none) (s x:Operand) (t:TypeId)
  (ho:o.op = .call { callee:=.builtin .append,args:=#[s,x],argTypes:=#[t,t] })
  (w0:World) (e:TypeId) (i:TypeInfo) (z:Value) (bytes:Nat) (ht:P.underlying t = some (.slice e)) (hi:P.info? e = some i) (hz:i.zero = some z)
  (hsize:i.size = 1) (hby:i.bytes = bytes) (hzs:z.cells.size = 1) (hf:∀ y,(f y).oneCell' = true)
  (v:Value) (os:List α) (hs:a.eval s = v) (hown:OwnG e f w0 w v os)
  (p:Option Addr) (c:Nat) (xs:List α) (hx:a.eval x = .slice p xs.length c) (hl:Ls f w p c xs)
  (h63:os.length + xs.length ≤ maxLen) (hbytes:(os.length + xs.length) * bytes ≤ 140737488355328)
  (h:∀ v' w',OwnG e f w0 w' v' (os ++ xs) → wpList P ops Q rest (a.put o.dst v') w'):wpList P ops Q (o :: rest) a w:=by
 cases p with
 | none =>
   have hx0:xs = []:=by
    rcases Nat.eq_zero_or_pos xs.length with g | g
    ·exact List.eq_nil_of_length_eq_zero g
    ·obtain ⟨b,o,e,_⟩:=hl.lies g; cases e
   subst hx0
   have hc0:c = 0:=hl.2.2.2 rfl
   subst hc0
   refine wpList_append_own_none hgd s x t ho w0.heap.size e i 1 ht hi v _ _ hs hown.1 hx (h v w ?_)
   rw [List.append_nil]; exact hown
 | some ad =>
   have hcells:∀ j u,(xs.map f)[j]? = some u → w.cell? (ad.add j) = some u:=by
    rcases Nat.eq_zero_or_pos xs.length with g | g
    ·have:xs = []:=List.eq_nil_of_length_eq_zero g
     subst this
     intro j u hj; simp at hj
    ·obtain ⟨b,o,e,hb,hc⟩:=hl.lies g
     simp only [Option.some.injEq] at e
     subst e; exact lsMap_cells hc
   refine wpList_append_own w hgd s x t ho w0.heap.size e i z 1 bytes ht hi hz hsize hby hzs (by decide) v os.length (os.map f) hs hown.1 ad xs.length c (xs.map f) hx (by simp) hcells ?_ h63 hbytes hown.2.size ?_
   ·intro u hu
    obtain ⟨y,_,rfl⟩:=List.mem_map.1 hu
    exact hf y
   ·intro v' w' h1 h2 _
    refine h v' w' ⟨by rw [List.length_append,List.map_append]; exact h1,?_⟩
    exact hown.2.grown h2 hown.2.size (fun k hk => (hown.1.lt k hk).1)
def Mid (lo hi:Nat) (w w':World):Prop:=w.heap.size ≤ w'.heap.size ∧ ∀ k,k < w.heap.size → (k < lo ∨ hi ≤ k) → w'.heap[k]? = w.heap[k]?
theorem Mid.trans {lo hi:Nat} {a b c:World} (h:Mid lo hi a b) (k:Mid lo hi b c):Mid lo hi a c :=
 ⟨Nat.le_trans h.1 k.1,fun i hi1 hi2 => (k.2 i (Nat.lt_of_lt_of_le hi1 h.1) hi2).trans (h.2 i hi1 hi2)⟩
theorem Mid.setCell {lo hi:Nat} {a w:World} (h:Mid lo hi a w) {q:Addr} (h1:lo ≤ q.block) (h2:q.block < hi) (u:Value):Mid lo hi a (w.setCell q u) :=
 h.trans ⟨by simp [World.setCell],fun k hk hh => Below.heap_setCell _ _ _ _ (by omega)⟩
theorem Ints.ls {k:IntKind} {w:World} {p:Option Addr} {cap:Nat} {xs:List Int} (h:Ints k w p cap xs):Ls (Value.int k) w p cap xs:=⟨h.1,h.2.1,h.2.2.2.1,h.2.2.2.2⟩
theorem Ls.ints {k:IntKind} {w:World} {p:Option Addr} {cap:Nat} {xs:List Int} (h:Ls (Value.int k) w p cap xs) (hw:∀ x ∈ xs,(Lit.int k x).wf = true):Ints k w p cap xs:=⟨h.1,h.2.1,hw,h.2.2.1,h.2.2.2⟩
def Box (w:World) (g:Nat) (cs:Array Value) (t:TypeId):Prop:=w.heap[g]? = some (.cells cs t (0,0))
theorem Box.cell {w:World} {g:Nat} {cs:Array Value} {t:TypeId} (h:Box w g cs t) (j:Nat):w.cell? ⟨g,j,none⟩ = cs[j]?:=by
 unfold Box at h
 simp [World.cell?,h]
theorem Box.frozen {w:World} {g:Nat} {cs:Array Value} {t:TypeId} (h:Box w g cs t) (j:Nat):w.frozen? ⟨g,j,none⟩ = false:=by
 unfold Box at h
 simp [World.frozen?,h]
theorem Box.lt {w:World} {g:Nat} {cs:Array Value} {t:TypeId} (h:Box w g cs t):g < w.heap.size:=by
 unfold Box at h
 rcases Nat.lt_or_ge g w.heap.size with k | k
 ·exact k
 ·rw [Array.getElem?_eq_none k] at h; cases h
theorem Box.below {w w':World} {g:Nat} {cs:Array Value} {t:TypeId} (h:Box w g cs t) (hb:Below w.heap.size w w'):Box w' g cs t:=(hb.block g h.lt).trans h
theorem Box.same {w:World} {g:Nat} {cs:Array Value} {t:TypeId} (h:Box w g cs t) (j:Nat) (v:Value):Box (w.setCell ⟨g,j,none⟩ v) g (cs.setIfInBounds j v) t:=by
 have hl:=h.lt
 unfold Box at *
 simp only [World.setCell,Array.getElem?_modify,h]
 simp
theorem Box.other {w:World} {g:Nat} {cs:Array Value} {t:TypeId} (h:Box w g cs t) {k:Nat} (hne:g ≠ k) (j:Nat) (v:Value):Box (w.setCell ⟨k,j,none⟩ v) g cs t :=
 (Below.heap_setCell w ⟨k,j,none⟩ v g hne).trans h
theorem Box.new (w:World) (cs:Array Value) (t:TypeId):Box (w.alloc (.cells cs t)) w.heap.size cs t:=by
 show (w.heap.push (Obj.cells cs t))[w.heap.size]? = _
 simp
theorem Box.alloc {w:World} {g:Nat} {cs:Array Value} {t:TypeId} (h:Box w g cs t) (o:Obj):Box (w.alloc o) g cs t:=(Below.heap_alloc w o g h.lt).trans h
theorem int_one (k:IntKind) (x:Int):(Value.int k x).oneCell' = true:=rfl
theorem bool_one (x:Bool):(Value.bool x).oneCell' = true:=rfl
def varF:Nat → Int → List Int
 | 0,x => [x]
 | n + 1,x => if x < 128 then [x] else (x % 128 + 128) :: varF n (x / 128)
def varV (x:Int):List Int:=varF 9 x
theorem varF_big (n:Nat) {x:Int} (h:¬ x < 128):varF (n + 1) x = (x % 128 + 128) :: varF n (x / 128):=by rw [varF,if_neg h]
theorem varF_more:∀ (n:Nat) (x:Int),0 ≤ x → x < 128 ^ (n + 1) → varF (n + 1) x = varF n x
 | 0,x,h0,h1 => by
   have:x < 128:=by simpa using h1
   simp [varF,this]
 | n + 1,x,h0,h1 => by
   by_cases h:x < 128
   ·simp [varF,h]
   ·rw [varF_big (n + 1) h,varF_big n h,varF_more n (x / 128) (by omega) (by rw [Int.pow_succ] at h1; omega)]
theorem pow128_9:(128:Int) ^ 9 = 9223372036854775808:=by decide
theorem varV_small {x:Int} (h:x < 128):varV x = [x]:=by unfold varV varF; rw [if_pos h]
theorem varV_step {x:Int} (h0:¬ x < 128) (h1:x < 18446744073709551616):varV x = (x % 128 + 128) :: varV (x / 128):=by
 unfold varV
 rw [varF,if_neg h0,← varF_more 8 (x / 128) (by omega) (by rw [pow128_9]; omega)]
theorem varF_range:∀ (n:Nat) (x:Int),0 ≤ x → x < 128 ^ (n + 1) → ∀ c ∈ varF n x,0 ≤ c ∧ c < 256
 | 0,x,h0,h1,c,hc => by
   simp [varF] at hc
   subst hc
   have:c < 128:=by simpa using h1
   omega
 | n + 1,x,h0,h1,c,hc => by
   rw [varF] at hc
   by_cases h:x < 128
   ·rw [if_pos h] at hc; simp at hc; subst hc; omega
   ·rw [if_neg h] at hc
    rcases List.mem_cons.1 hc with e | e
    ·omega
    ·exact varF_range n (x / 128) (by omega) (by rw [Int.pow_succ] at h1; omega) c e
theorem varV_range {x:Int} (h0:0 ≤ x) (h1:x < 18446744073709551616):∀ c ∈ varV x,0 ≤ c ∧ c < 256:=by
 have:=varF_range 9 x h0 (by have:(128:Int) ^ 10 = 1180591620717411303424:=by decide
                             omega)
 exact this
theorem varF_len:∀ (n:Nat) (x:Int),1 ≤ (varF n x).length ∧ (varF n x).length ≤ n + 1
 | 0,x => by simp [varF]
 | n + 1,x => by
   rw [varF]
   split
   ·simp
   ·have:=varF_len n (x / 128)
    simp; omega
theorem varV_len (x:Int):1 ≤ (varV x).length ∧ (varV x).length ≤ 10:=varF_len 9 x
def rdG:Nat → List Int → Option (Int × Nat)
 | 0,_ => none
 | _ + 1,[] => none
 | k + 1,c :: r => if k = 0 ∧ 1 < c then none else if c < 128 then some (c % 128,1) else (rdG k r).map fun y => (c % 128 + 128 * y.1,y.2 + 1)
def rdN (b:List Int) (p:Nat):Option (Int × Nat):=(rdG 10 (b.drop p)).map fun y => (y.1,p + y.2)
def rdV (b:List Int) (p:Int):Int × Int × Int :=
 if p < 0 ∨ (b.length:Int) < p then (0,0,2) else match rdN b p.toNat with
  | none => (0,0,6)
  | some y => (y.1,(y.2:Int),0)
theorem rdG_count:∀ (k:Nat) (r:List Int) (x:Int) (n:Nat),rdG k r = some (x,n) → 1 ≤ n ∧ n ≤ k ∧ n ≤ r.length
 | 0,_,_,_,h => by cases h
 | k + 1,[],_,_,h => by cases h
 | k + 1,c :: r,x,n,h => by
   rw [rdG] at h
   split at h
   ·cases h
   ·split at h
    ·simp at h; simp; omega
    ·cases hh:rdG k r with
     | none => rw [hh] at h; cases h
     | some y =>
       rw [hh] at h
       have:=rdG_count k r y.1 y.2 hh
       simp at h
       simp; omega
theorem rdG_range:∀ (k:Nat) (r:List Int) (x:Int) (n:Nat),k ≤ 10 → (∀ c ∈ r,0 ≤ c ∧ c < 256) → rdG k r = some (x,n) → 0 ≤ x ∧ (1 ≤ k → x < 2 * 128 ^ (k - 1))
 | 0,_,_,_,_,_,h => by cases h
 | k + 1,[],_,_,_,_,h => by cases h
 | k + 1,c :: r,x,n,hk,hr,h => by
   rw [rdG] at h
   obtain ⟨c0,c1⟩:=hr c (by simp)
   split at h
   ·cases h
   ·rename_i hn
    split at h
    ·simp at h
     obtain ⟨rfl,_⟩:=h
     refine ⟨by omega,fun _ => ?_⟩
     rcases Nat.eq_zero_or_pos k with e | e
     ·subst e; simp at hn ⊢; omega
     ·have:(128:Int) ^ 1 ≤ 128 ^ k:=by
       have:=Nat.pow_le_pow_right (show 0 < 128 by decide) e
       have h2:((128 ^ 1:Nat):Int) ≤ ((128 ^ k:Nat):Int):=Int.ofNat_le.2 this
       simpa using h2
      show c % 128 < 2 * 128 ^ k
      omega
    ·rename_i hc
     cases hh:rdG k r with
     | none => rw [hh] at h; cases h
     | some y =>
       rw [hh] at h
       have hk0:1 ≤ k:=by
        rcases Nat.eq_zero_or_pos k with e | e
        ·subst e; cases hh
        ·exact e
       obtain ⟨i0,i1⟩:=rdG_range k r y.1 y.2 (by omega) (fun c hc => hr c (by simp [hc])) hh
       have i1:=i1 hk0
       simp at h
       obtain ⟨rfl,_⟩:=h
       obtain ⟨j,rfl⟩:∃ j,k = j + 1:=⟨k - 1,by omega⟩
       refine ⟨by omega,fun _ => ?_⟩
       show c % 128 + 128 * y.1 < 2 * 128 ^ (j + 1)
       have i1':y.1 < 2 * 128 ^ j:=i1
       rw [Int.pow_succ]
       generalize (128:Int) ^ j = P at i1' ⊢
       omega
theorem rdG10_range {r:List Int} {x:Int} {n:Nat} (hr:∀ c ∈ r,0 ≤ c ∧ c < 256) (h:rdG 10 r = some (x,n)):0 ≤ x ∧ x < 18446744073709551616:=by
 obtain ⟨h0,h1⟩:=rdG_range 10 r x n (by omega) hr h
 have h2:=h1 (by omega)
 have:(2:Int) * 128 ^ (10 - 1) = 18446744073709551616:=by decide
 omega
theorem rdG_varF:∀ (k:Nat) (x:Int) (rest:List Int),0 ≤ x → x < 2 * 128 ^ k → rdG (k + 1) (varF k x ++ rest) = some (x,(varF k x).length)
 | 0,x,rest,h0,h1 => by
   have:x < 2:=by simpa using h1
   simp [varF,rdG]
   omega
 | k + 1,x,rest,h0,h1 => by
   rw [varF]
   by_cases h:x < 128
   ·rw [if_pos h]
    simp only [List.cons_append,List.nil_append,rdG]
    rw [if_neg (by omega),if_pos h]
    simp; omega
   ·rw [if_neg h]
    have ih:=rdG_varF k (x / 128) rest (by omega) (by rw [Int.pow_succ] at h1; generalize (128:Int) ^ k = P at h1 ⊢; omega)
    simp only [List.cons_append]
    rw [rdG,if_neg (by omega),if_neg (by omega),ih]
    simp; omega
theorem rdG_varV {x:Int} (rest:List Int) (h0:0 ≤ x) (h1:x < 18446744073709551616):rdG 10 (varV x ++ rest) = some (x,(varV x).length) :=
 rdG_varF 9 x rest h0 (by have:(2:Int) * 128 ^ 9 = 18446744073709551616:=by decide
                          omega)
theorem varF_least:∀ (k:Nat) (r:List Int) (x:Int) (n:Nat),(∀ c ∈ r,0 ≤ c ∧ c < 256) → rdG (k + 1) r = some (x,n) → (varF k x).length ≤ n
 | 0,r,x,n,hr,h => by
   have:=(rdG_count 1 r x n h).1
   simp [varF]; omega
 | k + 1,[],x,n,hr,h => by cases h
 | k + 1,c :: r,x,n,hr,h => by
   rw [rdG] at h
   obtain ⟨c0,c1⟩:=hr c (by simp)
   split at h
   ·cases h
   ·split at h
    ·simp at h
     obtain ⟨rfl,rfl⟩:=h
     rw [varF,if_pos (by omega)]
     simp
    ·cases hh:rdG (k + 1) r with
     | none => rw [hh] at h; cases h
     | some y =>
       rw [hh] at h
       have ih:=varF_least k r y.1 y.2 (fun c hc => hr c (by simp [hc])) hh
       simp at h
       obtain ⟨rfl,rfl⟩:=h
       rw [varF]
       split
       ·simp
       ·have e:(c % 128 + 128 * y.1) / 128 = y.1:=by omega
        rw [e]
        simp; omega
theorem varV_least {r:List Int} {x:Int} {n:Nat} (hr:∀ c ∈ r,0 ≤ c ∧ c < 256) (h:rdG 10 r = some (x,n)):(varV x).length ≤ n:=varF_least 9 r x n hr h
abbrev Fld:=Int × Int × Int × List Int
def isB (r:List Int):Prop:=∀ c ∈ r,0 ≤ c ∧ c < 256
theorem isB_drop {r:List Int} (h:isB r) (n:Nat):isB (r.drop n):=fun c hc => h c (List.mem_of_mem_drop hc)
theorem isB_take {r:List Int} (h:isB r) (n:Nat):isB (r.take n):=fun c hc => h c (List.mem_of_mem_take hc)
theorem isB_append {r s:List Int} (h:isB r) (k:isB s):isB (r ++ s):=fun c hc => by
 rcases List.mem_append.1 hc with e | e
 ·exact h c e
 ·exact k c e
def leV:List Int → Int
 | [] => 0
 | c :: r => c + 256 * leV r
theorem leV_snoc (c:Int):∀ l:List Int,leV (l ++ [c]) = leV l + 256 ^ l.length * c
 | [] => by simp [leV]
 | x :: l => by
   simp only [List.cons_append,leV,List.length_cons,leV_snoc c l,Int.pow_succ]
   generalize (256:Int) ^ l.length = P
   generalize leV l = Q
   have:256 * (Q + P * c) = 256 * Q + P * 256 * c:=by rw [Int.mul_add,Int.mul_comm P 256,Int.mul_assoc]
   omega
theorem leV_range:∀ l:List Int,isB l → 0 ≤ leV l ∧ leV l < 256 ^ l.length
 | [],_ => by simp [leV]
 | x :: l,h => by
   obtain ⟨h0,h1⟩:=leV_range l (fun c hc => h c (by simp [hc]))
   obtain ⟨c0,c1⟩:=h x (by simp)
   simp only [leV,List.length_cons,Int.pow_succ]
   generalize (256:Int) ^ l.length = P at *
   omega
def fxL (X:Int):Nat → List Int
 | 0 => []
 | k + 1 => fxL X k ++ [X / 256 ^ k % 256]
theorem fxL_length (X:Int):∀ k,(fxL X k).length = k
 | 0 => rfl
 | k + 1 => by simp [fxL,fxL_length X k]
theorem fxL_isB (X:Int):∀ k,isB (fxL X k)
 | 0 => fun c hc => by cases hc
 | k + 1 => isB_append (fxL_isB X k) (fun c hc => by simp at hc; subst hc; omega)
theorem leV_fxL (X:Int) (h0:0 ≤ X):∀ k,leV (fxL X k) = X % 256 ^ k
 | 0 => by simp [fxL,leV,Int.emod_one]
 | k + 1 => by
   rw [fxL,leV_snoc,leV_fxL X h0 k,fxL_length]
   have e1:X % 256 ^ (k + 1) = X % 256 ^ k + 256 ^ k * (X / 256 ^ k % 256):=by
    have hP:(0:Int) ≤ 256 ^ k:=Int.pow_nonneg (by decide)
    have e:X / (256 ^ k * 256) = X / 256 ^ k / 256:=(Int.ediv_ediv_of_nonneg hP).symm
    rw [Int.pow_succ,Int.emod_def X (256 ^ k * 256),Int.emod_def X (256 ^ k),Int.emod_def (X / 256 ^ k) 256,e]
    generalize X / 256 ^ k = A
    generalize (256:Int) ^ k = P
    generalize A / 256 = B
    rw [Int.mul_sub,Int.mul_assoc]
    generalize P * A = u
    generalize P * (256 * B) = v
    omega
   rw [e1]
def oneL (r:List Int):Option (Fld × Nat) :=
 match rdG 10 r with
 | none => none
 | some t =>
   if t.1 / 8 < 1 ∨ 536870911 < t.1 / 8 then none
   else if t.1 % 8 = 0 then (rdG 10 (r.drop t.2)).map fun y => ((t.1 / 8,0,y.1,[]),t.2 + y.2)
   else if t.1 % 8 = 1 then (if r.length < t.2 + 8 then none else some ((t.1 / 8,1,leV ((r.drop t.2).take 8),[]),t.2 + 8))
   else if t.1 % 8 = 5 then (if r.length < t.2 + 4 then none else some ((t.1 / 8,5,leV ((r.drop t.2).take 4),[]),t.2 + 4))
   else if t.1 % 8 = 2 then (match rdG 10 (r.drop t.2) with
    | none => none
    | some y => if (r.length:Int) < (t.2 + y.2:Nat) + y.1 then none else some ((t.1 / 8,2,0,(r.drop (t.2 + y.2)).take y.1.toNat),t.2 + y.2 + y.1.toNat))
   else none
def mayF (f:Fld):Prop:=1 ≤ f.1 ∧ f.1 ≤ 536870911 ∧ ((f.2.1 = 0 ∨ f.2.1 = 1) ∧ f.2.2.2 = [] ∨ f.2.1 = 5 ∧ f.2.2.2 = [] ∧ f.2.2.1 < 4294967296 ∨ f.2.1 = 2 ∧ f.2.2.1 = 0)
def okF (f:Fld):Prop:=0 ≤ f.2.2.1 ∧ f.2.2.1 < 18446744073709551616 ∧ isB f.2.2.2
def bodyB (f:Fld):List Int:=if f.2.1 = 0 then varV f.2.2.1 else if f.2.1 = 1 then fxL f.2.2.1 8 else if f.2.1 = 5 then fxL f.2.2.1 4 else varV (f.2.2.2.length:Int) ++ f.2.2.2
def fieldB (f:Fld):List Int:=varV (f.1 * 8 + f.2.1) ++ bodyB f
theorem drop_len_append {α:Type} (a b:List α):(a ++ b).drop a.length = b:=by simp
theorem take_len_append {α:Type} (a b:List α) (n:Nat) (h:n = a.length):(a ++ b).take n = a:=by subst h; simp
theorem oneL_fieldB (f:Fld) (rest:List Int) (hm:mayF f) (ho:okF f) (hl:f.2.2.2.length < 18446744073709551616):oneL (fieldB f ++ rest) = some (f,(fieldB f).length):=by
 obtain ⟨num,wire,x,d⟩:=f
 obtain ⟨m1,m2,m3⟩:=hm
 obtain ⟨o1,o2,o3⟩:=ho
 simp only at m1 m2 m3 o1 o2 o3 hl
 have hw:wire = 0 ∨ wire = 1 ∨ wire = 5 ∨ wire = 2:=by omega
 have ht0:0 ≤ num * 8 + wire:=by omega
 have ht1:num * 8 + wire < 18446744073709551616:=by omega
 have e1:=rdG_varV (bodyB (num,wire,x,d) ++ rest) ht0 ht1
 have ed:(num * 8 + wire) / 8 = num:=by omega
 have em:(num * 8 + wire) % 8 = wire:=by omega
 unfold oneL fieldB
 rw [List.append_assoc,e1]
 simp only [ed,em]
 rw [if_neg (by omega),drop_len_append]
 rcases hw with rfl | rfl | rfl | rfl
 ·rw [if_pos rfl]
  have hd:d = []:=by rcases m3 with h | h | h <;> first | exact h.2 | omega
  subst hd
  have eb:bodyB (num,0,x,[]) = varV x:=rfl
  rw [eb,rdG_varV rest o1 o2]
  simp
 ·rw [if_neg (by decide),if_pos rfl]
  have hd:d = []:=by rcases m3 with h | h | h <;> first | exact h.2 | omega
  subst hd
  have eb:bodyB (num,1,x,[]) = fxL x 8:=rfl
  rw [eb,if_neg (by simp [fxL_length] <;> omega),take_len_append _ _ 8 (by rw [fxL_length]),leV_fxL x o1,Int.emod_eq_of_lt o1 (by rw [show (256:Int) ^ 8 = 18446744073709551616 by decide]; exact o2)]
  simp [fxL_length]
 ·rw [if_neg (by decide),if_neg (by decide),if_pos rfl]
  have hd:d = [] ∧ x < 4294967296:=by rcases m3 with h | h | h <;> first | exact h.2 | omega
  obtain ⟨rfl,hx⟩:=hd
  have eb:bodyB (num,5,x,[]) = fxL x 4:=rfl
  rw [eb,if_neg (by simp [fxL_length] <;> omega),take_len_append _ _ 4 (by rw [fxL_length]),leV_fxL x o1,Int.emod_eq_of_lt o1 (by rw [show (256:Int) ^ 4 = 4294967296 by decide]; exact hx)]
  simp [fxL_length]
 ·rw [if_neg (by decide),if_neg (by decide),if_neg (by decide),if_pos rfl]
  have hx:x = 0:=by rcases m3 with h | h | h <;> first | exact h.2 | omega
  subst hx
  have eb:bodyB (num,2,0,d) = varV (d.length:Int) ++ d:=rfl
  rw [eb,List.append_assoc,rdG_varV (d ++ rest) (by omega) (by omega)]
  simp only
  rw [if_neg (by simp; omega),Int.toNat_natCast]
  have e3:(varV (num * 8 + 2) ++ (varV (d.length:Int) ++ (d ++ rest))).drop ((varV (num * 8 + 2)).length + (varV (d.length:Int)).length) = d ++ rest:=by
   rw [← List.append_assoc,← List.length_append,drop_len_append]
  rw [e3,take_len_append d rest _ rfl]
  simp [Nat.add_assoc]
theorem oneL_may {r:List Int} {f:Fld} {k:Nat} (hr:isB r) (h:oneL r = some (f,k)):mayF f ∧ okF f ∧ (fieldB f).length ≤ k ∧ 1 ≤ k ∧ k ≤ r.length:=by
 unfold oneL at h
 cases ht:rdG 10 r with
 | none => rw [ht] at h; cases h
 | some t =>
   obtain ⟨tag,p⟩:=t
   rw [ht] at h
   simp only at h
   obtain ⟨c1,c2,c3⟩:=rdG_count 10 r tag p ht
   obtain ⟨t0,t1⟩:=rdG10_range hr ht
   have tl:=varV_least hr ht
   by_cases hb:tag / 8 < 1 ∨ 536870911 < tag / 8
   ·rw [if_pos hb] at h; cases h
   ·rw [if_neg hb] at h
    by_cases h0:tag % 8 = 0
    ·rw [if_pos h0] at h
     cases hy:rdG 10 (r.drop p) with
     | none => rw [hy] at h; cases h
     | some y =>
       obtain ⟨x,q⟩:=y
       rw [hy] at h
       simp at h
       obtain ⟨rfl,rfl⟩:=h
       obtain ⟨q1,q2,q3⟩:=rdG_count 10 _ x q hy
       obtain ⟨x0,x1⟩:=rdG10_range (isB_drop hr p) hy
       have xl:=varV_least (isB_drop hr p) hy
       have et:tag / 8 * 8 + 0 = tag:=by omega
       simp at q3
       refine ⟨⟨by simp; omega,by simp; omega,.inl ⟨.inl rfl,rfl⟩⟩,⟨x0,x1,fun c hc => by cases hc⟩,?_,by omega,by omega⟩
       unfold fieldB bodyB
       simp only [et,if_true,List.length_append]
       omega
    ·rw [if_neg h0] at h
     by_cases h1:tag % 8 = 1
     ·rw [if_pos h1] at h
      by_cases hl:r.length < p + 8
      ·rw [if_pos hl] at h; cases h
      ·rw [if_neg hl] at h
       simp at h
       obtain ⟨rfl,rfl⟩:=h
       have hv:=leV_range ((r.drop p).take 8) (isB_take (isB_drop hr p) 8)
       have hln:((r.drop p).take 8).length = 8:=by simp; omega
       rw [hln,show (256:Int) ^ 8 = 18446744073709551616 by decide] at hv
       have et:tag / 8 * 8 + 1 = tag:=by omega
       refine ⟨⟨by simp; omega,by simp; omega,.inl ⟨.inr rfl,rfl⟩⟩,⟨hv.1,hv.2,fun c hc => by cases hc⟩,?_,by omega,by omega⟩
       unfold fieldB bodyB
       simp only [et,List.length_append]
       rw [if_neg (by decide),if_pos trivial,fxL_length]
       omega
     ·rw [if_neg h1] at h
      by_cases h5:tag % 8 = 5
      ·rw [if_pos h5] at h
       by_cases hl:r.length < p + 4
       ·rw [if_pos hl] at h; cases h
       ·rw [if_neg hl] at h
        simp at h
        obtain ⟨rfl,rfl⟩:=h
        have hv:=leV_range ((r.drop p).take 4) (isB_take (isB_drop hr p) 4)
        have hln:((r.drop p).take 4).length = 4:=by simp; omega
        rw [hln,show (256:Int) ^ 4 = 4294967296 by decide] at hv
        have et:tag / 8 * 8 + 5 = tag:=by omega
        refine ⟨⟨by simp; omega,by simp; omega,.inr (.inl ⟨rfl,rfl,hv.2⟩)⟩,⟨hv.1,by simp only; omega,fun c hc => by cases hc⟩,?_,by omega,by omega⟩
        unfold fieldB bodyB
        simp only [et,List.length_append]
        rw [if_neg (by decide),if_neg (by decide),if_pos trivial,fxL_length]
        omega
      ·rw [if_neg h5] at h
       by_cases h2:tag % 8 = 2
       ·rw [if_pos h2] at h
        cases hy:rdG 10 (r.drop p) with
        | none => rw [hy] at h; cases h
        | some y =>
          obtain ⟨x,q⟩:=y
          rw [hy] at h
          simp only at h
          obtain ⟨q1,q2,q3⟩:=rdG_count 10 _ x q hy
          obtain ⟨x0,x1⟩:=rdG10_range (isB_drop hr p) hy
          have xl:=varV_least (isB_drop hr p) hy
          simp at q3
          by_cases hl:(r.length:Int) < (p + q:Nat) + x
          ·rw [if_pos hl] at h; cases h
          ·rw [if_neg hl] at h
           simp at h
           obtain ⟨rfl,rfl⟩:=h
           have hln:((r.drop (p + q)).take x.toNat).length = x.toNat:=by simp; omega
           have et:tag / 8 * 8 + 2 = tag:=by omega
           refine ⟨⟨by simp; omega,by simp; omega,.inr (.inr ⟨rfl,rfl⟩)⟩,⟨by simp,by simp,isB_take (isB_drop hr _) _⟩,?_,by omega,by omega⟩
           unfold fieldB bodyB
           simp only [et,List.length_append,hln]
           rw [if_neg (by decide),if_neg (by decide),if_neg (by decide),List.length_append,hln,show ((x.toNat:Nat):Int) = x by omega]
           omega
       ·rw [if_neg h2] at h; cases h
def readF:Nat → List Int → Option (List Fld)
 | 0,r => if r.length = 0 then some [] else none
 | n + 1,r => if r.length = 0 then some [] else match oneL r with
   | none => none
   | some y => (readF n (r.drop y.2)).map (y.1 :: ·)
theorem oneL_count {r:List Int} {f:Fld} {k:Nat} (h:oneL r = some (f,k)):1 ≤ k:=by
 unfold oneL at h
 cases ht:rdG 10 r with
 | none => rw [ht] at h; cases h
 | some t =>
   obtain ⟨tag,p⟩:=t
   rw [ht] at h
   simp only at h
   have c1:=(rdG_count 10 r tag p ht).1
   split at h
   ·cases h
   ·split at h
    ·cases hy:rdG 10 (r.drop p) with
     | none => rw [hy] at h; cases h
     | some y => rw [hy] at h; simp at h; omega
    ·split at h
     ·split at h
      ·cases h
      ·simp at h; omega
     ·split at h
      ·split at h
       ·cases h
       ·simp at h; omega
      ·split at h
       ·cases hy:rdG 10 (r.drop p) with
        | none => rw [hy] at h; cases h
        | some y =>
          rw [hy] at h
          simp only at h
          split at h
          ·cases h
          ·simp at h; omega
       ·cases h
theorem readF_fuel:∀ (n m:Nat) (r:List Int),r.length ≤ n → r.length ≤ m → readF n r = readF m r
 | 0,m,r,h1,h2 => by
   have h0:r.length = 0:=by omega
   cases m with
   | zero => rfl
   | succ m => rw [readF,readF,if_pos h0,if_pos h0]
 | n + 1,m,r,h1,h2 => by
   by_cases h0:r.length = 0
   ·cases m with
    | zero => rw [readF,readF,if_pos h0,if_pos h0]
    | succ m => rw [readF,readF,if_pos h0,if_pos h0]
   ·cases m with
    | zero => omega
    | succ m =>
      rw [readF,readF,if_neg h0,if_neg h0]
      cases ho:oneL r with
      | none => rfl
      | some y =>
        have:=oneL_count (f:=y.1) (k:=y.2) ho
        simp only
        rw [readF_fuel n m (r.drop y.2) (by simp; omega) (by simp; omega)]
def readL (r:List Int):Option (List Fld):=readF r.length r
theorem readL_nil:readL [] = some []:=rfl
theorem readL_step {r:List Int} (h0:¬ r.length = 0):readL r = match oneL r with
  | none => none
  | some y => (readL (r.drop y.2)).map (y.1 :: ·):=by
 unfold readL
 obtain ⟨n,hn⟩:∃ n,r.length = n + 1:=⟨r.length - 1,by omega⟩
 rw [hn,readF,if_neg h0]
 cases ho:oneL r with
 | none => rfl
 | some y =>
   have:=oneL_count (f:=y.1) (k:=y.2) ho
   simp only
   rw [readF_fuel n (r.drop y.2).length (r.drop y.2) (by simp; omega) (Nat.le_refl _)]
def readV (b:List Int):List Fld × Int:=if 4194304 < b.length then ([],8) else match readL b with
 | none => ([],6)
 | some l => (l,0)
def mayB (f:Fld):Bool:=decide (1 ≤ f.1) && decide (f.1 ≤ 536870911) && ((f.2.1 == 0 || f.2.1 == 1) && f.2.2.2.isEmpty || f.2.1 == 5 && f.2.2.2.isEmpty && decide (f.2.2.1 < 4294967296) || f.2.1 == 2 && f.2.2.1 == 0)
theorem mayB_iff (f:Fld):mayB f = true ↔ mayF f:=by
 unfold mayB mayF
 simp only [Bool.and_eq_true,Bool.or_eq_true,decide_eq_true_eq,beq_iff_eq,List.isEmpty_iff]
 constructor
 ·rintro ⟨⟨h1,h2⟩,(⟨h3,h4⟩ | ⟨⟨h3,h4⟩,h5⟩) | ⟨h3,h4⟩⟩
  ·exact ⟨h1,h2,.inl ⟨h3,h4⟩⟩
  ·exact ⟨h1,h2,.inr (.inl ⟨h3,h4,h5⟩)⟩
  ·exact ⟨h1,h2,.inr (.inr ⟨h3,h4⟩)⟩
 ·rintro ⟨h1,h2,⟨h3,h4⟩ | ⟨h3,h4,h5⟩ | ⟨h3,h4⟩⟩
  ·exact ⟨⟨h1,h2⟩,.inl (.inl ⟨h3,h4⟩)⟩
  ·exact ⟨⟨h1,h2⟩,.inl (.inr ⟨⟨h3,h4⟩,h5⟩)⟩
  ·exact ⟨⟨h1,h2⟩,.inr ⟨h3,h4⟩⟩
def msgB (l:List Fld):List Int:=l.flatMap fieldB
def writeV (l:List Fld):List Int × Int:=if l.all mayB = false then ([],1) else if 4194304 < (msgB l).length then ([],8) else (msgB l,0)
theorem fieldB_pos (f:Fld):1 ≤ (fieldB f).length:=by
 have:=(varV_len (f.1 * 8 + f.2.1)).1
 unfold fieldB; simp; omega
theorem readL_msg:∀ (l:List Fld) (rest:List Int),(∀ f ∈ l,mayF f ∧ okF f ∧ f.2.2.2.length < 18446744073709551616) → readL (msgB l ++ rest) = (readL rest).map (l ++ ·)
 | [],rest,_ => by
   simp only [msgB,List.flatMap_nil,List.nil_append]
   cases readL rest <;> rfl
 | f :: l,rest,h => by
   obtain ⟨h1,h2,h3⟩:=h f (by simp)
   have ih:=readL_msg l rest (fun g hg => h g (by simp [hg]))
   have hp:=fieldB_pos f
   have e:msgB (f :: l) ++ rest = fieldB f ++ (msgB l ++ rest):=by simp [msgB]
   rw [e,readL_step (by rw [List.length_append]; omega),oneL_fieldB f (msgB l ++ rest) h1 h2 h3]
   simp only
   rw [drop_len_append,ih]
   cases readL rest <;> rfl
theorem readF_may:∀ (n:Nat) (r:List Int) (l:List Fld),isB r → readF n r = some l → (∀ f ∈ l,mayF f ∧ okF f) ∧ (msgB l).length ≤ r.length
 | 0,r,l,hr,h => by
   rw [readF] at h
   split at h
   ·simp at h; subst h; exact ⟨fun f hf => by simp at hf,by simp [msgB]⟩
   ·cases h
 | n + 1,r,l,hr,h => by
   rw [readF] at h
   split at h
   ·simp at h; subst h; exact ⟨fun f hf => by simp at hf,by simp [msgB]⟩
   ·cases ho:oneL r with
    | none => rw [ho] at h; cases h
    | some y =>
      rw [ho] at h
      simp only at h
      cases hh:readF n (r.drop y.2) with
      | none => rw [hh] at h; cases h
      | some l' =>
        rw [hh] at h
        simp at h
        subst h
        obtain ⟨i1,i2⟩:=readF_may n (r.drop y.2) l' (isB_drop hr _) hh
        obtain ⟨m1,m2,m3,m4,m5⟩:=oneL_may (f:=y.1) (k:=y.2) hr ho
        refine ⟨fun f hf => ?_,?_⟩
        ·rcases List.mem_cons.1 hf with e | e
         ·subst e; exact ⟨m1,m2⟩
         ·exact i1 f e
        ·have e:msgB (y.1 :: l') = fieldB y.1 ++ msgB l':=by simp [msgB]
         rw [e,List.length_append]
         simp at i2
         omega
def allV (l:List Fld) (num:Int):List Fld:=l.filter (fun f => f.1 == num)
def noFld:Fld:=(0,0,0,[])
def lastV (l:List Fld) (num wire:Int):Fld × Bool × Int :=
 if (allV l num).any (fun f => f.2.1 != wire) then (noFld,false,6) else if (allV l num).length = 0 then (noFld,false,0) else ((allV l num).getD ((allV l num).length - 1) noFld,true,0)
def joinV (l:List Fld) (num:Int):List Int × Bool × Int :=
 if (allV l num).any (fun f => f.2.1 != 2) then ([],false,6) else ((allV l num).flatMap (fun f => f.2.2.2),decide (0 < (allV l num).length),0)
def varsF:Nat → List Int → Option (List Int)
 | 0,r => if r.length = 0 then some [] else none
 | n + 1,r => if r.length = 0 then some [] else match rdG 10 r with
   | none => none
   | some y => (varsF n (r.drop y.2)).map (y.1 :: ·)
def varsL (r:List Int):Option (List Int):=varsF r.length r
theorem varsF_fuel:∀ (n m:Nat) (r:List Int),r.length ≤ n → r.length ≤ m → varsF n r = varsF m r
 | 0,m,r,h1,h2 => by
   have h0:r.length = 0:=by omega
   cases m with
   | zero => rfl
   | succ m => rw [varsF,varsF,if_pos h0,if_pos h0]
 | n + 1,m,r,h1,h2 => by
   by_cases h0:r.length = 0
   ·cases m with
    | zero => rw [varsF,varsF,if_pos h0,if_pos h0]
    | succ m => rw [varsF,varsF,if_pos h0,if_pos h0]
   ·cases m with
    | zero => omega
    | succ m =>
      rw [varsF,varsF,if_neg h0,if_neg h0]
      cases ho:rdG 10 r with
      | none => rfl
      | some y =>
        have:=(rdG_count 10 r y.1 y.2 ho).1
        simp only
        rw [varsF_fuel n m (r.drop y.2) (by simp; omega) (by simp; omega)]
theorem varsL_nil:varsL [] = some []:=rfl
theorem varsL_step {r:List Int} (h0:¬ r.length = 0):varsL r = match rdG 10 r with
  | none => none
  | some y => (varsL (r.drop y.2)).map (y.1 :: ·):=by
 unfold varsL
 obtain ⟨n,hn⟩:∃ n,r.length = n + 1:=⟨r.length - 1,by omega⟩
 rw [hn,varsF,if_neg h0]
 cases ho:rdG 10 r with
 | none => rfl
 | some y =>
   have:=(rdG_count 10 r y.1 y.2 ho).1
   simp only
   rw [varsF_fuel n (r.drop y.2).length (r.drop y.2) (by simp; omega) (Nat.le_refl _)]
def int1 (f:Fld):Option (List Int):=if f.2.1 = 0 then some [f.2.2.1] else if f.2.1 = 2 then varsL f.2.2.2 else none
def fours (d:List Int):List Int:=(List.range (d.length / 4)).map fun i => leV ((d.drop (4 * i)).take 4)
def fix1 (f:Fld):Option (List Int):=if f.2.1 = 5 then some [f.2.2.1 % 4294967296] else if f.2.1 = 2 ∧ f.2.2.2.length % 4 = 0 then some (fours f.2.2.2) else none
def allOr (g:Fld → Option (List Int)):List Fld → Option (List Int)
 | [] => some []
 | f :: l => match g f with
   | none => none
   | some x => (allOr g l).map (x ++ ·)
theorem allOr_append (g:Fld → Option (List Int)):∀ (l m:List Fld),allOr g (l ++ m) = match allOr g l with
  | none => none
  | some x => (allOr g m).map (x ++ ·)
 | [],m => by
   simp only [List.nil_append,allOr]
   cases allOr g m <;> rfl
 | f :: l,m => by
   simp only [List.cons_append,allOr,allOr_append g l m]
   cases g f with
   | none => rfl
   | some x =>
     cases allOr g l with
     | none => rfl
     | some y =>
       cases allOr g m with
       | none => rfl
       | some z => simp
def listV (g:Fld → Option (List Int)) (l:List Fld) (num:Int):List Int × Int:=match allOr g (allV l num) with
 | none => ([],6)
 | some x => (x,0)
abbrev Ten:=Int × List Int × List Int × List Int × List Bool
structure TA where
 pd:Option Addr
 cd:Nat
 pf:Option Addr
 cf:Nat
 pi:Option Addr
 ci:Nat
 pb:Option Addr
 cb:Nat
def tenCells (T:Ten) (A:TA):Array Value:=#[.int .i64 T.1,.slice A.pd T.2.1.length A.cd,.slice A.pf T.2.2.1.length A.cf,.slice A.pi T.2.2.2.1.length A.ci,.slice A.pb T.2.2.2.2.length A.cb]
def tenV (T:Ten) (A:TA):Value:=.agg (tenCells T A)
def TenIn (w:World) (T:Ten) (A:TA):Prop :=
 (Lit.int .i64 T.1).wf = true ∧ Ints .i64 w A.pd A.cd T.2.1 ∧ Ints .u32 w A.pf A.cf T.2.2.1 ∧ Ints .i64 w A.pi A.ci T.2.2.2.1 ∧ Ls Value.bool w A.pb A.cb T.2.2.2.2
theorem TenIn.below {w w':World} {T:Ten} {A:TA} (h:TenIn w T A) (hb:Below w.heap.size w w'):TenIn w' T A :=
 ⟨h.1,h.2.1.below hb,h.2.2.1.below hb,h.2.2.2.1.below hb,h.2.2.2.2.below hb⟩
def noTen:Ten:=(0,[],[],[],[])
def noTA:TA:=⟨none,0,none,0,none,0,none,0⟩
theorem nilInts (k:IntKind) (w:World):Ints k w none 0 []:=⟨by simp,by omega,by simp,by simp,fun _ => rfl⟩
theorem noTen_in (w:World):TenIn w noTen noTA:=⟨rfl,nilInts _ _,nilInts _ _,nilInts _ _,Ls.nil _⟩
def widthV (k:Int):Int:=if k = 1 then 4 else if k = 7 then 8 else if k = 9 then 1 else 0
theorem part_ints {H:Type} {enc:TypeId × Value → H} {P:Program} {W:World} {n:Nat} {t e:TypeId} {k:IntKind} {cs:List Value} {y:DataW H × List MemPlace} (ht:P.underlying t = some (.slice e)) (he:P.underlying e = some (.int k)) (hc:P.cellsOf e = 1)
  (h:DataW.trod enc P W 0 (fun _ => true) true n t cs = some y) :
  ∃ p cap xs,cs = [.slice p xs.length cap] ∧ Ints k W p cap xs ∧ ((∀ m ∈ y.1.weights P t,m ≤ reachBytes) → cap * P.bytesOf e ≤ reachBytes):=by
 rcases Go.ChangeShapes.open_ints ht he hc h with ⟨hcs,hx⟩ | ⟨a,len,cap,zs,hcs,_,hle,hmax,hall,hx,hcell,hwf⟩
 ·subst hcs
  exact ⟨none,0,[],rfl,⟨Nat.le_refl _,by omega,fun x hx => (by cases hx),fun h => absurd h (by simp),fun _ => rfl⟩,fun _ => by simp⟩
 ·subst hcs
  simp only [if_true] at hall
  have hl:(zs.take len).length = len:=by rw [List.length_take]; omega
  refine ⟨some a,cap,zs.take len,by rw [hl],⟨by omega,hmax,fun x hx => hwf x (List.mem_of_mem_take hx),fun hp => ?_,fun h => by cases h⟩,fun hw => ?_⟩
  ·obtain ⟨b,off,rfl,hc2⟩:=ints_at hcell (by omega)
   have hb:b < W.heap.size:=by
    have:=hc2 0 (by omega)
    rcases Nat.lt_or_ge b W.heap.size with g | g
    ·exact g
    ·exfalso
     have hn:W.heap[b]? = none:=by simp [g]
     simp [World.cell?,hn] at this
   refine ⟨b,off,rfl,hb,fun i hi => ?_⟩
   rw [hl] at hi
   rw [hc2 i (by omega)]
   congr 2
   simp [List.getD_eq_getElem?_getD,List.getElem?_take_of_lt hi]
  ·have:=hw ((len + (cap - len)) * P.bytesOf e) (by
    rw [hx]
    simp only [DataW.weights,ht,Go.ChangeShapes.lits,List.length_map,List.mem_cons]
    left
    rw [hl,List.length_drop,hall])
   rw [show len + (cap - len) = cap by omega] at this
   exact this
theorem part_bools {H:Type} {enc:TypeId × Value → H} {P:Program} {W:World} {n:Nat} {t e:TypeId} {cs:List Value} {y:DataW H × List MemPlace} (ht:P.underlying t = some (.slice e)) (he:P.underlying e = some .bool) (hc:P.cellsOf e = 1)
  (h:DataW.trod enc P W 0 (fun _ => true) true n t cs = some y) :
  ∃ p cap xs,cs = [.slice p xs.length cap] ∧ Ls Value.bool W p cap xs ∧ ((∀ m ∈ y.1.weights P t,m ≤ reachBytes) → cap * P.bytesOf e ≤ reachBytes):=by
 rcases Go.Deep.open_bools ht he hc h with ⟨hcs,hx⟩ | ⟨a,len,cap,B,hcs,_,hle,hmax,hx,hcell⟩
 ·subst hcs
  exact ⟨none,0,[],rfl,Ls.nil _,fun _ => by simp⟩
 ·subst hcs
  have hl:((List.range len).map B).length = len:=by simp
  refine ⟨some a,cap,(List.range len).map B,by rw [hl],⟨by omega,hmax,fun hp => ?_,fun h => by cases h⟩,fun hw => ?_⟩
  ·obtain ⟨b,off,spot⟩:=a
   have hspot:spot = none:=by simpa [Addr.add] using World.cell?_spot (hcell 0 (by omega))
   subst hspot
   have hc2:∀ j,j < cap → W.cell? ⟨b,off + j,none⟩ = some (.bool (B j)):=fun j hj => by rw [← Go.WideShapes.add_plain]; exact hcell j hj
   have hb:b < W.heap.size:=by
    have:=hc2 0 (by omega)
    rcases Nat.lt_or_ge b W.heap.size with g | g
    ·exact g
    ·exfalso
     have hn:W.heap[b]? = none:=by simp [g]
     simp [World.cell?,hn] at this
   refine ⟨b,off,rfl,hb,fun i hi => ?_⟩
   rw [hl] at hi
   rw [hc2 i (by omega),List.getD_eq_getElem?_getD,List.getElem?_map]
   simp [hi]
  ·have:=hw ((len + (cap - len)) * P.bytesOf e) (by
    rw [hx]
    simp [Go.Deep.boolRow,DataW.weights,ht])
   rw [show len + (cap - len) = cap by omega] at this
   exact this
end Go.Proofs.YtmdlaahdgjegcaaGreat
