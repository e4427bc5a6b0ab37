import Derived.Test.YtbmmcbagdomonaaGreatChecked
import Derived.WalkKit
import Derived.ProofKit
import Derived.OpenShut
import Derived.Deep.QuietTactic
import Derived.BigQuiet
import Derived.Deep.RegionWith
import Derived.Below
import Derived.Handy
import Derived.RegionTactic
import Derived.ChangeAlike
import Derived.Carry
import Derived.Laws.OwnMore
import Derived.Laws.AppendOwnNone
import Derived.Test.YtbmmcbagdomonaaGreatV01
set_option maxRecDepth 100000
set_option maxHeartbeats 40000000
namespace Go.Proofs.YtbmmcbagdomonaaGreat
open Go.RowKit
set_option linter.unusedVariables false
theorem hide {p:Prop} (h:p):Hid p:=h
theorem uh {p:Prop} (h:Hid p):p:=h
theorem wf_u32_iff {n:Int} (h:(Lit.int .u32 n).wf = true):0 ≤ n ∧ n < 4294967296:=by
 simp [Lit.wf,IntKind.min,IntKind.max,IntKind.signed,IntKind.bits] at h; omega
theorem wf_i64_iff {n:Int} (h:(Lit.int .i64 n).wf = true):-9223372036854775808 ≤ n ∧ n < 9223372036854775808:=by
 simp [Lit.wf,IntKind.min,IntKind.max,IntKind.signed,IntKind.bits] at h; omega
theorem ret_int {k:IntKind} {a b:Int} (h:a = b):Ending.returned (.int k a) = .returned (.int k b):=by rw [h]
theorem ret_bool {a b:Bool} (h:a = b):Ending.returned (.bool a) = .returned (.bool b):=by rw [h]
theorem kind_any (a:Int) (h0:0 ≤ a) (h1:a < 4294967296) (w:World) :
  Calls Tryz.prog 180 #[.int .u32 a] w fun e w' => e = .returned (.int .i64 (Flt.kind a)) ∧ w' = w:=by
 have e1:=Flt.and23 a h0 h1
 have e2:=Flt.and8 (a / 8388608) (by omega) (by omega)
 go_enter Tryz.func180,Tryz.ntmps180
 go_wp2
 all_goals go_ret
 all_goals refine ⟨ret_int ?_,rfl⟩
 all_goals (simp only [bne_iff_ne,ne_eq,beq_iff_eq,bne_eq_false_iff_eq,beq_eq_false_iff_ne] at *)
 all_goals unfold Flt.kind
 all_goals (repeat' split) <;> omega
theorem nan_any (a:Int) (h0:0 ≤ a) (h1:a < 4294967296) (w:World) :
  Calls Tryz.prog 171 #[.int .u32 a] w fun e w' => e = .returned (.bool (Flt.isNaN a)) ∧ w' = w:=by
 go_enter Tryz.func171,Tryz.ntmps171
 go_wp2_with (go_at_call 180; refine (kind_any _ h0 h1 _).mono ?_; rintro e w' ⟨rfl,rfl⟩)
 go_ret
 refine ⟨ret_bool ?_,rfl⟩
 unfold Flt.isNaN Flt.kind
 rw [Bool.eq_iff_iff]; simp; (repeat' split) <;> omega
theorem canon_any (a:Int) (h0:0 ≤ a) (h1:a < 4294967296) (w:World) :
  Calls Tryz.prog 143 #[.int .u32 a] w fun e w' => e = .returned (.int .u32 (Flt.canon a)) ∧ w' = w:=by
 cases hn:Flt.isNaN a
 all_goals
  go_enter Tryz.func143,Tryz.ntmps143
  go_wp2_with (go_at_call 171; refine (nan_any _ h0 h1 _).mono ?_; rintro e w' ⟨rfl,rfl⟩)
  go_ret
  exact ⟨ret_int (by simp [Flt.canon,hn]),rfl⟩
theorem bl_tr {w v u:World} (h:Below w.heap.size w v) (k:Below v.heap.size v u):Below w.heap.size w u:=h.trans (k.mono h.size)
def Ints (k:IntKind) (w:World) (p:Option Addr) (cap:Nat) (xs:List Int):Prop :=
 xs.length ≤ cap ∧ cap ≤ 9223372036854775807 ∧ (∀ x ∈ xs,(Lit.int k x).wf = true) ∧
  (0 < xs.length → ∃ b o,p = some ⟨b,o,none⟩ ∧ b < w.heap.size ∧ ∀ i,i < xs.length → w.cell? ⟨b,o + i,none⟩ = some (.int k (xs.getD i 0))) ∧ (p = none → cap = 0)
theorem Ints.lies {k:IntKind} {w:World} {p:Option Addr} {cap:Nat} {xs:List Int} (h:Ints k w p cap xs) (hp:0 < xs.length):∃ b o,p = some ⟨b,o,none⟩ ∧ b < w.heap.size ∧ ∀ i,i < xs.length → w.cell? ⟨b,o + i,none⟩ = some (.int k (xs.getD i 0)):=h.2.2.2.1 hp
theorem Ints.below {k:IntKind} {w w':World} {p:Option Addr} {cap:Nat} {xs:List Int} (h:Ints k w p cap xs) (hb:Below w.heap.size w w'):Ints k w' p cap xs:=by
 obtain ⟨h1,h2,h3,h4,h5⟩:=h
 refine ⟨h1,h2,h3,fun hp => ?_,h5⟩
 obtain ⟨b,o,e,g1,g2⟩:=h4 hp
 exact ⟨b,o,e,Nat.lt_of_lt_of_le g1 hb.size,fun i hi => (hb.cell (p:=⟨b,o + i,none⟩) g1).trans (g2 i hi)⟩
theorem bw_drew {B:Nat} {a w:World} (h:Below B a w) (n:Nat):Below B a (w.drewN n):=h.trans ⟨rfl,rfl,rfl,Nat.le_refl _,fun _ _ => rfl⟩
theorem Ints.len {k:IntKind} {w:World} {p:Option Addr} {cap:Nat} {xs:List Int} (h:Ints k w p cap xs):xs.length ≤ 9223372036854775807:=Nat.le_trans h.1 h.2.1
theorem Ints.wf {k:IntKind} {w:World} {p:Option Addr} {cap:Nat} {xs:List Int} (h:Ints k w p cap xs) (i:Nat) (hi:i < xs.length):(Lit.int k (xs.getD i 0)).wf = true:=by
 have:xs.getD i 0 = xs[i]:=by simp [List.getElem?_eq_getElem hi]
 rw [this]; exact h.2.2.1 _ (List.getElem_mem hi)
theorem Ints.i64 {w:World} {p:Option Addr} {cap:Nat} {xs:List Int} (h:Ints .i64 w p cap xs) (i:Nat) (hi:i < xs.length):-9223372036854775808 ≤ xs.getD i 0 ∧ xs.getD i 0 < 9223372036854775808 :=
 wf_i64_iff (h.wf i hi)
theorem Tryz.infoInt:(Tryz.prog.info? 3).map (fun i => (i.zero,i.size,i.bytes)) = some (some (.int .i64 0),1,8):=by kernel_rfl
def vals (os:List Int):List Value:=os.map fun d => Value.int .i64 d
def Ls {α:Type} [Inhabited α] (f:α → Value) (w:World) (p:Option Addr) (cap:Nat) (xs:List α):Prop :=
 xs.length ≤ cap ∧ cap ≤ 9223372036854775807 ∧ (0 < xs.length → ∃ b o,p = some ⟨b,o,none⟩ ∧ b < w.heap.size ∧ ∀ i,i < xs.length → w.cell? ⟨b,o + i,none⟩ = some (f (xs.getD i default))) ∧ (p = none → cap = 0)
theorem Ls.len {α:Type} [Inhabited α] {f:α → Value} {w:World} {p:Option Addr} {cap:Nat} {xs:List α} (h:Ls f w p cap xs):xs.length ≤ 9223372036854775807:=Nat.le_trans h.1 h.2.1
theorem Ls.lies {α:Type} [Inhabited α] {f:α → Value} {w:World} {p:Option Addr} {cap:Nat} {xs:List α} (h:Ls f w p cap xs) (hp:0 < xs.length):∃ b o,p = some ⟨b,o,none⟩ ∧ b < w.heap.size ∧ ∀ i,i < xs.length → w.cell? ⟨b,o + i,none⟩ = some (f (xs.getD i default)):=h.2.2.1 hp
theorem Ls.below {α:Type} [Inhabited α] {f:α → Value} {w w':World} {p:Option Addr} {cap:Nat} {xs:List α} (h:Ls f w p cap xs) (hb:Below w.heap.size w w'):Ls f w' p cap xs:=by
 obtain ⟨h1,h2,h4,h5⟩:=h
 refine ⟨h1,h2,fun hp => ?_,h5⟩
 obtain ⟨b,o,e,g1,g2⟩:=h4 hp
 exact ⟨b,o,e,Nat.lt_of_lt_of_le g1 hb.size,fun i hi => (hb.cell (p:=⟨b,o + i,none⟩) g1).trans (g2 i hi)⟩
theorem Ls.nil {α:Type} [Inhabited α] {f:α → Value} (w:World):Ls f w none 0 []:=⟨by simp,by omega,by simp,fun _ => rfl⟩
def OwnG {α:Type} (t:TypeId) (f:α → Value) (w wr:World) (v:Value) (os:List α):Prop :=
 wr.ownsRow w.heap.size t 1 v os.length (os.map f) ∧ Below w.heap.size w wr
theorem OwnG.nil {α:Type} {f:α → Value} (t:TypeId) (w wr:World) (h:Below w.heap.size w wr):OwnG t f w wr (.slice none 0 0) []:=⟨World.ownsRow_nil _ _ _ _,h⟩
def Fresh (B:Nat) (w:World) (p:Option Addr) (n:Nat):Prop:=∀ b o,p = some ⟨b,o,none⟩ → 0 < n → B ≤ b ∧ ∀ i,i < n → w.frozen? ⟨b,o + i,none⟩ = false
theorem Fresh.below {α:Type} [Inhabited α] {f:α → Value} {B:Nat} {w w':World} {p:Option Addr} {n cap:Nat} {xs:List α} (h:Fresh B w p n) (hl:Ls f w p cap xs) (hn:n = xs.length) (hb:Below w.heap.size w w'):Fresh B w' p n:=by
 intro b o e hp
 obtain ⟨h1,h2⟩:=h b o e hp
 obtain ⟨b',o',e',g1,_⟩:=hl.lies (by omega)
 rw [e] at e'
 simp only [Option.some.injEq,Addr.mk.injEq] at e'
 obtain ⟨rfl,rfl,_⟩:=e'
 exact ⟨h1,fun i hi => (hb.frozen (p:=⟨b,o + i,none⟩) g1).trans (h2 i hi)⟩
theorem Fresh.nil (B:Nat) (w:World):Fresh B w none 0:=fun b o e => by cases e
theorem Fresh.mono {B C:Nat} {w:World} {p:Option Addr} {n:Nat} (h:Fresh B w p n) (hc:C ≤ B):Fresh C w p n:=fun b o e hp => ⟨Nat.le_trans hc (h b o e hp).1,(h b o e hp).2⟩
theorem OwnG.form {α:Type} [Inhabited α] {f:α → Value} {t:TypeId} {w wr:World} {v:Value} {os:List α} (h:OwnG t f w wr v os):∃ p cap,v = .slice p os.length cap ∧ Ls f wr p cap os ∧ Fresh w.heap.size wr p os.length:=by
 obtain ⟨⟨l1,h1⟩,h2⟩:=h
 have h0:wr.ownsRow w.heap.size t 1 v os.length (os.map f):=⟨l1,h1⟩
 rcases h1 with ⟨rfl,hn⟩ | ⟨g,cap,cur,rfl,hb,hh,hc,hm,hs,ht⟩
 ·exact ⟨none,0,by rw [hn],⟨by omega,by omega,fun hp => by omega,fun _ => rfl⟩,fun b o e => by cases e⟩
 ·refine ⟨some ⟨g,0,none⟩,cap,rfl,⟨hc,hm,fun hp => ⟨g,0,rfl,(h0.lt g rfl).2,fun i hi => ?_⟩,fun h => by cases h⟩,fun b o e hp => ?_⟩
  ·have e:cur.toList[i]? = some (f (os.getD i default)):=by
    have e1:(cur.toList.take (os.length * 1))[i]? = cur.toList[i]?:=List.getElem?_take_of_lt (by omega)
    rw [← e1,ht,List.getElem?_map,List.getElem?_eq_getElem hi,List.getD_eq_getElem?_getD,List.getElem?_eq_getElem hi]; rfl
   simp [World.cell?,hh]
   simpa using e
  ·simp only [Option.some.injEq,Addr.mk.injEq] at e
   obtain ⟨rfl,rfl,_⟩:=e
   exact ⟨hb,fun i _ => h0.frozenAt (0 + i)⟩
theorem lsMap_cells {α:Type} [Inhabited α] {f:α → Value} {w:World} {b o:Nat} {xs:List α} (h:∀ i,i < xs.length → w.cell? ⟨b,o + i,none⟩ = some (f (xs.getD i default))) :
  ∀ j u,(xs.map f)[j]? = some u → w.cell? ((⟨b,o,none⟩:Addr).add j) = some u:=by
 intro j u hj
 have hlt:j < xs.length:=by
  have:=(List.getElem?_eq_some_iff.1 hj).1
  simpa using this
 rw [Go.WideShapes.add_plain,h j hlt]
 rw [List.getElem?_map,List.getElem?_eq_getElem hlt] at hj
 rw [List.getD_eq_getElem?_getD,List.getElem?_eq_getElem hlt]
 simpa using hj
theorem wpList_append_ls {α:Type} [Inhabited α] {f:α → Value} {P:Program} {w:World} {ops:Array Oper} {rest:List Oper} {o:Oper} {a:Act} {Q:Exit → Act → World → Prop} (hgd:o.guard = none) (s x:Operand) (t:TypeId)
  (ho:o.op = .call { callee:=.builtin .append,args:=#[s,x],argTypes:=#[t,t] })
  (w0:World) (e:TypeId) (i:TypeInfo) (z:Value) (bytes:Nat) (ht:P.underlying t = some (.slice e)) (hi:P.info? e = some i) (hz:i.zero = some z)
  (hsize:i.size = 1) (hby:i.bytes = bytes) (hzs:z.cells.size = 1) (hf:∀ y,(f y).oneCell' = true)
  (v:Value) (os:List α) (hs:a.eval s = v) (hown:OwnG e f w0 w v os)
  (p:Option Addr) (c:Nat) (xs:List α) (hx:a.eval x = .slice p xs.length c) (hl:Ls f w p c xs)
  (h63:os.length + xs.length ≤ maxLen) (hbytes:(os.length + xs.length) * bytes ≤ 140737488355328)
  (h:∀ v' w',OwnG e f w0 w' v' (os ++ xs) → wpList P ops Q rest (a.put o.dst v') w'):wpList P ops Q (o :: rest) a w:=by
 cases p with
 | none =>
   have hx0:xs = []:=by
    rcases Nat.eq_zero_or_pos xs.length with g | g
    ·exact List.eq_nil_of_length_eq_zero g
    ·obtain ⟨b,o,e,_⟩:=hl.lies g; cases e
   subst hx0
   have hc0:c = 0:=hl.2.2.2 rfl
   subst hc0
   refine wpList_append_own_none hgd s x t ho w0.heap.size e i 1 ht hi v _ _ hs hown.1 hx (h v w ?_)
   rw [List.append_nil]; exact hown
 | some ad =>
   have hcells:∀ j u,(xs.map f)[j]? = some u → w.cell? (ad.add j) = some u:=by
    rcases Nat.eq_zero_or_pos xs.length with g | g
    ·have:xs = []:=List.eq_nil_of_length_eq_zero g
     subst this
     intro j u hj; simp at hj
    ·obtain ⟨b,o,e,hb,hc⟩:=hl.lies g
     simp only [Option.some.injEq] at e
     subst e; exact lsMap_cells hc
   refine wpList_append_own w hgd s x t ho w0.heap.size e i z 1 bytes ht hi hz hsize hby hzs (by decide) v os.length (os.map f) hs hown.1 ad xs.length c (xs.map f) hx (by simp) hcells ?_ h63 hbytes hown.2.size ?_
   ·intro u hu
    obtain ⟨y,_,rfl⟩:=List.mem_map.1 hu
    exact hf y
   ·intro v' w' h1 h2 _
    refine h v' w' ⟨by rw [List.length_append,List.map_append]; exact h1,?_⟩
    exact hown.2.grown h2 hown.2.size (fun k hk => (hown.1.lt k hk).1)
def Mid (lo hi:Nat) (w w':World):Prop:=w.heap.size ≤ w'.heap.size ∧ ∀ k,k < w.heap.size → (k < lo ∨ hi ≤ k) → w'.heap[k]? = w.heap[k]?
theorem Mid.refl (lo hi:Nat) (w:World):Mid lo hi w w:=⟨Nat.le_refl _,fun _ _ _ => rfl⟩
theorem Mid.trans {lo hi:Nat} {a b c:World} (h:Mid lo hi a b) (k:Mid lo hi b c):Mid lo hi a c :=
 ⟨Nat.le_trans h.1 k.1,fun i hi1 hi2 => (k.2 i (Nat.lt_of_lt_of_le hi1 h.1) hi2).trans (h.2 i hi1 hi2)⟩
theorem Mid.setCell {lo hi:Nat} {a w:World} (h:Mid lo hi a w) {q:Addr} (h1:lo ≤ q.block) (h2:q.block < hi) (u:Value):Mid lo hi a (w.setCell q u) :=
 h.trans ⟨by simp [World.setCell],fun k hk hh => Below.heap_setCell _ _ _ _ (by omega)⟩
theorem Ls.mid {α:Type} [Inhabited α] {f:α → Value} {lo hi:Nat} {w w':World} {p:Option Addr} {cap:Nat} {xs:List α} (h:Ls f w p cap xs) (m:Mid lo hi w w') (ha:∀ b o,p = some ⟨b,o,none⟩ → 0 < xs.length → b < lo ∨ hi ≤ b):Ls f w' p cap xs:=by
 obtain ⟨h1,h2,h4,h5⟩:=h
 refine ⟨h1,h2,fun hp => ?_,h5⟩
 obtain ⟨b,o,e,g1,g2⟩:=h4 hp
 exact ⟨b,o,e,Nat.lt_of_lt_of_le g1 m.1,fun i hi => (World.cell?_of_block (w:=w) (m.2 b g1 (ha b o e hp))).trans (g2 i hi)⟩
theorem Fresh.mid {α:Type} [Inhabited α] {f:α → Value} {B lo hi:Nat} {w w':World} {p:Option Addr} {n cap:Nat} {xs:List α} (h:Fresh B w p n) (hl:Ls f w p cap xs) (hn:n = xs.length) (m:Mid lo hi w w') (ha:∀ b o,p = some ⟨b,o,none⟩ → 0 < xs.length → b < lo ∨ hi ≤ b):Fresh B w' p n:=by
 intro b o e hp
 obtain ⟨h1,h2⟩:=h b o e hp
 obtain ⟨b',o',e',g1,_⟩:=hl.lies (by omega)
 have e2:=e
 rw [e] at e'
 simp only [Option.some.injEq,Addr.mk.injEq] at e'
 obtain ⟨rfl,rfl,_⟩:=e'
 exact ⟨h1,fun i hi => (World.frozen?_of_block (w:=w) (m.2 b g1 (ha b o e2 (by omega)))).trans (h2 i hi)⟩
theorem Ints.ls {k:IntKind} {w:World} {p:Option Addr} {cap:Nat} {xs:List Int} (h:Ints k w p cap xs):Ls (Value.int k) w p cap xs:=⟨h.1,h.2.1,h.2.2.2.1,h.2.2.2.2⟩
theorem Ls.ints {k:IntKind} {w:World} {p:Option Addr} {cap:Nat} {xs:List Int} (h:Ls (Value.int k) w p cap xs) (hw:∀ x ∈ xs,(Lit.int k x).wf = true):Ints k w p cap xs:=⟨h.1,h.2.1,hw,h.2.2.1,h.2.2.2⟩
def Box (w:World) (g:Nat) (cs:Array Value) (t:TypeId):Prop:=w.heap[g]? = some (.cells cs t (0,0))
theorem Box.cell {w:World} {g:Nat} {cs:Array Value} {t:TypeId} (h:Box w g cs t) (j:Nat):w.cell? ⟨g,j,none⟩ = cs[j]?:=by
 unfold Box at h
 simp [World.cell?,h]
theorem Box.frozen {w:World} {g:Nat} {cs:Array Value} {t:TypeId} (h:Box w g cs t) (j:Nat):w.frozen? ⟨g,j,none⟩ = false:=by
 unfold Box at h
 simp [World.frozen?,h]
theorem Box.lt {w:World} {g:Nat} {cs:Array Value} {t:TypeId} (h:Box w g cs t):g < w.heap.size:=by
 unfold Box at h
 rcases Nat.lt_or_ge g w.heap.size with k | k
 ·exact k
 ·rw [Array.getElem?_eq_none k] at h; cases h
theorem Box.below {w w':World} {g:Nat} {cs:Array Value} {t:TypeId} (h:Box w g cs t) (hb:Below w.heap.size w w'):Box w' g cs t:=(hb.block g h.lt).trans h
theorem Box.same {w:World} {g:Nat} {cs:Array Value} {t:TypeId} (h:Box w g cs t) (j:Nat) (v:Value):Box (w.setCell ⟨g,j,none⟩ v) g (cs.setIfInBounds j v) t:=by
 have hl:=h.lt
 unfold Box at *
 simp only [World.setCell,Array.getElem?_modify,h]
 simp
theorem Box.other {w:World} {g:Nat} {cs:Array Value} {t:TypeId} (h:Box w g cs t) {k:Nat} (hne:g ≠ k) (j:Nat) (v:Value):Box (w.setCell ⟨k,j,none⟩ v) g cs t :=
 (Below.heap_setCell w ⟨k,j,none⟩ v g hne).trans h
theorem Box.new (w:World) (cs:Array Value) (t:TypeId):Box (w.alloc (.cells cs t)) w.heap.size cs t:=by
 show (w.heap.push (Obj.cells cs t))[w.heap.size]? = _
 simp
theorem Box.alloc {w:World} {g:Nat} {cs:Array Value} {t:TypeId} (h:Box w g cs t) (o:Obj):Box (w.alloc o) g cs t:=(Below.heap_alloc w o g h.lt).trans h
theorem int_one (k:IntKind) (x:Int):(Value.int k x).oneCell' = true:=rfl
theorem bool_one (x:Bool):(Value.bool x).oneCell' = true:=rfl
end Go.Proofs.YtbmmcbagdomonaaGreat
