import Derived.Test.YtaikppgoahdjbabGreatV03
set_option maxRecDepth 100000
set_option maxHeartbeats 8000000
namespace Go.Proofs.YtaikppgoahdjbabGreat
open Go.RowKit
set_option linter.unusedVariables false
theorem wpList_append_lsG {α:Type} [Inhabited α] {f:α → Value} {P:Program} {w:World} {ops:Array Oper} {rest:List Oper} {o:Oper} {a:Act} {Q:Exit → Act → World → Prop} (hgd:o.guard = none) (s x:Operand) (t:TypeId)
  (ho:o.op = .call { callee:=.builtin .append,args:=#[s,x],argTypes:=#[t,t] })
  (w0:World) (e:TypeId) (i:TypeInfo) (z:Value) (bytes:Nat) (ht:P.underlying t = some (.slice e)) (hi:P.info? e = some i) (hz:i.zero = some z)
  (hsize:i.size = 1) (hby:i.bytes = bytes) (hzs:z.cells.size = 1) (hf:∀ y,(f y).oneCell' = true)
  (v:Value) (os:List α) (hs:a.eval s = v) (hown:OwnG e f w0 w v os)
  (p:Option Addr) (c:Nat) (xs:List α) (hx:a.eval x = .slice p xs.length c) (hl:Ls f w p c xs)
  (h63:os.length + xs.length ≤ maxLen) (hbytes:(os.length + xs.length) * bytes ≤ 140737488355328)
  (h:∀ v' w',OwnG e f w0 w' v' (os ++ xs) → w.grownBy w' v.ownBlock → wpList P ops Q rest (a.put o.dst v') w'):wpList P ops Q (o :: rest) a w:=by
 cases p with
 | none =>
   have hx0:xs = []:=by
    rcases Nat.eq_zero_or_pos xs.length with g | g
    ·exact List.eq_nil_of_length_eq_zero g
    ·obtain ⟨b,o,e,_⟩:=hl.lies g; cases e
   subst hx0
   have hc0:c = 0:=hl.2.2.2 rfl
   subst hc0
   refine wpList_append_own_none hgd s x t ho w0.heap.size e i 1 ht hi v _ _ hs hown.1 hx (h v w ?_ ⟨rfl,rfl,rfl,Nat.le_refl _,fun _ _ _ => rfl⟩)
   rw [List.append_nil]; exact hown
 | some ad =>
   have hcells:∀ j u,(xs.map f)[j]? = some u → w.cell? (ad.add j) = some u:=by
    rcases Nat.eq_zero_or_pos xs.length with g | g
    ·have:xs = []:=List.eq_nil_of_length_eq_zero g
     subst this
     intro j u hj; simp at hj
    ·obtain ⟨b,o,e,hb,hc⟩:=hl.lies g
     simp only [Option.some.injEq] at e
     subst e; exact lsMap_cells hc
   refine wpList_append_own w hgd s x t ho w0.heap.size e i z 1 bytes ht hi hz hsize hby hzs (by decide) v os.length (os.map f) hs hown.1 ad xs.length c (xs.map f) hx (by simp) hcells ?_ h63 hbytes hown.2.size ?_
   ·intro u hu
    obtain ⟨y,_,rfl⟩:=List.mem_map.1 hu
    exact hf y
   ·intro v' w' h1 h2 _
    refine h v' w' ⟨by rw [List.length_append,List.map_append]; exact h1,?_⟩ h2
    exact hown.2.grown h2 hown.2.size (fun k hk => (hown.1.lt k hk).1)
theorem Box.grown {α:Type} {f:α → Value} {w w0 w':World} {g:Nat} {cs:Array Value} {t e:TypeId} {v:Value} {os:List α} (h:Box w g cs t) (ho:OwnG e f w0 w v os) (hne:¬ e = t) (hg:w.grownBy w' v.ownBlock):Box w' g cs t:=by
 have hlt:=h.lt
 refine (hg.block g hlt (fun e2 => ?_)).trans h
 rcases ho.1.2 with ⟨hv,_⟩ | ⟨k,cap,cur,hv,_,hh,_⟩
 ·rw [hv] at e2; cases e2
 ·rw [hv] at e2
  simp only [Value.ownBlock,Option.some.injEq] at e2
  subst e2
  unfold Box at h
  rw [h] at hh
  simp only [Option.some.injEq,Obj.cells.injEq] at hh
  exact hne hh.2.1.symm
def mpre (l:List FA) (n:Nat):List Int:=msgB ((l.take n).map FA.f)
theorem msg_take {l:List FA} (n:Nat):(mpre l n).length ≤ (msgB (l.map FA.f)).length:=by
 have e:l.map FA.f = (l.take n).map FA.f ++ (l.drop n).map FA.f:=by rw [← List.map_append,List.take_append_drop]
 rw [e]
 unfold mpre msgB
 rw [List.flatMap_append,List.length_append]
 omega
theorem msg_step {l:List FA} {n:Nat} (h:n < l.length):mpre l (n + 1) = mpre l n ++ fieldB (l.getD n noFA).f:=by
 unfold mpre
 rw [take_addF l n h]
 simp [msgB]
theorem msg_all {l:List FA} {n:Nat} (h:l.length ≤ n):mpre l n = msgB (l.map FA.f):=by unfold mpre; rw [List.take_of_length_le h]
theorem sumD_mem {l:List FA} {a:FA} (h:a ∈ l):a.d.length ≤ sumD l:=by
 obtain ⟨x,y,rfl⟩:=List.append_of_mem h
 rw [sumD_append]
 simp [sumD]
 omega
theorem fieldB_isB {f:Fld} (hm:mayF f) (ho:okF f) (hl:f.2.2.2.length < 18446744073709551616):isB (fieldB f):=by
 obtain ⟨num,wire,x,d⟩:=f
 obtain ⟨m1,m2,m3⟩:=hm
 obtain ⟨o1,o2,o3⟩:=ho
 simp only at m1 m2 m3 o1 o2 o3 hl
 unfold fieldB bodyB
 refine isB_append (varV_range (by simp only; omega) (by simp only; omega)) ?_
 simp only
 split
 ·exact varV_range o1 o2
 ·split
  ·exact fxL_isB _ _
  ·split
   ·exact fxL_isB _ _
   ·exact isB_append (varV_range (by omega) (by omega)) o3
end Go.Proofs.YtaikppgoahdjbabGreat
