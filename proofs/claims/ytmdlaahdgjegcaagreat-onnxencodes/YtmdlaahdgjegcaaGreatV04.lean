import Derived.Test.YtmdlaahdgjegcaaGreatV03
set_option maxRecDepth 100000
set_option maxHeartbeats 8000000
namespace Go.Proofs.YtmdlaahdgjegcaaGreat
open Go.RowKit
set_option linter.unusedVariables false
theorem Box.grown {α:Type} {f:α → Value} {w w0 w':World} {g:Nat} {cs:Array Value} {t e:TypeId} {v:Value} {os:List α} (h:Box w g cs t) (ho:OwnG e f w0 w v os) (hne:¬ e = t) (hg:w.grownBy w' v.ownBlock):Box w' g cs t:=by
 have hlt:=h.lt
 refine (hg.block g hlt (fun e2 => ?_)).trans h
 rcases ho.1.2 with ⟨hv,_⟩ | ⟨k,cap,cur,hv,_,hh,_⟩
 ·rw [hv] at e2; cases e2
 ·rw [hv] at e2
  simp only [Value.ownBlock,Option.some.injEq] at e2
  subst e2
  unfold Box at h
  rw [h] at hh
  simp only [Option.some.injEq,Obj.cells.injEq] at hh
  exact hne hh.2.1.symm
def mpre (l:List FA) (n:Nat):List Int:=msgB ((l.take n).map FA.f)
theorem msg_take {l:List FA} (n:Nat):(mpre l n).length ≤ (msgB (l.map FA.f)).length:=by
 have e:l.map FA.f = (l.take n).map FA.f ++ (l.drop n).map FA.f:=by rw [← List.map_append,List.take_append_drop]
 rw [e]
 unfold mpre msgB
 rw [List.flatMap_append,List.length_append]
 omega
theorem msg_step {l:List FA} {n:Nat} (h:n < l.length):mpre l (n + 1) = mpre l n ++ fieldB (l.getD n noFA).f:=by
 unfold mpre
 rw [take_addF l n h]
 simp [msgB]
theorem msg_all {l:List FA} {n:Nat} (h:l.length ≤ n):mpre l n = msgB (l.map FA.f):=by unfold mpre; rw [List.take_of_length_le h]
theorem sumD_mem {l:List FA} {a:FA} (h:a ∈ l):a.d.length ≤ sumD l:=by
 obtain ⟨x,y,rfl⟩:=List.append_of_mem h
 rw [sumD_append]
 simp [sumD]
 omega
theorem fieldB_isB {f:Fld} (hm:mayF f) (ho:okF f) (hl:f.2.2.2.length < 18446744073709551616):isB (fieldB f):=by
 obtain ⟨num,wire,x,d⟩:=f
 obtain ⟨m1,m2,m3⟩:=hm
 obtain ⟨o1,o2,o3⟩:=ho
 simp only at m1 m2 m3 o1 o2 o3 hl
 unfold fieldB bodyB
 refine isB_append (varV_range (by simp only; omega) (by simp only; omega)) ?_
 simp only
 split
 ·exact varV_range o1 o2
 ·split
  ·exact fxL_isB _ _
  ·split
   ·exact fxL_isB _ _
   ·exact isB_append (varV_range (by omega) (by omega)) o3
end Go.Proofs.YtmdlaahdgjegcaaGreat
