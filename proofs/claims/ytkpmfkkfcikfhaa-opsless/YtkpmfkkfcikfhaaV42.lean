import Derived.Test.YtkpmfkkfcikfhaaV41
set_option maxRecDepth 100000
set_option maxHeartbeats 8000000
namespace Go.Proofs.Ytkpmfkkfcikfhaa
open Go.RowKit
set_option linter.unusedVariables false
set_option linter.unusedSimpArgs false
abbrev atI (ats:List AtD) (a:AttrD):Int:=idxI (fun d:AtD => decide (d.1 = a.1)) ats
theorem getD_set8 (l:List Bool) (i j:Nat) (h:i < l.length):(l.set i true).getD j false = if i = j then true else l.getD j false:=by
 simp only [List.getD_eq_getElem?_getD,List.getElem?_set]
 by_cases e:i = j
 ·subst e; simp [h]
 ·simp [e]
theorem fold_seen (ats:List AtD):∀ (l:List AttrD) (D0 D:SeD) (s0 sn:List Bool),s0.length = ats.length → l.foldl (stepS ats) (some (D0,s0)) = some (D,sn) →
  sn.length = ats.length ∧ (∀ a ∈ l,0 ≤ atI ats a ∧ s0.getD (atI ats a).toNat false = false) ∧ (l.map fun a => a.1).Nodup
 | [],D0,D,s0,sn,hl,h => by
   simp only [List.foldl_nil,Option.some.injEq,Prod.mk.injEq] at h
   exact ⟨by rw [← h.2]; exact hl,fun a ha => (by cases ha),by simp⟩
 | a :: r,D0,D,s0,sn,hl,h => by
   simp only [List.foldl_cons,stepS] at h
   by_cases h1:atI ats a < 0
   ·rw [if_pos h1,fold_none] at h; cases h
   rw [if_neg h1] at h
   by_cases h2:s0.getD (atI ats a).toNat false = true
   ·rw [if_pos h2,fold_none] at h; cases h
   rw [if_neg h2] at h
   split at h
   ·rw [fold_none] at h; cases h
   obtain ⟨n,e1,hn,_,_⟩:=idxI_lt _ noAtD ats (Int.not_lt.1 h1)
   have hlt:(atI ats a).toNat < s0.length:=by unfold atI; rw [e1,hl]; simpa using hn
   obtain ⟨i1,i2,i3⟩:=fold_seen ats r _ _ _ _ (by rw [List.length_set]; exact hl) h
   refine ⟨i1,fun x hx => ?_,?_⟩
   ·rcases List.mem_cons.1 hx with e | e
    ·subst e; exact ⟨Int.not_lt.1 h1,by simpa using h2⟩
    ·obtain ⟨j1,j2⟩:=i2 x e
     rw [getD_set8 _ _ _ hlt] at j2
     split at j2
     ·cases j2
     ·exact ⟨j1,j2⟩
   ·rw [List.map_cons,List.nodup_cons]
    refine ⟨fun hm => ?_,i3⟩
    obtain ⟨x,hx,e⟩:=List.mem_map.1 hm
    obtain ⟨j1,j2⟩:=i2 x hx
    rw [getD_set8 _ _ _ hlt] at j2
    have:(atI ats a).toNat = (atI ats x).toNat:=by unfold atI; rw [e]
    rw [if_pos this] at j2
    cases j2
theorem tab_nodup:∀ x ∈ tabT,(x.2.2.2.2.2.map fun a => a.1).Nodup:=by
 have h:tabT.all (fun x => decide ((x.2.2.2.2.2.map fun a => a.1).Nodup)) = true:=by kernel_rfl
 intro x hx
 simpa using List.all_eq_true.1 h x hx
theorem rowT_nodup (op:Int):((rowT op).2.2.2.2.2.map fun a => a.1).Nodup:=by
 rcases rowT_mem op with h | h
 ·rw [h]; simp [noRowD]
 ·exact tab_nodup _ h
def cntS (l:List Str) (s:Str):Nat:=(l.filter fun x => decide (x = s)).length
theorem cnt_nodup:∀ (l:List Str) (s:Str),l.Nodup → s ∈ l → cntS l s = 1
 | [],s,_,h => by cases h
 | x :: r,s,hn,h => by
   rw [List.nodup_cons] at hn
   unfold cntS
   by_cases e:x = s
   ·subst e
    have:r.filter (fun y => decide (y = x)) = []:=List.filter_eq_nil_iff.2 fun y hy => by
     simp only [decide_eq_true_eq]; intro e; subst e; exact hn.1 hy
    simp [List.filter_cons,this]
   ·have h':s ∈ r:=(List.mem_cons.1 h).elim (fun e2 => absurd e2.symm e) id
    have:=cnt_nodup r s hn.2 h'
    unfold cntS at this
    simp [List.filter_cons,e,this]
theorem set_names {ats:List AtD} {l:List AttrD} {D:SeD} (hn:(ats.map fun a => a.1).Nodup) (h:settingV ats l = some D) :
  (∀ a ∈ l,cntS (ats.map fun a => a.1) a.1 = 1) ∧ (l.map fun a => a.1).Nodup:=by
 unfold settingV at h
 cases hf:foldS ats l with
 | none => rw [hf] at h; cases h
 | some p =>
   obtain ⟨D1,sn⟩:=p
   obtain ⟨_,h2,h3⟩:=fold_seen ats l _ _ _ _ (by simp) hf
   refine ⟨fun a ha => cnt_nodup _ _ hn ?_,h3⟩
   obtain ⟨n,_,hlt,p1,_⟩:=idxI_lt _ noAtD ats (h2 a ha).1
   simp only [decide_eq_true_eq] at p1
   rw [← p1,List.mem_map]
   exact ⟨_,by rw [List.getD_eq_getElem?_getD,List.getElem?_eq_getElem hlt]; exact List.getElem_mem _,rfl⟩
theorem res_more (op nm:Str) (ins outs:List Str) (l m:List AttrD) :
  ((resV (op,nm,ins,outs,l)).2.2 = 7 ∧ (resV (op,nm,ins,outs,m)).2.2 = 7) ∨ ((resV (op,nm,ins,outs,l)).2.2 = 1 ∧ (resV (op,nm,ins,outs,m)).2.2 = 1) ∨
  (((resV (op,nm,ins,outs,l)).2.2 = 14 ∨ ((resV (op,nm,ins,outs,l)).2.2 = 0 ∧ (resV (op,nm,ins,outs,l)).1 = numT op ∧ ∃ D,settingV (rowT (numT op)).2.2.2.2.2 l = some D)) ∧ ((resV (op,nm,ins,outs,m)).2.2 = 14 ∨ (resV (op,nm,ins,outs,m)).2.2 = 0)):=by
 unfold resV
 simp only
 by_cases h0:numT op = 0
 ·simp [h0]
 by_cases h1:takesB (rowT (numT op)).2.1 (rowT (numT op)).2.2.1 (rowT (numT op)).2.2.2.1 (rowT (numT op)).2.2.2.2.1 ins outs = false
 ·simp [h0,h1]
 simp only [if_neg h0,if_neg h1]
 refine .inr (.inr ⟨?_,?_⟩)
 ·cases hs:settingV (rowT (numT op)).2.2.2.2.2 l with
  | none => exact .inl rfl
  | some D =>
    simp only
    split
    ·exact .inl rfl
    ·exact .inr ⟨rfl,rfl,D,rfl⟩
 ·cases hs:settingV (rowT (numT op)).2.2.2.2.2 m with
  | none => exact .inl rfl
  | some D =>
    simp only
    split
    ·exact .inl rfl
    ·exact .inr rfl
end Go.Proofs.Ytkpmfkkfcikfhaa
