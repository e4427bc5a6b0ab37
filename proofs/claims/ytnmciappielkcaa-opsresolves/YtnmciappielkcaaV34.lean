import Derived.Test.YtnmciappielkcaaV33
set_option maxRecDepth 100000
set_option maxHeartbeats 8000000
namespace Go.Proofs.Ytnmciappielkcaa
open Go.RowKit
set_option linter.unusedVariables false
set_option linter.unusedSimpArgs false
abbrev atI (ats:List AtD) (a:AttrD):Int:=idxI (fun d:AtD => decide (d.1 = a.1)) ats
theorem getD_set8 (l:List Bool) (i j:Nat) (h:i < l.length):(l.set i true).getD j false = if i = j then true else l.getD j false:=by
 simp only [List.getD_eq_getElem?_getD,List.getElem?_set]
 by_cases e:i = j
 ·subst e; simp [h]
 ·simp [e]
theorem fold_seen (ats:List AtD):∀ (l:List AttrD) (D0 D:SeD) (s0 sn:List Bool),s0.length = ats.length → l.foldl (stepS ats) (some (D0,s0)) = some (D,sn) →
  sn.length = ats.length ∧ (∀ a ∈ l,0 ≤ atI ats a ∧ s0.getD (atI ats a).toNat false = false) ∧ (l.map fun a => a.1).Nodup
 | [],D0,D,s0,sn,hl,h => by
   simp only [List.foldl_nil,Option.some.injEq,Prod.mk.injEq] at h
   exact ⟨by rw [← h.2]; exact hl,fun a ha => (by cases ha),by simp⟩
 | a :: r,D0,D,s0,sn,hl,h => by
   simp only [List.foldl_cons,stepS] at h
   by_cases h1:atI ats a < 0
   ·rw [if_pos h1,fold_none] at h; cases h
   rw [if_neg h1] at h
   by_cases h2:s0.getD (atI ats a).toNat false = true
   ·rw [if_pos h2,fold_none] at h; cases h
   rw [if_neg h2] at h
   split at h
   ·rw [fold_none] at h; cases h
   obtain ⟨n,e1,hn,_,_⟩:=idxI_lt _ noAtD ats (Int.not_lt.1 h1)
   have hlt:(atI ats a).toNat < s0.length:=by unfold atI; rw [e1,hl]; simpa using hn
   obtain ⟨i1,i2,i3⟩:=fold_seen ats r _ _ _ _ (by rw [List.length_set]; exact hl) h
   refine ⟨i1,fun x hx => ?_,?_⟩
   ·rcases List.mem_cons.1 hx with e | e
    ·subst e; exact ⟨Int.not_lt.1 h1,by simpa using h2⟩
    ·obtain ⟨j1,j2⟩:=i2 x e
     rw [getD_set8 _ _ _ hlt] at j2
     split at j2
     ·cases j2
     ·exact ⟨j1,j2⟩
   ·rw [List.map_cons,List.nodup_cons]
    refine ⟨fun hm => ?_,i3⟩
    obtain ⟨x,hx,e⟩:=List.mem_map.1 hm
    obtain ⟨j1,j2⟩:=i2 x hx
    rw [getD_set8 _ _ _ hlt] at j2
    have:(atI ats a).toNat = (atI ats x).toNat:=by unfold atI; rw [e]
    rw [if_pos this] at j2
    cases j2
theorem tab_nodup:∀ x ∈ tabT,(x.2.2.2.2.2.map fun a => a.1).Nodup:=by
 have h:tabT.all (fun x => decide ((x.2.2.2.2.2.map fun a => a.1).Nodup)) = true:=by kernel_rfl
 intro x hx
 simpa using List.all_eq_true.1 h x hx
theorem rowT_nodup (op:Int):((rowT op).2.2.2.2.2.map fun a => a.1).Nodup:=by
 rcases rowT_mem op with h | h
 ·rw [h]; simp [noRowD]
 ·exact tab_nodup _ h
def cntS (l:List Str) (s:Str):Nat:=(l.filter fun x => decide (x = s)).length
theorem cnt_nodup:∀ (l:List Str) (s:Str),l.Nodup → s ∈ l → cntS l s = 1
 | [],s,_,h => by cases h
 | x :: r,s,hn,h => by
   rw [List.nodup_cons] at hn
   unfold cntS
   by_cases e:x = s
   ·subst e
    have:r.filter (fun y => decide (y = x)) = []:=List.filter_eq_nil_iff.2 fun y hy => by
     simp only [decide_eq_true_eq]; intro e; subst e; exact hn.1 hy
    simp [List.filter_cons,this]
   ·have h':s ∈ r:=(List.mem_cons.1 h).elim (fun e2 => absurd e2.symm e) id
    have:=cnt_nodup r s hn.2 h'
    unfold cntS at this
    simp [List.filter_cons,e,this]
theorem set_names {ats:List AtD} {l:List AttrD} {D:SeD} (hn:(ats.map fun a => a.1).Nodup) (h:settingV ats l = some D) :
  (∀ a ∈ l,cntS (ats.map fun a => a.1) a.1 = 1) ∧ (l.map fun a => a.1).Nodup:=by
 unfold settingV at h
 cases hf:foldS ats l with
 | none => rw [hf] at h; cases h
 | some p =>
   obtain ⟨D1,sn⟩:=p
   obtain ⟨_,h2,h3⟩:=fold_seen ats l _ _ _ _ (by simp) hf
   refine ⟨fun a ha => cnt_nodup _ _ hn ?_,h3⟩
   obtain ⟨n,_,hlt,p1,_⟩:=idxI_lt _ noAtD ats (h2 a ha).1
   simp only [decide_eq_true_eq] at p1
   rw [← p1,List.mem_map]
   exact ⟨_,by rw [List.getD_eq_getElem?_getD,List.getElem?_eq_getElem hlt]; exact List.getElem_mem _,rfl⟩
def fldS (a:AtD):List Nat :=
 if 12 ≤ a.2.1 ∧ a.2.1 ≤ 15 then [31] else if 16 ≤ a.2.1 then (wlL a.1 []).map Prod.fst else (wrL a.1 0).map Prod.fst
def ruleT (ats:List AtD) (a:AttrD):Option (List (Nat × FV)) :=
 takeV (ats.getD (atI ats a).toNat noAtD).2.1 (ats.getD (atI ats a).toNat noAtD).1 a.2.1 a.2.2.1 a.2.2.2.1 a.2.2.2.2.1 a.2.2.2.2.2.1 a.2.2.2.2.2.2.1 a.2.2.2.2.2.2.2
theorem wr_fld (nm:Str) (n:Int):(wrL nm n).map Prod.fst = (wrL nm 0).map Prod.fst:=by
 unfold wrL
 by_cases e0:nm = [97,108,112,104,97]
 ·rw [if_pos e0,if_pos e0]; rfl
 rw [if_neg e0,if_neg e0]
 by_cases e1:nm = [98,101,116,97]
 ·rw [if_pos e1,if_pos e1]; rfl
 rw [if_neg e1,if_neg e1]
 by_cases e2:nm = [101,112,115,105,108,111,110]
 ·rw [if_pos e2,if_pos e2]; rfl
 rw [if_neg e2,if_neg e2]
 by_cases e3:nm = [118,97,108,117,101,95,102,108,111,97,116]
 ·rw [if_pos e3,if_pos e3]; rfl
 rw [if_neg e3,if_neg e3]
 by_cases e4:nm = [118,97,108,117,101,95,105,110,116]
 ·rw [if_pos e4,if_pos e4]; rfl
 rw [if_neg e4,if_neg e4]
 by_cases e5:nm = [97,120,105,115]
 ·rw [if_pos e5,if_pos e5]; rfl
 rw [if_neg e5,if_neg e5]
 by_cases e6:nm = [116,111]
 ·rw [if_pos e6,if_pos e6]; rfl
 rw [if_neg e6,if_neg e6]
 by_cases e7:nm = [98,108,111,99,107,115,105,122,101]
 ·rw [if_pos e7,if_pos e7]; rfl
 rw [if_neg e7,if_neg e7]
 by_cases e8:nm = [103,114,111,117,112]
 ·rw [if_pos e8,if_pos e8]; rfl
 rw [if_neg e8,if_neg e8]
 by_cases e9:nm = [115,116,97,114,116]
 ·rw [if_pos e9,if_pos e9]; rfl
 rw [if_neg e9,if_neg e9]
 by_cases e10:nm = [101,110,100]
 ·rw [if_pos e10,if_pos e10]; rfl
 rw [if_neg e10,if_neg e10]
 by_cases e11:nm = [109,111,100,101]
 ·rw [if_pos e11,if_pos e11]; rfl
 rw [if_neg e11,if_neg e11]
 by_cases e12:nm = [114,101,100,117,99,116,105,111,110]
 ·rw [if_pos e12,if_pos e12]; rfl
 rw [if_neg e12,if_neg e12]
 by_cases e13:nm = [97,117,116,111,95,112,97,100]
 ·rw [if_pos e13,if_pos e13]; rfl
 rw [if_neg e13,if_neg e13]
 cases flagK nm <;> rfl
theorem wl_fld (nm:Str) (xs:List Int):(wlL nm xs).map Prod.fst = (wlL nm []).map Prod.fst:=by
 unfold wlL
 by_cases e0:nm = [112,101,114,109]
 ·rw [if_pos e0,if_pos e0]; rfl
 rw [if_neg e0,if_neg e0]
 by_cases e1:nm = [97,120,101,115]
 ·rw [if_pos e1,if_pos e1]; rfl
 rw [if_neg e1,if_neg e1]
 by_cases e2:nm = [100,105,108,97,116,105,111,110,115]
 ·rw [if_pos e2,if_pos e2]; rfl
 rw [if_neg e2,if_neg e2]
 by_cases e3:nm = [107,101,114,110,101,108,95,115,104,97,112,101]
 ·rw [if_pos e3,if_pos e3]; rfl
 rw [if_neg e3,if_neg e3]
 by_cases e4:nm = [112,97,100,115]
 ·rw [if_pos e4,if_pos e4]; rfl
 rw [if_neg e4,if_neg e4]
 by_cases e5:nm = [115,116,114,105,100,101,115]
 ·rw [if_pos e5,if_pos e5]; rfl
 rw [if_neg e5,if_neg e5]
theorem take_fld {so:Int} {nm:Str} {kd f i:Int} {s:Str} {T:Ten} {fl is:List Int} {l:List (Nat × FV)} (st ne:Int) (h0:0 ≤ so) (h:takeV so nm kd f i s T fl is = some l):l.map Prod.fst = fldS (nm,so,st,ne):=by
 unfold takeV at h
 unfold fldS
 simp only
 split at h
 ·split at h
  ·rename_i e
   simp only [Option.some.injEq] at h
   rw [← h,if_neg (by omega),if_neg (by omega)]; exact wr_fld _ _
  split at h
  ·split at h
   ·rename_i e _
    simp only [Option.some.injEq] at h
    rw [← h,if_neg (by omega),if_neg (by omega)]; exact wr_fld _ _
   ·cases h
  split at h
  ·rename_i e
   simp only [Option.some.injEq] at h
   rw [← h,if_neg (by omega),if_neg (by omega)]; exact wr_fld _ _
  split at h
  ·split at h
   ·rename_i e _
    simp only [Option.some.injEq] at h
    rw [← h,if_neg (by omega),if_neg (by omega)]; exact wr_fld _ _
   ·cases h
  split at h
  ·split at h
   ·rename_i e _
    simp only [Option.some.injEq] at h
    rw [← h,if_pos (by omega)]; rfl
   ·cases h
  split at h
  ·simp only [Option.some.injEq] at h
   rw [← h,if_pos (by omega)]; rfl
  split at h
  ·simp only [Option.some.injEq] at h
   rw [← h,if_pos (by omega)]; rfl
  split at h
  ·simp only [Option.some.injEq] at h
   rw [← h,if_pos (by omega)]; rfl
  ·simp only [Option.some.injEq] at h
   rw [← h,if_neg (by omega),if_pos (by omega)]; exact wl_fld _ _
 ·cases h
theorem updL_out:∀ (l:List (Nat × FV)) (D:SeD) (k:Nat),¬ k ∈ l.map Prod.fst → updL D l k = D k
 | [],D,k,_ => rfl
 | x :: r,D,k,h => by
   simp only [List.map_cons,List.mem_cons,not_or] at h
   show updL (updD D x.1 x.2) r k = D k
   rw [updL_out r _ k h.2]
   unfold updD
   rw [if_neg h.1]
theorem updL_in:∀ (l:List (Nat × FV)) (D E:SeD) (k:Nat),k ∈ l.map Prod.fst → updL D l k = updL E l k
 | [],D,E,k,h => by cases h
 | x :: r,D,E,k,h => by
   show updL (updD D x.1 x.2) r k = updL (updD E x.1 x.2) r k
   by_cases hr:k ∈ r.map Prod.fst
   ·exact updL_in r _ _ k hr
   ·have e:k = x.1:=(List.mem_cons.1 h).elim id (fun h => absurd h hr)
    rw [updL_out r _ k hr,updL_out r _ k hr]
    unfold updD
    rw [if_pos e,if_pos e]
theorem updL_comm (D:SeD) (l m:List (Nat × FV)) (h:∀ k ∈ l.map Prod.fst,¬ k ∈ m.map Prod.fst):updL (updL D l) m = updL (updL D m) l:=by
 funext k
 by_cases h1:k ∈ l.map Prod.fst
 ·rw [updL_out m _ k (h k h1)]; exact updL_in l _ _ k h1
 ·rw [updL_out l _ k h1]
  by_cases h2:k ∈ m.map Prod.fst
  ·exact updL_in m _ _ k h2
  ·rw [updL_out m _ k h2,updL_out m _ k h2,updL_out l _ k h1]
def apartB:List AtD → Bool
 | [] => true
 | a :: r => r.all (fun b => (fldS a).all fun k => !((fldS b).contains k)) && apartB r
theorem apart_at:∀ (l:List AtD) (n m:Nat),apartB l = true → n < m → m < l.length → ∀ k ∈ fldS (l.getD n noAtD),¬ k ∈ fldS (l.getD m noAtD)
 | [],n,m,_,_,h => by simp at h
 | a :: r,n,0,_,h,_ => by omega
 | a :: r,0,m + 1,h,_,hl => by
   simp only [apartB,Bool.and_eq_true,List.all_eq_true] at h
   have hm:m < r.length:=by simpa using hl
   have e:r.getD m noAtD ∈ r:=by rw [List.getD_eq_getElem?_getD,List.getElem?_eq_getElem hm]; exact List.getElem_mem _
   intro k hk hk2
   simp only [List.getD_cons_zero] at hk
   simp only [List.getD_cons_succ] at hk2
   have:=h.1 _ e k hk
   rw [List.contains_iff_mem.2 hk2] at this
   cases this
 | a :: r,n + 1,m + 1,h,hlt,hl => by
   simp only [apartB,Bool.and_eq_true] at h
   simp only [List.getD_cons_succ]
   exact apart_at r n m h.2 (by omega) (by simpa using hl)
def SoOk (ats:List AtD):Prop:=∀ a ∈ ats,0 ≤ a.2.1
theorem getD_mem8 {ats:List AtD} {n:Nat} (h:n < ats.length):ats.getD n noAtD ∈ ats:=by
 rw [List.getD_eq_getElem?_getD,List.getElem?_eq_getElem h]; exact List.getElem_mem _
theorem atI_in {ats:List AtD} {a:AttrD} (h:¬ atI ats a < 0):(atI ats a).toNat < ats.length:=by
 obtain ⟨n,e1,hn,_,_⟩:=idxI_lt _ noAtD ats (Int.not_lt.1 h)
 unfold atI
 rw [e1]
 simpa using hn
theorem rule_fld {ats:List AtD} {a:AttrD} {l:List (Nat × FV)} (hs:SoOk ats) (h:¬ atI ats a < 0) (hr:ruleT ats a = some l):l.map Prod.fst = fldS (ats.getD (atI ats a).toNat noAtD) :=
 take_fld _ _ (hs _ (getD_mem8 (atI_in h))) hr
theorem step_eq (ats:List AtD) (D:SeD) (sn:List Bool) (a:AttrD):stepS ats (some (D,sn)) a = if atI ats a < 0 then none else if sn.getD (atI ats a).toNat false = true then none else match ruleT ats a with
  | none => none
  | some l => some (updL D l,sn.set (atI ats a).toNat true):=rfl
def BadS (ats:List AtD) (sn:List Bool) (a:AttrD):Prop:=atI ats a < 0 ∨ sn.getD (atI ats a).toNat false = true ∨ ruleT ats a = none
theorem step_bad {ats:List AtD} {D:SeD} {sn:List Bool} {a:AttrD} (h:BadS ats sn a):stepS ats (some (D,sn)) a = none:=by
 rw [step_eq]
 rcases h with h | h | h
 ·rw [if_pos h]
 ·rw [if_pos h,ite_self]
 ·rw [h]; simp only [ite_self]
theorem step_good {ats:List AtD} {D:SeD} {sn:List Bool} {a:AttrD} {l:List (Nat × FV)} (h1:¬ atI ats a < 0) (h2:¬ sn.getD (atI ats a).toNat false = true) (h3:ruleT ats a = some l):stepS ats (some (D,sn)) a = some (updL D l,sn.set (atI ats a).toNat true):=by
 rw [step_eq,if_neg h1,if_neg h2,h3]
theorem not_bad {ats:List AtD} {sn:List Bool} {a:AttrD} (h:¬ BadS ats sn a):¬ atI ats a < 0 ∧ ¬ sn.getD (atI ats a).toNat false = true ∧ ∃ l,ruleT ats a = some l:=by
 unfold BadS at h
 simp only [not_or] at h
 refine ⟨h.1,h.2.1,?_⟩
 cases e:ruleT ats a with
 | none => exact absurd e h.2.2
 | some l => exact ⟨l,rfl⟩
theorem bad_set {ats:List AtD} {sn:List Bool} {a:AttrD} {i:Nat} (hi:i < sn.length) (h:BadS ats sn a):BadS ats (sn.set i true) a:=by
 rcases h with h | h | h
 ·exact .inl h
 ·refine .inr (.inl ?_)
  rw [getD_set8 _ _ _ hi]
  split
  ·rfl
  ·exact h
 ·exact .inr (.inr h)
theorem step_comm {ats:List AtD} (hs:SoOk ats) (hp:apartB ats = true) (D:SeD) (sn:List Bool) (hl:sn.length = ats.length) (a b:AttrD):stepS ats (stepS ats (some (D,sn)) a) b = stepS ats (stepS ats (some (D,sn)) b) a:=by
 by_cases ha:BadS ats sn a
 ·rw [step_bad ha]
  by_cases hb:BadS ats sn b
  ·rw [step_bad hb]; rfl
  ·obtain ⟨b1,b2,lb,b3⟩:=not_bad hb
   rw [step_good b1 b2 b3,step_bad (bad_set (by rw [hl]; exact atI_in b1) ha)]
   rfl
 ·obtain ⟨a1,a2,la,a3⟩:=not_bad ha
  rw [step_good a1 a2 a3]
  by_cases hb:BadS ats sn b
  ·rw [step_bad hb,step_bad (bad_set (by rw [hl]; exact atI_in a1) hb)]
   rfl
  ·obtain ⟨b1,b2,lb,b3⟩:=not_bad hb
   rw [step_good b1 b2 b3]
   have ia:(atI ats a).toNat < sn.length:=by rw [hl]; exact atI_in a1
   have ib:(atI ats b).toNat < sn.length:=by rw [hl]; exact atI_in b1
   by_cases e:(atI ats a).toNat = (atI ats b).toNat
   ·rw [step_bad (.inr (.inl (by rw [getD_set8 _ _ _ ia,if_pos e]))),step_bad (.inr (.inl (by rw [getD_set8 _ _ _ ib,if_pos e.symm])))]
   ·rw [step_good b1 (by rw [getD_set8 _ _ _ ia,if_neg e]; exact b2) b3,step_good a1 (by rw [getD_set8 _ _ _ ib,if_neg (fun h => e h.symm)]; exact a2) a3]
    have hd:∀ k ∈ la.map Prod.fst,¬ k ∈ lb.map Prod.fst:=by
     rw [rule_fld hs a1 a3,rule_fld hs b1 b3]
     rcases Nat.lt_or_gt_of_ne e with h | h
     ·exact apart_at ats _ _ hp h (atI_in b1)
     ·intro k h1 h2
      exact apart_at ats _ _ hp h (atI_in a1) k h2 h1
    rw [updL_comm D la lb hd,List.set_comm _ _ e]
def StO (ats:List AtD) (st:Option (SeD × List Bool)):Prop:=∀ p,st = some p → p.2.length = ats.length
theorem StO.step {ats:List AtD} {st:Option (SeD × List Bool)} (h:StO ats st) (a:AttrD):StO ats (stepS ats st a):=by
 cases st with
 | none => intro p e; cases e
 | some q =>
   obtain ⟨D,sn⟩:=q
   intro p e
   rw [step_eq] at e
   split at e
   ·cases e
   split at e
   ·cases e
   split at e
   ·cases e
   ·simp only [Option.some.injEq] at e
    rw [← e]
    simp only [List.length_set]
    exact h _ rfl
theorem fold_perm {ats:List AtD} (hs:SoOk ats) (hp:apartB ats = true) {l m:List AttrD} (h:l.Perm m):∀ st,StO ats st → l.foldl (stepS ats) st = m.foldl (stepS ats) st:=by
 induction h with
 | nil => intro st _; rfl
 | cons x _ ih => intro st hst; exact ih _ (hst.step x)
 | swap x y r =>
   intro st hst
   simp only [List.foldl_cons]
   cases st with
   | none => rfl
   | some q => rw [step_comm hs hp q.1 q.2 (hst _ rfl) y x]
 | trans _ _ ih1 ih2 => intro st hst; exact (ih1 st hst).trans (ih2 st hst)
theorem st0_ok (ats:List AtD):StO ats (some (standD ats,List.replicate ats.length false)):=fun p e => by
 simp only [Option.some.injEq] at e
 rw [← e]; simp
theorem set_perm {ats:List AtD} (hs:SoOk ats) (hp:apartB ats = true) {l m:List AttrD} (h:l.Perm m):settingV ats l = settingV ats m:=by
 have e1:foldS ats l = foldS ats m:=fold_perm hs hp h _ (st0_ok ats)
 have e2:(l.any fun a => decide (a.1 = [112,97,100,115])) = (m.any fun a => decide (a.1 = [112,97,100,115])):=h.any_eq
 unfold settingV
 rw [e1,e2]
theorem rows_apart:∀ op:Int,op ≠ 61 → apartB (rowT op).2.2.2.2.2 = true:=by
 have h:(List.range 80).all (fun k => decide (k = 60) || apartB (tabT.getD k noRowD).2.2.2.2.2) = true:=by kernel_rfl
 intro op h61
 unfold rowT
 split
 ·rename_i ho
  have:=List.all_eq_true.1 h (op - 1).toNat (List.mem_range.2 (by omega))
  simp only [Bool.or_eq_true,decide_eq_true_eq] at this
  rcases this with e | e
  ·omega
  ·exact e
 ·rfl
theorem rows_so (op:Int):SoOk (rowT op).2.2.2.2.2:=fun a ha => by
 obtain ⟨_,_,so,_,e⟩:=(rowT_ok op).2 a ha
 omega
theorem hold_kd {b:Int × Int × Int × Int} {kd i:Int} {nf:Nat} {is:List Int} (h:holdB b kd i nf is = true):kd = b.1:=by
 unfold holdB at h
 split at h
 ·assumption
 ·cases h
theorem atI_of {ats:List AtD} {a:AttrD} (h:¬ atI ats a < 0):(ats.getD (atI ats a).toNat noAtD).1 = a.1:=by
 obtain ⟨n,e1,hn,p1,_⟩:=idxI_lt _ noAtD ats (Int.not_lt.1 h)
 have e2:(atI ats a).toNat = n:=by unfold atI; rw [e1]; simp
 rw [e2]
 simpa using p1
theorem set_parts {ats:List AtD} {l:List AttrD} {D:SeD} (h:settingV ats l = some D):∃ sn,foldS ats l = some (D,sn) ∧ (List.range ats.length).any (needB ats sn) = false ∧ ((D 24).x = 0 ∨ (l.any fun a => decide (a.1 = [112,97,100,115])) = false):=by
 unfold settingV at h
 cases hf:foldS ats l with
 | none => rw [hf] at h; cases h
 | some p =>
   obtain ⟨D1,sn⟩:=p
   rw [hf] at h
   simp only at h
   split at h
   ·cases h
   ·rename_i h1
    split at h
    ·rename_i h2
     simp only [Option.some.injEq] at h
     subst h
     exact ⟨sn,rfl,by simpa using h1,h2⟩
    ·cases h
end Go.Proofs.Ytnmciappielkcaa
