import Derived.Test.YtkpmfkkfcikfhaaV41
set_option maxRecDepth 100000
set_option maxHeartbeats 8000000
namespace Go.Proofs.Ytkpmfkkfcikfhaa
open Go.RowKit
set_option linter.unusedVariables false
set_option linter.unusedSimpArgs false
def fldS (a:AtD):List Nat :=
 if 12 ≤ a.2.1 ∧ a.2.1 ≤ 15 then [31] else if 16 ≤ a.2.1 then (wlL a.1 []).map Prod.fst else (wrL a.1 0).map Prod.fst
def ruleT (ats:List AtD) (a:AttrD):Option (List (Nat × FV)) :=
 takeV (ats.getD (atI ats a).toNat noAtD).2.1 (ats.getD (atI ats a).toNat noAtD).1 a.2.1 a.2.2.1 a.2.2.2.1 a.2.2.2.2.1 a.2.2.2.2.2.1 a.2.2.2.2.2.2.1 a.2.2.2.2.2.2.2
theorem wr_fld (nm:Str) (n:Int):(wrL nm n).map Prod.fst = (wrL nm 0).map Prod.fst:=by
 unfold wrL
 by_cases e0:nm = [97,108,112,104,97]
 ·rw [if_pos e0,if_pos e0]; rfl
 rw [if_neg e0,if_neg e0]
 by_cases e1:nm = [98,101,116,97]
 ·rw [if_pos e1,if_pos e1]; rfl
 rw [if_neg e1,if_neg e1]
 by_cases e2:nm = [101,112,115,105,108,111,110]
 ·rw [if_pos e2,if_pos e2]; rfl
 rw [if_neg e2,if_neg e2]
 by_cases e3:nm = [118,97,108,117,101,95,102,108,111,97,116]
 ·rw [if_pos e3,if_pos e3]; rfl
 rw [if_neg e3,if_neg e3]
 by_cases e4:nm = [118,97,108,117,101,95,105,110,116]
 ·rw [if_pos e4,if_pos e4]; rfl
 rw [if_neg e4,if_neg e4]
 by_cases e5:nm = [97,120,105,115]
 ·rw [if_pos e5,if_pos e5]; rfl
 rw [if_neg e5,if_neg e5]
 by_cases e6:nm = [116,111]
 ·rw [if_pos e6,if_pos e6]; rfl
 rw [if_neg e6,if_neg e6]
 by_cases e7:nm = [98,108,111,99,107,115,105,122,101]
 ·rw [if_pos e7,if_pos e7]; rfl
 rw [if_neg e7,if_neg e7]
 by_cases e8:nm = [103,114,111,117,112]
 ·rw [if_pos e8,if_pos e8]; rfl
 rw [if_neg e8,if_neg e8]
 by_cases e9:nm = [115,116,97,114,116]
 ·rw [if_pos e9,if_pos e9]; rfl
 rw [if_neg e9,if_neg e9]
 by_cases e10:nm = [101,110,100]
 ·rw [if_pos e10,if_pos e10]; rfl
 rw [if_neg e10,if_neg e10]
 by_cases e11:nm = [109,111,100,101]
 ·rw [if_pos e11,if_pos e11]; rfl
 rw [if_neg e11,if_neg e11]
 by_cases e12:nm = [114,101,100,117,99,116,105,111,110]
 ·rw [if_pos e12,if_pos e12]; rfl
 rw [if_neg e12,if_neg e12]
 by_cases e13:nm = [97,117,116,111,95,112,97,100]
 ·rw [if_pos e13,if_pos e13]; rfl
 rw [if_neg e13,if_neg e13]
 cases flagK nm <;> rfl
theorem wl_fld (nm:Str) (xs:List Int):(wlL nm xs).map Prod.fst = (wlL nm []).map Prod.fst:=by
 unfold wlL
 by_cases e0:nm = [112,101,114,109]
 ·rw [if_pos e0,if_pos e0]; rfl
 rw [if_neg e0,if_neg e0]
 by_cases e1:nm = [97,120,101,115]
 ·rw [if_pos e1,if_pos e1]; rfl
 rw [if_neg e1,if_neg e1]
 by_cases e2:nm = [100,105,108,97,116,105,111,110,115]
 ·rw [if_pos e2,if_pos e2]; rfl
 rw [if_neg e2,if_neg e2]
 by_cases e3:nm = [107,101,114,110,101,108,95,115,104,97,112,101]
 ·rw [if_pos e3,if_pos e3]; rfl
 rw [if_neg e3,if_neg e3]
 by_cases e4:nm = [112,97,100,115]
 ·rw [if_pos e4,if_pos e4]; rfl
 rw [if_neg e4,if_neg e4]
 by_cases e5:nm = [115,116,114,105,100,101,115]
 ·rw [if_pos e5,if_pos e5]; rfl
 rw [if_neg e5,if_neg e5]
theorem take_fld {so:Int} {nm:Str} {kd f i:Int} {s:Str} {T:Ten} {fl is:List Int} {l:List (Nat × FV)} (st ne:Int) (h0:0 ≤ so) (h:takeV so nm kd f i s T fl is = some l):l.map Prod.fst = fldS (nm,so,st,ne):=by
 unfold takeV at h
 unfold fldS
 simp only
 split at h
 ·split at h
  ·rename_i e
   simp only [Option.some.injEq] at h
   rw [← h,if_neg (by omega),if_neg (by omega)]; exact wr_fld _ _
  split at h
  ·split at h
   ·rename_i e _
    simp only [Option.some.injEq] at h
    rw [← h,if_neg (by omega),if_neg (by omega)]; exact wr_fld _ _
   ·cases h
  split at h
  ·rename_i e
   simp only [Option.some.injEq] at h
   rw [← h,if_neg (by omega),if_neg (by omega)]; exact wr_fld _ _
  split at h
  ·split at h
   ·rename_i e _
    simp only [Option.some.injEq] at h
    rw [← h,if_neg (by omega),if_neg (by omega)]; exact wr_fld _ _
   ·cases h
  split at h
  ·split at h
   ·rename_i e _
    simp only [Option.some.injEq] at h
    rw [← h,if_pos (by omega)]; rfl
   ·cases h
  split at h
  ·simp only [Option.some.injEq] at h
   rw [← h,if_pos (by omega)]; rfl
  split at h
  ·simp only [Option.some.injEq] at h
   rw [← h,if_pos (by omega)]; rfl
  split at h
  ·simp only [Option.some.injEq] at h
   rw [← h,if_pos (by omega)]; rfl
  ·simp only [Option.some.injEq] at h
   rw [← h,if_neg (by omega),if_pos (by omega)]; exact wl_fld _ _
 ·cases h
theorem updL_out:∀ (l:List (Nat × FV)) (D:SeD) (k:Nat),¬ k ∈ l.map Prod.fst → updL D l k = D k
 | [],D,k,_ => rfl
 | x :: r,D,k,h => by
   simp only [List.map_cons,List.mem_cons,not_or] at h
   show updL (updD D x.1 x.2) r k = D k
   rw [updL_out r _ k h.2]
   unfold updD
   rw [if_neg h.1]
theorem updL_in:∀ (l:List (Nat × FV)) (D E:SeD) (k:Nat),k ∈ l.map Prod.fst → updL D l k = updL E l k
 | [],D,E,k,h => by cases h
 | x :: r,D,E,k,h => by
   show updL (updD D x.1 x.2) r k = updL (updD E x.1 x.2) r k
   by_cases hr:k ∈ r.map Prod.fst
   ·exact updL_in r _ _ k hr
   ·have e:k = x.1:=(List.mem_cons.1 h).elim id (fun h => absurd h hr)
    rw [updL_out r _ k hr,updL_out r _ k hr]
    unfold updD
    rw [if_pos e,if_pos e]
theorem updL_comm (D:SeD) (l m:List (Nat × FV)) (h:∀ k ∈ l.map Prod.fst,¬ k ∈ m.map Prod.fst):updL (updL D l) m = updL (updL D m) l:=by
 funext k
 by_cases h1:k ∈ l.map Prod.fst
 ·rw [updL_out m _ k (h k h1)]; exact updL_in l _ _ k h1
 ·rw [updL_out l _ k h1]
  by_cases h2:k ∈ m.map Prod.fst
  ·exact updL_in m _ _ k h2
  ·rw [updL_out m _ k h2,updL_out m _ k h2,updL_out l _ k h1]
def apartB:List AtD → Bool
 | [] => true
 | a :: r => r.all (fun b => (fldS a).all fun k => !((fldS b).contains k)) && apartB r
theorem apart_at:∀ (l:List AtD) (n m:Nat),apartB l = true → n < m → m < l.length → ∀ k ∈ fldS (l.getD n noAtD),¬ k ∈ fldS (l.getD m noAtD)
 | [],n,m,_,_,h => by simp at h
 | a :: r,n,0,_,h,_ => by omega
 | a :: r,0,m + 1,h,_,hl => by
   simp only [apartB,Bool.and_eq_true,List.all_eq_true] at h
   have hm:m < r.length:=by simpa using hl
   have e:r.getD m noAtD ∈ r:=by rw [List.getD_eq_getElem?_getD,List.getElem?_eq_getElem hm]; exact List.getElem_mem _
   intro k hk hk2
   simp only [List.getD_cons_zero] at hk
   simp only [List.getD_cons_succ] at hk2
   have:=h.1 _ e k hk
   rw [List.contains_iff_mem.2 hk2] at this
   cases this
 | a :: r,n + 1,m + 1,h,hlt,hl => by
   simp only [apartB,Bool.and_eq_true] at h
   simp only [List.getD_cons_succ]
   exact apart_at r n m h.2 (by omega) (by simpa using hl)
def SoOk (ats:List AtD):Prop:=∀ a ∈ ats,0 ≤ a.2.1
theorem getD_mem8 {ats:List AtD} {n:Nat} (h:n < ats.length):ats.getD n noAtD ∈ ats:=by
 rw [List.getD_eq_getElem?_getD,List.getElem?_eq_getElem h]; exact List.getElem_mem _
theorem atI_in {ats:List AtD} {a:AttrD} (h:¬ atI ats a < 0):(atI ats a).toNat < ats.length:=by
 obtain ⟨n,e1,hn,_,_⟩:=idxI_lt _ noAtD ats (Int.not_lt.1 h)
 unfold atI
 rw [e1]
 simpa using hn
theorem rule_fld {ats:List AtD} {a:AttrD} {l:List (Nat × FV)} (hs:SoOk ats) (h:¬ atI ats a < 0) (hr:ruleT ats a = some l):l.map Prod.fst = fldS (ats.getD (atI ats a).toNat noAtD) :=
 take_fld _ _ (hs _ (getD_mem8 (atI_in h))) hr
theorem step_eq (ats:List AtD) (D:SeD) (sn:List Bool) (a:AttrD):stepS ats (some (D,sn)) a = if atI ats a < 0 then none else if sn.getD (atI ats a).toNat false = true then none else match ruleT ats a with
  | none => none
  | some l => some (updL D l,sn.set (atI ats a).toNat true):=rfl
def BadS (ats:List AtD) (sn:List Bool) (a:AttrD):Prop:=atI ats a < 0 ∨ sn.getD (atI ats a).toNat false = true ∨ ruleT ats a = none
theorem step_bad {ats:List AtD} {D:SeD} {sn:List Bool} {a:AttrD} (h:BadS ats sn a):stepS ats (some (D,sn)) a = none:=by
 rw [step_eq]
 rcases h with h | h | h
 ·rw [if_pos h]
 ·rw [if_pos h,ite_self]
 ·rw [h]; simp only [ite_self]
theorem step_good {ats:List AtD} {D:SeD} {sn:List Bool} {a:AttrD} {l:List (Nat × FV)} (h1:¬ atI ats a < 0) (h2:¬ sn.getD (atI ats a).toNat false = true) (h3:ruleT ats a = some l):stepS ats (some (D,sn)) a = some (updL D l,sn.set (atI ats a).toNat true):=by
 rw [step_eq,if_neg h1,if_neg h2,h3]
theorem not_bad {ats:List AtD} {sn:List Bool} {a:AttrD} (h:¬ BadS ats sn a):¬ atI ats a < 0 ∧ ¬ sn.getD (atI ats a).toNat false = true ∧ ∃ l,ruleT ats a = some l:=by
 unfold BadS at h
 simp only [not_or] at h
 refine ⟨h.1,h.2.1,?_⟩
 cases e:ruleT ats a with
 | none => exact absurd e h.2.2
 | some l => exact ⟨l,rfl⟩
theorem bad_set {ats:List AtD} {sn:List Bool} {a:AttrD} {i:Nat} (hi:i < sn.length) (h:BadS ats sn a):BadS ats (sn.set i true) a:=by
 rcases h with h | h | h
 ·exact .inl h
 ·refine .inr (.inl ?_)
  rw [getD_set8 _ _ _ hi]
  split
  ·rfl
  ·exact h
 ·exact .inr (.inr h)
theorem step_comm {ats:List AtD} (hs:SoOk ats) (hp:apartB ats = true) (D:SeD) (sn:List Bool) (hl:sn.length = ats.length) (a b:AttrD):stepS ats (stepS ats (some (D,sn)) a) b = stepS ats (stepS ats (some (D,sn)) b) a:=by
 by_cases ha:BadS ats sn a
 ·rw [step_bad ha]
  by_cases hb:BadS ats sn b
  ·rw [step_bad hb]; rfl
  ·obtain ⟨b1,b2,lb,b3⟩:=not_bad hb
   rw [step_good b1 b2 b3,step_bad (bad_set (by rw [hl]; exact atI_in b1) ha)]
   rfl
 ·obtain ⟨a1,a2,la,a3⟩:=not_bad ha
  rw [step_good a1 a2 a3]
  by_cases hb:BadS ats sn b
  ·rw [step_bad hb,step_bad (bad_set (by rw [hl]; exact atI_in a1) hb)]
   rfl
  ·obtain ⟨b1,b2,lb,b3⟩:=not_bad hb
   rw [step_good b1 b2 b3]
   have ia:(atI ats a).toNat < sn.length:=by rw [hl]; exact atI_in a1
   have ib:(atI ats b).toNat < sn.length:=by rw [hl]; exact atI_in b1
   by_cases e:(atI ats a).toNat = (atI ats b).toNat
   ·rw [step_bad (.inr (.inl (by rw [getD_set8 _ _ _ ia,if_pos e]))),step_bad (.inr (.inl (by rw [getD_set8 _ _ _ ib,if_pos e.symm])))]
   ·rw [step_good b1 (by rw [getD_set8 _ _ _ ia,if_neg e]; exact b2) b3,step_good a1 (by rw [getD_set8 _ _ _ ib,if_neg (fun h => e h.symm)]; exact a2) a3]
    have hd:∀ k ∈ la.map Prod.fst,¬ k ∈ lb.map Prod.fst:=by
     rw [rule_fld hs a1 a3,rule_fld hs b1 b3]
     rcases Nat.lt_or_gt_of_ne e with h | h
     ·exact apart_at ats _ _ hp h (atI_in b1)
     ·intro k h1 h2
      exact apart_at ats _ _ hp h (atI_in a1) k h2 h1
    rw [updL_comm D la lb hd,List.set_comm _ _ e]
def StO (ats:List AtD) (st:Option (SeD × List Bool)):Prop:=∀ p,st = some p → p.2.length = ats.length
theorem StO.step {ats:List AtD} {st:Option (SeD × List Bool)} (h:StO ats st) (a:AttrD):StO ats (stepS ats st a):=by
 cases st with
 | none => intro p e; cases e
 | some q =>
   obtain ⟨D,sn⟩:=q
   intro p e
   rw [step_eq] at e
   split at e
   ·cases e
   split at e
   ·cases e
   split at e
   ·cases e
   ·simp only [Option.some.injEq] at e
    rw [← e]
    simp only [List.length_set]
    exact h _ rfl
theorem fold_perm {ats:List AtD} (hs:SoOk ats) (hp:apartB ats = true) {l m:List AttrD} (h:l.Perm m):∀ st,StO ats st → l.foldl (stepS ats) st = m.foldl (stepS ats) st:=by
 induction h with
 | nil => intro st _; rfl
 | cons x _ ih => intro st hst; exact ih _ (hst.step x)
 | swap x y r =>
   intro st hst
   simp only [List.foldl_cons]
   cases st with
   | none => rfl
   | some q => rw [step_comm hs hp q.1 q.2 (hst _ rfl) y x]
 | trans _ _ ih1 ih2 => intro st hst; exact (ih1 st hst).trans (ih2 st hst)
theorem st0_ok (ats:List AtD):StO ats (some (standD ats,List.replicate ats.length false)):=fun p e => by
 simp only [Option.some.injEq] at e
 rw [← e]; simp
theorem set_perm {ats:List AtD} (hs:SoOk ats) (hp:apartB ats = true) {l m:List AttrD} (h:l.Perm m):settingV ats l = settingV ats m:=by
 have e1:foldS ats l = foldS ats m:=fold_perm hs hp h _ (st0_ok ats)
 have e2:(l.any fun a => decide (a.1 = [112,97,100,115])) = (m.any fun a => decide (a.1 = [112,97,100,115])):=h.any_eq
 unfold settingV
 rw [e1,e2]
theorem rows_apart:∀ op:Int,op ≠ 61 → apartB (rowT op).2.2.2.2.2 = true:=by
 have h:(List.range 80).all (fun k => decide (k = 60) || apartB (tabT.getD k noRowD).2.2.2.2.2) = true:=by kernel_rfl
 intro op h61
 unfold rowT
 split
 ·rename_i ho
  have:=List.all_eq_true.1 h (op - 1).toNat (List.mem_range.2 (by omega))
  simp only [Bool.or_eq_true,decide_eq_true_eq] at this
  rcases this with e | e
  ·omega
  ·exact e
 ·rfl
theorem rows_so (op:Int):SoOk (rowT op).2.2.2.2.2:=fun a ha => by
 obtain ⟨_,_,so,_,e⟩:=(rowT_ok op).2 a ha
 omega
def eqF (f g:FV):Bool:=decide (f.k = g.k) && (decide (f.x = g.x) && (decide (f.y = g.y) && (decide (f.xs = g.xs) && decide (f.T = g.T))))
theorem eqF_eq {f g:FV} (h:eqF f g = true):f = g:=by
 obtain ⟨a,b,c,d,e⟩:=f
 obtain ⟨a',b',c',d',e'⟩:=g
 simp only [eqF,Bool.and_eq_true,decide_eq_true_eq] at h
 obtain ⟨h1,h2,h3,h4,h5⟩:=h
 subst h1 h2 h3 h4 h5
 rfl
def dflA (D:SeD) (a:AttrD):Option AttrD :=
 if a.1 = [97,120,105,115] then some (a.1,a.2.1,a.2.2.1,(D 0).x,a.2.2.2.2) else
 if a.1 = [97,108,112,104,97] then some (a.1,a.2.1,(D 9).x,a.2.2.2) else
 if a.1 = [98,101,116,97] then some (a.1,a.2.1,(D 10).x,a.2.2.2) else
 if a.1 = [101,112,115,105,108,111,110] then some (a.1,a.2.1,(D 11).x,a.2.2.2) else
 if a.1 = [107,101,101,112,100,105,109,115] then some (a.1,a.2.1,a.2.2.1,(if (D 3).y = true then 1 else 0),a.2.2.2.2) else
 if a.1 = [116,114,97,110,115,65] then some (a.1,a.2.1,a.2.2.1,0,a.2.2.2.2) else
 if a.1 = [116,114,97,110,115,66] then some (a.1,a.2.1,a.2.2.1,0,a.2.2.2.2) else
 if a.1 = [102,109,111,100] then some (a.1,a.2.1,a.2.2.1,0,a.2.2.2.2) else
 if a.1 = [99,101,105,108,95,109,111,100,101] then some (a.1,a.2.1,a.2.2.1,0,a.2.2.2.2) else
 if a.1 = [97,108,108,111,119,122,101,114,111] then some (a.1,a.2.1,a.2.2.1,0,a.2.2.2.2) else
 none
def axF (f:FV):Bool:=decide (-8 ≤ f.x) && (decide (f.x ≤ 8) && eqF f (.i f.x))
def flF (f:FV):Bool:=decide (0 ≤ f.x) && (decide (f.x < 4294967296) && eqF f (.u f.x))
def dflB (ats:List AtD):Bool:=ats.all fun a =>
 (decide (a.1 ≠ [97,120,105,115]) || (decide (a.2.1 = 4) && axF (standD ats 0))) &&
 (decide (a.1 ≠ [97,108,112,104,97]) || (decide (a.2.1 = 0) && flF (standD ats 9))) &&
 (decide (a.1 ≠ [98,101,116,97]) || (decide (a.2.1 = 0) && flF (standD ats 10))) &&
 (decide (a.1 ≠ [101,112,115,105,108,111,110]) || (decide (a.2.1 = 0) && flF (standD ats 11))) &&
 (decide (a.1 ≠ [107,101,101,112,100,105,109,115]) || (decide (a.2.1 = 1) && eqF (standD ats 3) (.b (standD ats 3).y))) &&
 (decide (a.1 ≠ [116,114,97,110,115,65]) || (decide (a.2.1 = 1) && eqF (standD ats 17) (.b false))) &&
 (decide (a.1 ≠ [116,114,97,110,115,66]) || (decide (a.2.1 = 1) && eqF (standD ats 18) (.b false))) &&
 (decide (a.1 ≠ [102,109,111,100]) || (decide (a.2.1 = 1) && eqF (standD ats 14) (.b false))) &&
 (decide (a.1 ≠ [99,101,105,108,95,109,111,100,101]) || (decide (a.2.1 = 1) && eqF (standD ats 25) (.b false))) &&
 (decide (a.1 ≠ [97,108,108,111,119,122,101,114,111]) || (decide (a.2.1 = 1) && eqF (standD ats 6) (.b false)))
theorem dfl_0 {ats:List AtD} (h:dflB ats = true) {t:AtD} (ht:t ∈ ats) (hn:t.1 = [97,120,105,115]):t.2.1 = 4 ∧ axF (standD ats 0) = true:=by
 have:=List.all_eq_true.1 h t ht
 simp only [Bool.and_eq_true,Bool.or_eq_true,decide_eq_true_eq] at this
 exact this.1.1.1.1.1.1.1.1.1.resolve_left (fun e => e hn)
theorem dfl_1 {ats:List AtD} (h:dflB ats = true) {t:AtD} (ht:t ∈ ats) (hn:t.1 = [97,108,112,104,97]):t.2.1 = 0 ∧ flF (standD ats 9) = true:=by
 have:=List.all_eq_true.1 h t ht
 simp only [Bool.and_eq_true,Bool.or_eq_true,decide_eq_true_eq] at this
 exact this.1.1.1.1.1.1.1.1.2.resolve_left (fun e => e hn)
theorem dfl_2 {ats:List AtD} (h:dflB ats = true) {t:AtD} (ht:t ∈ ats) (hn:t.1 = [98,101,116,97]):t.2.1 = 0 ∧ flF (standD ats 10) = true:=by
 have:=List.all_eq_true.1 h t ht
 simp only [Bool.and_eq_true,Bool.or_eq_true,decide_eq_true_eq] at this
 exact this.1.1.1.1.1.1.1.2.resolve_left (fun e => e hn)
theorem dfl_3 {ats:List AtD} (h:dflB ats = true) {t:AtD} (ht:t ∈ ats) (hn:t.1 = [101,112,115,105,108,111,110]):t.2.1 = 0 ∧ flF (standD ats 11) = true:=by
 have:=List.all_eq_true.1 h t ht
 simp only [Bool.and_eq_true,Bool.or_eq_true,decide_eq_true_eq] at this
 exact this.1.1.1.1.1.1.2.resolve_left (fun e => e hn)
theorem dfl_4 {ats:List AtD} (h:dflB ats = true) {t:AtD} (ht:t ∈ ats) (hn:t.1 = [107,101,101,112,100,105,109,115]):t.2.1 = 1 ∧ eqF (standD ats 3) (.b (standD ats 3).y) = true:=by
 have:=List.all_eq_true.1 h t ht
 simp only [Bool.and_eq_true,Bool.or_eq_true,decide_eq_true_eq] at this
 exact this.1.1.1.1.1.2.resolve_left (fun e => e hn)
theorem dfl_5 {ats:List AtD} (h:dflB ats = true) {t:AtD} (ht:t ∈ ats) (hn:t.1 = [116,114,97,110,115,65]):t.2.1 = 1 ∧ eqF (standD ats 17) (.b false) = true:=by
 have:=List.all_eq_true.1 h t ht
 simp only [Bool.and_eq_true,Bool.or_eq_true,decide_eq_true_eq] at this
 exact this.1.1.1.1.2.resolve_left (fun e => e hn)
theorem dfl_6 {ats:List AtD} (h:dflB ats = true) {t:AtD} (ht:t ∈ ats) (hn:t.1 = [116,114,97,110,115,66]):t.2.1 = 1 ∧ eqF (standD ats 18) (.b false) = true:=by
 have:=List.all_eq_true.1 h t ht
 simp only [Bool.and_eq_true,Bool.or_eq_true,decide_eq_true_eq] at this
 exact this.1.1.1.2.resolve_left (fun e => e hn)
theorem dfl_7 {ats:List AtD} (h:dflB ats = true) {t:AtD} (ht:t ∈ ats) (hn:t.1 = [102,109,111,100]):t.2.1 = 1 ∧ eqF (standD ats 14) (.b false) = true:=by
 have:=List.all_eq_true.1 h t ht
 simp only [Bool.and_eq_true,Bool.or_eq_true,decide_eq_true_eq] at this
 exact this.1.1.2.resolve_left (fun e => e hn)
theorem dfl_8 {ats:List AtD} (h:dflB ats = true) {t:AtD} (ht:t ∈ ats) (hn:t.1 = [99,101,105,108,95,109,111,100,101]):t.2.1 = 1 ∧ eqF (standD ats 25) (.b false) = true:=by
 have:=List.all_eq_true.1 h t ht
 simp only [Bool.and_eq_true,Bool.or_eq_true,decide_eq_true_eq] at this
 exact this.1.2.resolve_left (fun e => e hn)
theorem dfl_9 {ats:List AtD} (h:dflB ats = true) {t:AtD} (ht:t ∈ ats) (hn:t.1 = [97,108,108,111,119,122,101,114,111]):t.2.1 = 1 ∧ eqF (standD ats 6) (.b false) = true:=by
 have:=List.all_eq_true.1 h t ht
 simp only [Bool.and_eq_true,Bool.or_eq_true,decide_eq_true_eq] at this
 exact this.2.resolve_left (fun e => e hn)
theorem rows_dfl (op:Int):dflB (rowT op).2.2.2.2.2 = true:=by
 have h:(List.range 80).all (fun k => dflB (tabT.getD k noRowD).2.2.2.2.2) = true:=by kernel_rfl
 unfold rowT
 split
 ·exact List.all_eq_true.1 h (op - 1).toNat (List.mem_range.2 (by omega))
 ·rfl
theorem hold_kd {b:Int × Int × Int × Int} {kd i:Int} {nf:Nat} {is:List Int} (h:holdB b kd i nf is = true):kd = b.1:=by
 unfold holdB at h
 split at h
 ·assumption
 ·cases h
theorem take_hold {so:Int} {nm:Str} {kd f i:Int} {s:Str} {T:Ten} {fl is:List Int} {l:List (Nat × FV)} (h:takeV so nm kd f i s T fl is = some l):holdB (bndT.getD so.toNat (0,0,0,0)) kd i fl.length is = true:=by
 unfold takeV at h
 split at h
 ·assumption
 ·cases h
theorem take_ax {nm:Str} {kd f i j:Int} {s:Str} {T:Ten} {fl is:List Int} {l:List (Nat × FV)} (h:takeV 4 nm kd f i s T fl is = some l) (h1:-8 ≤ j) (h2:j ≤ 8):takeV 4 nm kd f j s T fl is = some (wrL nm j):=by
 have e:kd = 2:=hold_kd (take_hold h)
 subst e
 have hh:holdB (bndT.getD (4:Int).toNat (0,0,0,0)) 2 j fl.length is = true:=by
  show holdB (2,(-8),8,0) 2 j fl.length is = true
  simp [holdB,beyB]; omega
 unfold takeV
 rw [if_pos hh]
 rfl
theorem take_flag {nm:Str} {kd f i j:Int} {s:Str} {T:Ten} {fl is:List Int} {l:List (Nat × FV)} (h:takeV 1 nm kd f i s T fl is = some l) (h1:j = 0 ∨ j = 1):takeV 1 nm kd f j s T fl is = some (wrL nm j):=by
 have e:kd = 2:=hold_kd (take_hold h)
 subst e
 have hh:holdB (bndT.getD (1:Int).toNat (0,0,0,0)) 2 j fl.length is = true:=by
  show holdB (2,0,1,0) 2 j fl.length is = true
  simp [holdB,beyB]; omega
 unfold takeV
 rw [if_pos hh]
 rfl
theorem take_float {nm:Str} {kd f g i:Int} {s:Str} {T:Ten} {fl is:List Int} {l:List (Nat × FV)} (h:takeV 0 nm kd f i s T fl is = some l):takeV 0 nm kd g i s T fl is = some (wrL nm g):=by
 have e:=take_hold h
 unfold takeV
 rw [if_pos e]
 rfl
theorem upd_self {D:SeD} {k:Nat} {f:FV} (h:D k = f):updL D [(k,f)] = D:=by
 funext j
 show updD D k f j = D j
 unfold updD
 split
 ·rename_i e; rw [e,h]
 ·rfl
theorem atI_of {ats:List AtD} {a:AttrD} (h:¬ atI ats a < 0):(ats.getD (atI ats a).toNat noAtD).1 = a.1:=by
 obtain ⟨n,e1,hn,p1,_⟩:=idxI_lt _ noAtD ats (Int.not_lt.1 h)
 have e2:(atI ats a).toNat = n:=by unfold atI; rw [e1]; simp
 rw [e2]
 simpa using p1
theorem atI_same {ats:List AtD} {a b:AttrD} (h:b.1 = a.1):atI ats b = atI ats a:=by unfold atI; rw [h]
theorem rule_at {ats:List AtD} {a b:AttrD} {so:Int} (h:b.1 = a.1) (ht:(ats.getD (atI ats a).toNat noAtD).2.1 = so) (hi:¬ atI ats a < 0):ruleT ats b = takeV so b.1 b.2.1 b.2.2.1 b.2.2.2.1 b.2.2.2.2.1 b.2.2.2.2.2.1 b.2.2.2.2.2.2.1 b.2.2.2.2.2.2.2:=by
 unfold ruleT
 rw [atI_same h,atI_of hi,ht,h]
theorem dfl_rule {ats:List AtD} (hd:dflB ats = true) {a a2:AttrD} {la:List (Nat × FV)} (hi:¬ atI ats a < 0) {D:SeD} (hk:∀ k ∈ fldS (ats.getD (atI ats a).toNat noAtD),D k = standD ats k) (hr:ruleT ats a = some la) (h2:dflA D a = some a2) :
  a2.1 = a.1 ∧ a.1 ≠ [112,97,100,115] ∧ (∀ k ∈ fldS (ats.getD (atI ats a).toNat noAtD),k ≠ 16 ∧ k ≠ 24) ∧ ∃ lb,ruleT ats a2 = some lb ∧ updL D lb = D:=by
 have ht:=getD_mem8 (atI_in hi)
 have hn:=atI_of hi
 have hra:=rule_at (a:=a) (b:=a) rfl rfl hi
 rw [hr] at hra
 obtain ⟨t,hT⟩:∃ t,ats.getD (atI ats a).toNat noAtD = t:=⟨_,rfl⟩
 have hTso:∀ so,t.2.1 = so → (ats.getD (atI ats a).toNat noAtD).2.1 = so:=fun so e => by rw [hT]; exact e
 rw [hT] at ht hn hk hra ⊢
 obtain ⟨tn,tso,tst,tne⟩:=t
 obtain ⟨an,kd,f,i,s,T,fl,is⟩:=a
 simp only at hn hra
 subst hn
 unfold dflA at h2
 simp only at h2
 by_cases e0:tn = [97,120,105,115]
 ·rw [if_pos e0] at h2
  obtain ⟨eso,ec⟩:=dfl_0 hd ht e0
  simp only at eso
  subst eso e0
  simp only [Option.some.injEq] at h2
  subst h2
  have ef:fldS ([97,120,105,115],4,tst,tne) = [0]:=rfl
  rw [ef] at hk ⊢
  refine ⟨rfl,show [97,120,105,115] ≠ [112,97,100,115] by decide,by decide,?_⟩
  have ev:=hk 0 (by decide)
  simp only [axF,Bool.and_eq_true,decide_eq_true_eq] at ec
  rw [← ev] at ec
  exact ⟨_,(rule_at (a:=([97,120,105,115],kd,f,i,s,T,fl,is)) (b:=([97,120,105,115],kd,f,(D 0).x,s,T,fl,is)) (so:=4) rfl (hTso _ rfl) hi).trans (take_ax hra.symm ec.1 ec.2.1),upd_self (eqF_eq ec.2.2)⟩
 rw [if_neg e0] at h2
 by_cases e1:tn = [97,108,112,104,97]
 ·rw [if_pos e1] at h2
  obtain ⟨eso,ec⟩:=dfl_1 hd ht e1
  simp only at eso
  subst eso e1
  simp only [Option.some.injEq] at h2
  subst h2
  have ef:fldS ([97,108,112,104,97],0,tst,tne) = [9]:=rfl
  rw [ef] at hk ⊢
  refine ⟨rfl,show [97,108,112,104,97] ≠ [112,97,100,115] by decide,by decide,?_⟩
  have ev:=hk 9 (by decide)
  simp only [flF,Bool.and_eq_true,decide_eq_true_eq] at ec
  rw [← ev] at ec
  refine ⟨_,(rule_at (a:=([97,108,112,104,97],kd,f,i,s,T,fl,is)) (b:=([97,108,112,104,97],kd,(D 9).x,i,s,T,fl,is)) (so:=0) rfl (hTso _ rfl) hi).trans (take_float hra.symm),?_⟩
  show updL D [(9,FV.u ((D 9).x % 4294967296))] = D
  rw [Int.emod_eq_of_lt ec.1 ec.2.1]
  exact upd_self (eqF_eq ec.2.2)
 rw [if_neg e1] at h2
 by_cases e2:tn = [98,101,116,97]
 ·rw [if_pos e2] at h2
  obtain ⟨eso,ec⟩:=dfl_2 hd ht e2
  simp only at eso
  subst eso e2
  simp only [Option.some.injEq] at h2
  subst h2
  have ef:fldS ([98,101,116,97],0,tst,tne) = [10]:=rfl
  rw [ef] at hk ⊢
  refine ⟨rfl,show [98,101,116,97] ≠ [112,97,100,115] by decide,by decide,?_⟩
  have ev:=hk 10 (by decide)
  simp only [flF,Bool.and_eq_true,decide_eq_true_eq] at ec
  rw [← ev] at ec
  refine ⟨_,(rule_at (a:=([98,101,116,97],kd,f,i,s,T,fl,is)) (b:=([98,101,116,97],kd,(D 10).x,i,s,T,fl,is)) (so:=0) rfl (hTso _ rfl) hi).trans (take_float hra.symm),?_⟩
  show updL D [(10,FV.u ((D 10).x % 4294967296))] = D
  rw [Int.emod_eq_of_lt ec.1 ec.2.1]
  exact upd_self (eqF_eq ec.2.2)
 rw [if_neg e2] at h2
 by_cases e3:tn = [101,112,115,105,108,111,110]
 ·rw [if_pos e3] at h2
  obtain ⟨eso,ec⟩:=dfl_3 hd ht e3
  simp only at eso
  subst eso e3
  simp only [Option.some.injEq] at h2
  subst h2
  have ef:fldS ([101,112,115,105,108,111,110],0,tst,tne) = [11]:=rfl
  rw [ef] at hk ⊢
  refine ⟨rfl,show [101,112,115,105,108,111,110] ≠ [112,97,100,115] by decide,by decide,?_⟩
  have ev:=hk 11 (by decide)
  simp only [flF,Bool.and_eq_true,decide_eq_true_eq] at ec
  rw [← ev] at ec
  refine ⟨_,(rule_at (a:=([101,112,115,105,108,111,110],kd,f,i,s,T,fl,is)) (b:=([101,112,115,105,108,111,110],kd,(D 11).x,i,s,T,fl,is)) (so:=0) rfl (hTso _ rfl) hi).trans (take_float hra.symm),?_⟩
  show updL D [(11,FV.u ((D 11).x % 4294967296))] = D
  rw [Int.emod_eq_of_lt ec.1 ec.2.1]
  exact upd_self (eqF_eq ec.2.2)
 rw [if_neg e3] at h2
 by_cases e4:tn = [107,101,101,112,100,105,109,115]
 ·rw [if_pos e4] at h2
  obtain ⟨eso,ec⟩:=dfl_4 hd ht e4
  simp only at eso
  subst eso e4
  simp only [Option.some.injEq] at h2
  subst h2
  have ef:fldS ([107,101,101,112,100,105,109,115],1,tst,tne) = [3]:=rfl
  rw [ef] at hk ⊢
  refine ⟨rfl,show [107,101,101,112,100,105,109,115] ≠ [112,97,100,115] by decide,by decide,?_⟩
  have ev:=hk 3 (by decide)
  rw [← ev] at ec
  refine ⟨_,(rule_at (a:=([107,101,101,112,100,105,109,115],kd,f,i,s,T,fl,is)) (b:=([107,101,101,112,100,105,109,115],kd,f,(if (D 3).y = true then 1 else 0),s,T,fl,is)) (so:=1) rfl (hTso _ rfl) hi).trans (take_flag hra.symm (by simp only; split <;> simp)),?_⟩
  show updL D [(3,FV.b ((if (D 3).y = true then (1:Int) else 0) == 1))] = D
  refine upd_self ((eqF_eq ec).trans ?_)
  cases (D 3).y <;> rfl
 rw [if_neg e4] at h2
 by_cases e5:tn = [116,114,97,110,115,65]
 ·rw [if_pos e5] at h2
  obtain ⟨eso,ec⟩:=dfl_5 hd ht e5
  simp only at eso
  subst eso e5
  simp only [Option.some.injEq] at h2
  subst h2
  have ef:fldS ([116,114,97,110,115,65],1,tst,tne) = [17]:=rfl
  rw [ef] at hk ⊢
  refine ⟨rfl,show [116,114,97,110,115,65] ≠ [112,97,100,115] by decide,by decide,?_⟩
  have ev:=hk 17 (by decide)
  rw [← ev] at ec
  refine ⟨_,(rule_at (a:=([116,114,97,110,115,65],kd,f,i,s,T,fl,is)) (b:=([116,114,97,110,115,65],kd,f,0,s,T,fl,is)) (so:=1) rfl (hTso _ rfl) hi).trans (take_flag hra.symm (.inl rfl)),?_⟩
  show updL D [(17,FV.b false)] = D
  exact upd_self (eqF_eq ec)
 rw [if_neg e5] at h2
 by_cases e6:tn = [116,114,97,110,115,66]
 ·rw [if_pos e6] at h2
  obtain ⟨eso,ec⟩:=dfl_6 hd ht e6
  simp only at eso
  subst eso e6
  simp only [Option.some.injEq] at h2
  subst h2
  have ef:fldS ([116,114,97,110,115,66],1,tst,tne) = [18]:=rfl
  rw [ef] at hk ⊢
  refine ⟨rfl,show [116,114,97,110,115,66] ≠ [112,97,100,115] by decide,by decide,?_⟩
  have ev:=hk 18 (by decide)
  rw [← ev] at ec
  refine ⟨_,(rule_at (a:=([116,114,97,110,115,66],kd,f,i,s,T,fl,is)) (b:=([116,114,97,110,115,66],kd,f,0,s,T,fl,is)) (so:=1) rfl (hTso _ rfl) hi).trans (take_flag hra.symm (.inl rfl)),?_⟩
  show updL D [(18,FV.b false)] = D
  exact upd_self (eqF_eq ec)
 rw [if_neg e6] at h2
 by_cases e7:tn = [102,109,111,100]
 ·rw [if_pos e7] at h2
  obtain ⟨eso,ec⟩:=dfl_7 hd ht e7
  simp only at eso
  subst eso e7
  simp only [Option.some.injEq] at h2
  subst h2
  have ef:fldS ([102,109,111,100],1,tst,tne) = [14]:=rfl
  rw [ef] at hk ⊢
  refine ⟨rfl,show [102,109,111,100] ≠ [112,97,100,115] by decide,by decide,?_⟩
  have ev:=hk 14 (by decide)
  rw [← ev] at ec
  refine ⟨_,(rule_at (a:=([102,109,111,100],kd,f,i,s,T,fl,is)) (b:=([102,109,111,100],kd,f,0,s,T,fl,is)) (so:=1) rfl (hTso _ rfl) hi).trans (take_flag hra.symm (.inl rfl)),?_⟩
  show updL D [(14,FV.b false)] = D
  exact upd_self (eqF_eq ec)
 rw [if_neg e7] at h2
 by_cases e8:tn = [99,101,105,108,95,109,111,100,101]
 ·rw [if_pos e8] at h2
  obtain ⟨eso,ec⟩:=dfl_8 hd ht e8
  simp only at eso
  subst eso e8
  simp only [Option.some.injEq] at h2
  subst h2
  have ef:fldS ([99,101,105,108,95,109,111,100,101],1,tst,tne) = [25]:=rfl
  rw [ef] at hk ⊢
  refine ⟨rfl,show [99,101,105,108,95,109,111,100,101] ≠ [112,97,100,115] by decide,by decide,?_⟩
  have ev:=hk 25 (by decide)
  rw [← ev] at ec
  refine ⟨_,(rule_at (a:=([99,101,105,108,95,109,111,100,101],kd,f,i,s,T,fl,is)) (b:=([99,101,105,108,95,109,111,100,101],kd,f,0,s,T,fl,is)) (so:=1) rfl (hTso _ rfl) hi).trans (take_flag hra.symm (.inl rfl)),?_⟩
  show updL D [(25,FV.b false)] = D
  exact upd_self (eqF_eq ec)
 rw [if_neg e8] at h2
 by_cases e9:tn = [97,108,108,111,119,122,101,114,111]
 ·rw [if_pos e9] at h2
  obtain ⟨eso,ec⟩:=dfl_9 hd ht e9
  simp only at eso
  subst eso e9
  simp only [Option.some.injEq] at h2
  subst h2
  have ef:fldS ([97,108,108,111,119,122,101,114,111],1,tst,tne) = [6]:=rfl
  rw [ef] at hk ⊢
  refine ⟨rfl,show [97,108,108,111,119,122,101,114,111] ≠ [112,97,100,115] by decide,by decide,?_⟩
  have ev:=hk 6 (by decide)
  rw [← ev] at ec
  refine ⟨_,(rule_at (a:=([97,108,108,111,119,122,101,114,111],kd,f,i,s,T,fl,is)) (b:=([97,108,108,111,119,122,101,114,111],kd,f,0,s,T,fl,is)) (so:=1) rfl (hTso _ rfl) hi).trans (take_flag hra.symm (.inl rfl)),?_⟩
  show updL D [(6,FV.b false)] = D
  exact upd_self (eqF_eq ec)
 rw [if_neg e9] at h2
 cases h2
theorem fold_keeps {ats:List AtD} (hs:SoOk ats) (hp:apartB ats = true):∀ (l:List AttrD) (D0 D:SeD) (s0 sn:List Bool),s0.length = ats.length → l.foldl (stepS ats) (some (D0,s0)) = some (D,sn) →
  sn.length = ats.length ∧ ∀ i,i < ats.length → sn.getD i false = false → s0.getD i false = false ∧ ∀ k ∈ fldS (ats.getD i noAtD),D k = D0 k
 | [],D0,D,s0,sn,hl,h => by
   simp only [List.foldl_nil,Option.some.injEq,Prod.mk.injEq] at h
   obtain ⟨h1,h2⟩:=h
   subst h1 h2
   exact ⟨hl,fun i _ h => ⟨h,fun k _ => rfl⟩⟩
 | a :: r,D0,D,s0,sn,hl,h => by
   simp only [List.foldl_cons] at h
   by_cases hb:BadS ats s0 a
   ·rw [step_bad hb,fold_none] at h; cases h
   obtain ⟨b1,b2,lb,b3⟩:=not_bad hb
   rw [step_good b1 b2 b3] at h
   have hj:=atI_in b1
   obtain ⟨i1,i2⟩:=fold_keeps hs hp r _ _ _ _ (by rw [List.length_set]; exact hl) h
   refine ⟨i1,fun i hi hsn => ?_⟩
   obtain ⟨j1,j2⟩:=i2 i hi hsn
   rw [getD_set8 _ _ _ (by rw [hl]; exact hj)] at j1
   split at j1
   ·cases j1
   ·rename_i hne
    refine ⟨j1,fun k hk => (j2 k hk).trans (updL_out _ _ _ ?_)⟩
    rw [rule_fld hs b1 b3]
    rcases Nat.lt_or_gt_of_ne hne with h | h
    ·intro hk2; exact apart_at ats _ _ hp h hi k hk2 hk
    ·exact apart_at ats _ _ hp h hj k hk
theorem need_set {ats:List AtD} {sn:List Bool} {i:Nat} (hi:i < sn.length) (h:(List.range ats.length).any (needB ats sn) = false):(List.range ats.length).any (needB ats (sn.set i true)) = false:=by
 rw [List.any_eq_false] at h ⊢
 intro n hn he
 refine h n hn ?_
 simp only [needB,Bool.and_eq_true,Bool.not_eq_true',decide_eq_true_eq] at he ⊢
 refine ⟨he.1,?_⟩
 have:=he.2
 rw [getD_set8 _ _ _ hi] at this
 split at this
 ·cases this
 ·exact this
theorem set_parts {ats:List AtD} {l:List AttrD} {D:SeD} (h:settingV ats l = some D):∃ sn,foldS ats l = some (D,sn) ∧ (List.range ats.length).any (needB ats sn) = false ∧ ((D 24).x = 0 ∨ (l.any fun a => decide (a.1 = [112,97,100,115])) = false):=by
 unfold settingV at h
 cases hf:foldS ats l with
 | none => rw [hf] at h; cases h
 | some p =>
   obtain ⟨D1,sn⟩:=p
   rw [hf] at h
   simp only at h
   split at h
   ·cases h
   ·rename_i h1
    split at h
    ·rename_i h2
     simp only [Option.some.injEq] at h
     subst h
     exact ⟨sn,rfl,by simpa using h1,h2⟩
    ·cases h
theorem set_of {ats:List AtD} {l:List AttrD} {D:SeD} {sn:List Bool} (h1:foldS ats l = some (D,sn)) (h2:(List.range ats.length).any (needB ats sn) = false) (h3:(D 24).x = 0 ∨ (l.any fun a => decide (a.1 = [112,97,100,115])) = false):settingV ats l = some D:=by
 unfold settingV
 rw [h1]
 simp only
 rw [if_neg (by rw [h2]; decide),if_pos h3]
theorem set_dfl {ats:List AtD} (hs:SoOk ats) (hp:apartB ats = true) (hd:dflB ats = true) {l m:List AttrD} {a a2:AttrD} {D E:SeD} (hl:l.Perm (m ++ [a])) (h1:settingV ats l = some D) (h2:settingV ats m = some E) (h3:dflA E a = some a2) :
  settingV ats (m ++ [a2]) = some E ∧ D 16 = E 16:=by
 rw [set_perm hs hp hl] at h1
 obtain ⟨sn,f1,n1,p1⟩:=set_parts h1
 obtain ⟨sm,f2,n2,p2⟩:=set_parts h2
 have hf:∀ b,foldS ats (m ++ [b]) = stepS ats (some (E,sm)) b:=fun b => by
  unfold foldS at f2 ⊢
  rw [List.foldl_append,f2]
  rfl
 rw [hf] at f1
 by_cases hb:BadS ats sm a
 ·rw [step_bad hb] at f1; cases f1
 obtain ⟨b1,b2,lb,b3⟩:=not_bad hb
 rw [step_good b1 b2 b3] at f1
 simp only [Option.some.injEq,Prod.mk.injEq] at f1
 obtain ⟨g1,g2⟩:=f1
 have hk:=fold_keeps hs hp m _ _ _ _ (by simp) (show m.foldl (stepS ats) (some (standD ats,List.replicate ats.length false)) = some (E,sm) from f2)
 have hsm:sm.getD (atI ats a).toNat false = false:=by simpa using b2
 obtain ⟨e1,e2,e3,lc,e4,e5⟩:=dfl_rule hd b1 (hk.2 _ (atI_in b1) hsm).2 b3 h3
 have hi2:atI ats a2 = atI ats a:=atI_same e1
 have hlt:(atI ats a).toNat < sm.length:=by rw [hk.1]; exact atI_in b1
 refine ⟨set_of (sn:=sm.set (atI ats a).toNat true) ?_ (need_set hlt n2) ?_,?_⟩
 ·rw [hf,step_good (by rw [hi2]; exact b1) (by rw [hi2]; exact b2) e4,e5,hi2]
 ·rcases p2 with p | p
  ·exact .inl p
  ·refine .inr ?_
   rw [List.any_append,p]
   have:a2.1 ≠ [112,97,100,115]:=by rw [e1]; exact e2
   simp [this]
 ·rw [← g1]
  refine updL_out _ _ _ ?_
  rw [rule_fld hs b1 b3]
  intro h
  exact (e3 _ h).1 rfl
end Go.Proofs.Ytkpmfkkfcikfhaa
