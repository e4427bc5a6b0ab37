import Derived.Test.YtnmciappielkcaaV37
set_option maxRecDepth 100000
set_option maxHeartbeats 8000000
namespace Go.Proofs.Ytnmciappielkcaa
open Go.RowKit
set_option linter.unusedVariables false
set_option linter.unusedSimpArgs false
theorem rows_says (op:Int):∀ t ∈ (rowT op).2.2.2.2.2,∀ a:AttrD,a.1 = t.1 → AtW a → takeV t.2.1 t.1 a.2.1 a.2.2.1 a.2.2.2.1 a.2.2.2.2.1 a.2.2.2.2.2.1 a.2.2.2.2.2.2.1 a.2.2.2.2.2.2.2 = saysR op t.2.1 a:=by
 intro t ht a hn hw
 have hop:1 ≤ op ∧ op ≤ 80:=Classical.byContradiction fun h => by
  unfold rowT at ht
  rw [if_neg h] at ht
  simp [noRowD] at ht
 have hk:=List.all_eq_true.1 rows_pairs (op - 1).toNat (List.mem_range.2 (by omega))
 rw [show (((op - 1).toNat:Nat):Int) + 1 = op by omega] at hk
 have h0:=List.all_eq_true.1 hk t ht
 obtain ⟨tn,tso,st,ne⟩:=t
 obtain ⟨an,kd,f,i,s,T,fl,is⟩:=a
 simp only at hn
 subst hn
 simp only [Bool.and_eq_true,Bool.or_eq_true,Bool.not_eq_true',decide_eq_false_iff_not,decide_eq_true_eq,List.contains_iff_mem] at h0
 obtain ⟨hp,h9,h10⟩:=h0
 simp only [pairsT,List.mem_cons,List.not_mem_nil,or_false,Prod.mk.injEq] at hp
 rcases hp with ⟨rfl,rfl⟩ | ⟨rfl,rfl⟩ | ⟨rfl,rfl⟩ | ⟨rfl,rfl⟩ | ⟨rfl,rfl⟩ | ⟨rfl,rfl⟩ | ⟨rfl,rfl⟩ | ⟨rfl,rfl⟩ | ⟨rfl,rfl⟩ | ⟨rfl,rfl⟩ | ⟨rfl,rfl⟩ | ⟨rfl,rfl⟩ | ⟨rfl,rfl⟩ | ⟨rfl,rfl⟩ | ⟨rfl,rfl⟩ | ⟨rfl,rfl⟩ | ⟨rfl,rfl⟩ | ⟨rfl,rfl⟩ | ⟨rfl,rfl⟩ | ⟨rfl,rfl⟩ | ⟨rfl,rfl⟩ | ⟨rfl,rfl⟩ | ⟨rfl,rfl⟩ | ⟨rfl,rfl⟩ | ⟨rfl,rfl⟩ | ⟨rfl,rfl⟩ | ⟨rfl,rfl⟩ | ⟨rfl,rfl⟩ | ⟨rfl,rfl⟩ | ⟨rfl,rfl⟩ | ⟨rfl,rfl⟩ | ⟨rfl,rfl⟩ | ⟨rfl,rfl⟩ | ⟨rfl,rfl⟩ | ⟨rfl,rfl⟩ | ⟨rfl,rfl⟩ | ⟨rfl,rfl⟩ | ⟨rfl,rfl⟩ | ⟨rfl,rfl⟩
 ·exact says_alpha_0 op kd f i s T fl is hw
 ·exact says_beta_0 op kd f i s T fl is hw
 ·exact says_epsilon_0 op kd f i s T fl is hw
 ·exact says_value_float_0 op kd f i s T fl is hw
 ·exact says_momentum_0 op kd f i s T fl is hw
 ·exact says_detect_negative_1 op kd f i s T fl is hw
 ·exact says_detect_positive_1 op kd f i s T fl is hw
 ·exact says_fmod_1 op kd f i s T fl is hw
 ·exact says_allowzero_1 op kd f i s T fl is hw
 ·exact says_keepdims_1 op kd f i s T fl is hw
 ·exact says_noop_with_empty_axes_1 op kd f i s T fl is hw
 ·exact says_select_last_index_1 op kd f i s T fl is hw
 ·exact says_transA_1 op kd f i s T fl is hw
 ·exact says_transB_1 op kd f i s T fl is hw
 ·exact says_ceil_mode_1 op kd f i s T fl is hw
 ·exact says_count_include_pad_1 op kd f i s T fl is hw
 ·exact says_training_mode_2 op kd f i s T fl is hw
 ·exact says_stash_type_3 op kd f i s T fl is hw
 ·exact says_axis_4 op kd f i s T fl is hw
 ·exact says_end_5 op kd f i s T fl is hw
 ·exact says_start_5 op kd f i s T fl is hw
 ·exact says_value_int_5 op kd f i s T fl is hw
 ·exact says_blocksize_6 op kd f i s T fl is hw
 ·exact says_group_6 op kd f i s T fl is hw
 ·exact says_to_7 op kd f i s T fl is hw
 ·exact says_reduction_8 op kd f i s T fl is hw
 ·obtain rfl:op = 53:=by have:=h9; omega
  exact says_mode_9 kd f i s T fl is hw
 ·obtain rfl:op = 63:=by have:=h10; omega
  exact says_mode_10 kd f i s T fl is hw
 ·exact says_auto_pad_11 op kd f i s T fl is hw
 ·exact says_value_12 op kd f i s T fl is hw
 ·exact says_value_13 op kd f i s T fl is hw
 ·exact says_value_floats_14 op kd f i s T fl is hw
 ·exact says_value_ints_15 op kd f i s T fl is hw
 ·exact says_perm_16 op kd f i s T fl is hw
 ·exact says_axes_17 op kd f i s T fl is hw
 ·exact says_dilations_18 op kd f i s T fl is hw
 ·exact says_kernel_shape_18 op kd f i s T fl is hw
 ·exact says_strides_18 op kd f i s T fl is hw
 ·exact says_pads_19 op kd f i s T fl is hw
theorem rule_says {op:Int} {a:AttrD} (hi:¬ atI (rowT op).2.2.2.2.2 a < 0) (hw:AtW a):ruleT (rowT op).2.2.2.2.2 a = saysR op ((rowT op).2.2.2.2.2.getD (atI (rowT op).2.2.2.2.2 a).toNat noAtD).2.1 a:=by
 unfold ruleT
 exact rows_says op _ (getD_mem8 (atI_in hi)) a (atI_of hi).symm hw
def cntN (l:List AttrD) (nm:Str):Nat:=(l.filter fun a => decide (a.1 = nm)).length
def findN (l:List AttrD) (nm:Str):Option AttrD:=l.find? fun a => decide (a.1 = nm)
def foundL (ats:List AtD) (l:List AttrD):List AttrD:=ats.filterMap fun t => findN l t.1
def rowOk (op:Int) (l:List AttrD) (t:AtD):Prop:=cntN l t.1 ≤ 1 ∧ (cntN l t.1 = 0 → t.2.2.2 ≠ 1) ∧ ∀ a,findN l t.1 = some a → ∃ w,saysR op t.2.1 a = some w
theorem find_mem {l:List AttrD} {nm:Str} {a:AttrD} (h:findN l nm = some a):a ∈ l ∧ a.1 = nm:=⟨List.mem_of_find?_eq_some h,by have:=List.find?_some h; simpa using this⟩
theorem nodup_cnt:∀ (l:List AttrD) (nm:Str),(l.map fun a => a.1).Nodup → cntN l nm ≤ 1
 | [],nm,_ => by simp [cntN]
 | a :: r,nm,h => by
   rw [List.map_cons,List.nodup_cons] at h
   unfold cntN
   rw [List.filter_cons]
   split
   ·rename_i e
    simp only [decide_eq_true_eq] at e
    have:r.filter (fun a => decide (a.1 = nm)) = []:=List.filter_eq_nil_iff.2 fun x hx => by
     simp only [decide_eq_true_eq]
     intro e2
     exact h.1 (List.mem_map.2 ⟨x,hx,by rw [e2,e]⟩)
    rw [this]; simp
   ·exact nodup_cnt r nm h.2
theorem cnt_zero {l:List AttrD} {nm:Str} (h:cntN l nm = 0):∀ a ∈ l,a.1 ≠ nm:=fun a ha e => by
 unfold cntN at h
 have:=List.filter_eq_nil_iff.1 (List.eq_nil_of_length_eq_zero h) a ha
 simp [e] at this
theorem fold_all {ats:List AtD}:∀ (l:List AttrD) (D0 D:SeD) (s0 sn:List Bool),s0.length = ats.length → l.foldl (stepS ats) (some (D0,s0)) = some (D,sn) →
  (∀ a ∈ l,∃ w,ruleT ats a = some w) ∧ ∀ i,sn.getD i false = true → s0.getD i false = true ∨ ∃ a ∈ l,¬ atI ats a < 0 ∧ (atI ats a).toNat = i
 | [],D0,D,s0,sn,hl,h => by
   simp only [List.foldl_nil,Option.some.injEq,Prod.mk.injEq] at h
   obtain ⟨h1,h2⟩:=h
   subst h1 h2
   exact ⟨fun a ha => (by cases ha),fun i h => .inl h⟩
 | a :: r,D0,D,s0,sn,hl,h => by
   simp only [List.foldl_cons] at h
   by_cases hb:BadS ats s0 a
   ·rw [step_bad hb,fold_none] at h; cases h
   obtain ⟨b1,b2,lb,b3⟩:=not_bad hb
   rw [step_good b1 b2 b3] at h
   obtain ⟨i1,i2⟩:=fold_all r _ _ _ _ (by rw [List.length_set]; exact hl) h
   refine ⟨fun x hx => ?_,fun i hi => ?_⟩
   ·rcases List.mem_cons.1 hx with e | e
    ·rw [e]; exact ⟨lb,b3⟩
    ·exact i1 x e
   ·rcases i2 i hi with h1 | ⟨x,hx,h2⟩
    ·rw [getD_set8 _ _ _ (by rw [hl]; exact atI_in b1)] at h1
     split at h1
     ·rename_i e; exact .inr ⟨a,List.mem_cons_self,b1,e⟩
     ·exact .inl h1
    ·exact .inr ⟨x,List.mem_cons_of_mem _ hx,h2⟩
theorem idxI_has {α:Type} (P:α → Bool) (l:List α) (h:∃ x ∈ l,P x = true):0 ≤ idxI P l:=by
 have h1:=idxI_ge P l
 by_cases h2:idxI P l = -1
 ·obtain ⟨x,hx,hp⟩:=h
  have h3:=idxI_no P l h2
  rw [List.any_eq_false] at h3
  exact absurd hp (h3 x hx)
 ·omega
theorem map_inj8 {α β:Type} {f:α → β}:∀ {l:List α},(l.map f).Nodup → ∀ {x y:α},x ∈ l → y ∈ l → f x = f y → x = y
 | [],_,x,y,hx,_,_ => by cases hx
 | a :: r,hn,x,y,hx,hy,e => by
   rw [List.map_cons,List.nodup_cons] at hn
   rcases List.mem_cons.1 hx with h1 | h1 <;> rcases List.mem_cons.1 hy with h2 | h2
   ·rw [h1,h2]
   ·subst h1; exact absurd (List.mem_map.2 ⟨y,h2,e.symm⟩) hn.1
   ·subst h2; exact absurd (List.mem_map.2 ⟨x,h1,e⟩) hn.1
   ·exact map_inj8 hn.2 h1 h2 e
theorem idx_at {ats:List AtD} (hn:(ats.map fun a => a.1).Nodup) {t:AtD} (ht:t ∈ ats) {a:AttrD} (e:a.1 = t.1):¬ atI ats a < 0 ∧ ats.getD (atI ats a).toNat noAtD = t:=by
 have h0:0 ≤ atI ats a:=by
  unfold atI
  exact idxI_has _ ats ⟨t,ht,by simp [e]⟩
 have h1:¬ atI ats a < 0:=by omega
 refine ⟨h1,?_⟩
 have h2:=atI_of h1
 have h3:=getD_mem8 (atI_in h1)
 generalize ats.getD (atI ats a).toNat noAtD = u at h2 h3
 exact map_inj8 hn h3 ht (h2.trans e)
theorem ok_of_set {op:Int} {l:List AttrD} {D:SeD} (hw:∀ a ∈ l,AtW a) (h:settingV (rowT op).2.2.2.2.2 l = some D):∀ t ∈ (rowT op).2.2.2.2.2,rowOk op l t:=by
 obtain ⟨sn,h1,h2,h3⟩:=set_parts h
 have hn:=set_names (rowT_nodup op) h
 obtain ⟨g1,g2⟩:=fold_all l _ _ _ _ (by simp) (show l.foldl (stepS (rowT op).2.2.2.2.2) (some (standD (rowT op).2.2.2.2.2,List.replicate (rowT op).2.2.2.2.2.length false)) = some (D,sn) from h1)
 intro t ht
 refine ⟨nodup_cnt l _ hn.2,fun hc ht1 => ?_,fun a ha => ?_⟩
 ·obtain ⟨j,hj,e⟩:=List.getElem_of_mem ht
  have:=List.any_eq_false.1 h2 j (List.mem_range.2 hj)
  simp only [needB,Bool.and_eq_true,decide_eq_true_eq,Bool.not_eq_true',not_and,Bool.not_eq_false] at this
  have ej:(rowT op).2.2.2.2.2.getD j noAtD = t:=by rw [List.getD_eq_getElem?_getD,List.getElem?_eq_getElem hj,e]; rfl
  rw [ej] at this
  rcases g2 j (this ht1) with h4 | ⟨x,hx,h5,h6⟩
  ·simp only [List.getD_eq_getElem?_getD,List.getElem?_replicate] at h4
   split at h4 <;> simp at h4
  ·have h7:=atI_of h5
   rw [h6,ej] at h7
   exact cnt_zero hc x hx h7.symm
 ·obtain ⟨ha1,ha2⟩:=find_mem ha
  obtain ⟨w,hw2⟩:=g1 a ha1
  obtain ⟨i1,i2⟩:=idx_at (rowT_nodup op) ht ha2
  rw [rule_says i1 (hw a ha1),i2] at hw2
  exact ⟨w,hw2⟩
def refD (op:Int) (ats:List AtD) (l:List AttrD) (n:Nat):SeD:=(foundL (ats.take n) l).foldl (fun D a => updL D (setL op a)) (standD ats)
theorem says_some {op so:Int} {a:AttrD} {w:List (Nat × FV)} (h:saysR op so a = some w):w = setL op a:=by
 unfold saysR at h
 split at h
 ·simp only [Option.some.injEq] at h; exact h.symm
 ·cases h
theorem found_step (ats:List AtD) (l:List AttrD) {n:Nat} (h:n < ats.length):foundL (ats.take (n + 1)) l = foundL (ats.take n) l ++ (findN l (ats.getD n noAtD).1).toList:=by
 unfold foundL
 rw [List.take_add_one,List.getElem?_eq_getElem h,List.filterMap_append,List.getD_eq_getElem?_getD,List.getElem?_eq_getElem h]
 simp only [Option.toList_some,Option.getD_some,List.filterMap_cons,List.filterMap_nil]
 cases findN l ats[n].1 <;> rfl
theorem refD_step (op:Int) (ats:List AtD) (l:List AttrD) {n:Nat} (h:n < ats.length):refD op ats l (n + 1) = match findN l (ats.getD n noAtD).1 with
  | none => refD op ats l n
  | some a => updL (refD op ats l n) (setL op a):=by
 unfold refD
 rw [found_step ats l h,List.foldl_append]
 cases findN l (ats.getD n noAtD).1 <;> rfl
theorem getD_inj8 {ats:List AtD} (hn:(ats.map fun a => a.1).Nodup) {i j:Nat} (hi:i < ats.length) (hj:j < ats.length) (e:ats.getD i noAtD = ats.getD j noAtD):i = j:=by
 have key:∀ i j:Nat,i < j → j < ats.length → ats.getD i noAtD ≠ ats.getD j noAtD:=fun i j hij hj e => by
  have hi:i < ats.length:=by omega
  have h1:=List.pairwise_iff_getElem.1 hn i j (by simpa using hi) (by simpa using hj) hij
  simp only [List.getElem_map] at h1
  simp only [List.getD_eq_getElem?_getD,List.getElem?_eq_getElem hi,List.getElem?_eq_getElem hj,Option.getD_some] at e
  exact h1 (by rw [e])
 rcases Nat.lt_trichotomy i j with h | h | h
 ·exact absurd e (key i j h hj)
 ·exact h
 ·exact absurd e.symm (key j i h hi)
theorem getD_rep8 (n i:Nat):(List.replicate n false).getD i false = false:=by
 simp only [List.getD_eq_getElem?_getD,List.getElem?_replicate]
 split <;> rfl
theorem fold_found {op:Int} {l:List AttrD} (hw:∀ a ∈ l,AtW a) (hok:∀ t ∈ (rowT op).2.2.2.2.2,rowOk op l t):∀ n,n ≤ (rowT op).2.2.2.2.2.length →
  ∃ sn,(foundL ((rowT op).2.2.2.2.2.take n) l).foldl (stepS (rowT op).2.2.2.2.2) (some (standD (rowT op).2.2.2.2.2,List.replicate (rowT op).2.2.2.2.2.length false)) = some (refD op (rowT op).2.2.2.2.2 l n,sn) ∧ sn.length = (rowT op).2.2.2.2.2.length ∧
    (∀ i,n ≤ i → sn.getD i false = false) ∧ ∀ i,i < n → sn.getD i false = (findN l ((rowT op).2.2.2.2.2.getD i noAtD).1).isSome
 | 0,_ => ⟨_,rfl,by simp,fun i _ => getD_rep8 _ _,fun i h => absurd h (by omega)⟩
 | n + 1,hn => by
   obtain ⟨sn,h1,h2,h3,h4⟩:=fold_found hw hok n (by omega)
   have hlt:n < (rowT op).2.2.2.2.2.length:=by omega
   have hs:=refD_step op (rowT op).2.2.2.2.2 l hlt
   have ht:=getD_mem8 hlt
   rw [found_step _ _ hlt,List.foldl_append,h1]
   cases hf:findN l ((rowT op).2.2.2.2.2.getD n noAtD).1 with
   | none =>
     rw [hf] at hs
     refine ⟨sn,by rw [hs]; rfl,h2,fun i hi => h3 i (by omega),fun i hi => ?_⟩
     by_cases e:i = n
     ·rw [e,hf]; exact h3 n (Nat.le_refl _)
     ·exact h4 i (by omega)
   | some a =>
     rw [hf] at hs
     obtain ⟨ha1,ha2⟩:=find_mem hf
     obtain ⟨i1,i2⟩:=idx_at (rowT_nodup op) ht ha2
     have ei:(atI (rowT op).2.2.2.2.2 a).toNat = n:=getD_inj8 (rowT_nodup op) (atI_in i1) hlt i2
     obtain ⟨w,hw2⟩:=(hok _ ht).2.2 a hf
     have hr:=rule_says i1 (hw a ha1)
     rw [i2,hw2,says_some hw2] at hr
     have hg:=step_good (D:=refD op (rowT op).2.2.2.2.2 l n) (sn:=sn) i1 (by rw [ei,h3 n (Nat.le_refl _)]; decide) hr
     rw [ei] at hg
     refine ⟨sn.set n true,by rw [hs]; exact hg,by rw [List.length_set]; exact h2,fun i hi => ?_,fun i hi => ?_⟩
     ·rw [getD_set8 _ _ _ (by rw [h2]; exact hlt),if_neg (by omega)]; exact h3 i (by omega)
     ·rw [getD_set8 _ _ _ (by rw [h2]; exact hlt)]
      by_cases e:n = i
      ·rw [if_pos e,← e,hf]; rfl
      ·rw [if_neg e]; exact h4 i (by omega)
theorem sub_perm {α:Type} [DecidableEq α]:∀ (m l:List α),m.Nodup → (∀ x ∈ m,x ∈ l) → m.length = l.length → l.Perm m
 | [],l,_,_,h => by
   have:l = []:=List.eq_nil_of_length_eq_zero (by simpa using h.symm)
   rw [this]
 | a :: r,l,hn,hs,hl => by
   rw [List.nodup_cons] at hn
   have ha:a ∈ l:=hs a List.mem_cons_self
   have h1:=List.perm_cons_erase ha
   refine h1.trans (List.Perm.cons a (sub_perm r (l.erase a) hn.2 (fun x hx => ?_) ?_))
   ·have hne:x ≠ a:=fun e => by subst e; exact hn.1 hx
    exact (List.mem_erase_of_ne hne).2 (hs x (List.mem_cons_of_mem _ hx))
   ·have:=h1.length_eq
    simp only [List.length_cons] at this hl
    omega
theorem found_nodup {ats:List AtD} (hn:(ats.map fun a => a.1).Nodup) (l:List AttrD):(foundL ats l).Nodup:=by
 unfold foundL
 refine List.pairwise_filterMap.2 ((List.pairwise_map.1 hn).imp fun {t t'} hne b hb b' hb' e => hne ?_)
 rw [← (find_mem hb).2,← (find_mem hb').2,e]
theorem found_sub {ats:List AtD} {l:List AttrD} {a:AttrD} (h:a ∈ foundL ats l):a ∈ l:=by
 obtain ⟨t,_,e⟩:=List.mem_filterMap.1 h
 exact (find_mem e).1
theorem len_of_set {op:Int} {l:List AttrD} {D:SeD} (h:settingV (rowT op).2.2.2.2.2 l = some D):(foundL (rowT op).2.2.2.2.2 l).length = l.length:=by
 have hn:=(set_names (rowT_nodup op) h).2
 obtain ⟨sn,h1,_,_⟩:=set_parts h
 obtain ⟨_,h2,_⟩:=fold_seen _ l _ _ _ _ (by simp) (show l.foldl (stepS (rowT op).2.2.2.2.2) (some (standD (rowT op).2.2.2.2.2,List.replicate (rowT op).2.2.2.2.2.length false)) = some (D,sn) from h1)
 have hl:l.Nodup:=(List.pairwise_map.1 hn).imp fun {a b} hne e => hne (by rw [e])
 refine ((List.perm_ext_iff_of_nodup (found_nodup (rowT_nodup op) l) hl).2 fun a => ⟨found_sub,fun ha => ?_⟩).length_eq
 have hi:¬ atI (rowT op).2.2.2.2.2 a < 0:=Int.not_lt.2 (h2 a ha).1
 have ht:=getD_mem8 (atI_in hi)
 have he:=atI_of hi
 refine List.mem_filterMap.2 ⟨_,ht,?_⟩
 cases hf:findN l ((rowT op).2.2.2.2.2.getD (atI (rowT op).2.2.2.2.2 a).toNat noAtD).1 with
 | none =>
   exact absurd (decide_eq_true he.symm) (List.find?_eq_none.1 hf a ha)
 | some b =>
   obtain ⟨hb1,hb2⟩:=find_mem hf
   rw [map_inj8 hn hb1 ha (hb2.trans he)]
theorem set_of_ok {op:Int} {l:List AttrD} (hw:∀ a ∈ l,AtW a) (hok:∀ t ∈ (rowT op).2.2.2.2.2,rowOk op l t) (hlen:(foundL (rowT op).2.2.2.2.2 l).length = l.length) (ho:op ≠ 61 ∨ l.length = 1) :
  settingV (rowT op).2.2.2.2.2 l = if (refD op (rowT op).2.2.2.2.2 l (rowT op).2.2.2.2.2.length 24).x = 0 ∨ (l.any fun a => decide (a.1 = [112,97,100,115])) = false then some (refD op (rowT op).2.2.2.2.2 l (rowT op).2.2.2.2.2.length) else none:=by
 have hp:l.Perm (foundL (rowT op).2.2.2.2.2 l):=@sub_perm _ (fun a b => Classical.propDecidable (a = b)) _ _ (found_nodup (rowT_nodup op) l) (fun x => found_sub) hlen
 have e0:settingV (rowT op).2.2.2.2.2 l = settingV (rowT op).2.2.2.2.2 (foundL (rowT op).2.2.2.2.2 l):=by
  rcases ho with ho | ho
  ·exact set_perm (rows_so _) (rows_apart _ ho) hp
  ·match l,ho with
   | [x],_ => exact congrArg (settingV _) (List.singleton_perm.1 hp)
 have e2:(l.any fun a => decide (a.1 = [112,97,100,115])) = ((foundL (rowT op).2.2.2.2.2 l).any fun a => decide (a.1 = [112,97,100,115])):=hp.any_eq
 obtain ⟨sn,h1,h2,_,h4⟩:=fold_found hw hok _ (Nat.le_refl _)
 rw [List.take_length] at h1
 have hneed:(List.range (rowT op).2.2.2.2.2.length).any (needB (rowT op).2.2.2.2.2 sn) = false:=by
  rw [List.any_eq_false]
  intro i hi he
  have hi2:=List.mem_range.1 hi
  simp only [needB,Bool.and_eq_true,decide_eq_true_eq,Bool.not_eq_true'] at he
  have h5:=h4 i hi2
  rw [he.2] at h5
  have h6:=(hok _ (getD_mem8 hi2)).2.1
  refine h6 ?_ he.1
  have h7:findN l ((rowT op).2.2.2.2.2.getD i noAtD).1 = none:=by
   cases hf:findN l ((rowT op).2.2.2.2.2.getD i noAtD).1 with
   | none => rfl
   | some b => rw [hf] at h5; cases h5
  unfold cntN
  rw [List.filter_eq_nil_iff.2 (fun a ha => by have:=List.find?_eq_none.1 h7 a ha; exact this)]
  rfl
 rw [e0,e2]
 unfold settingV
 rw [show foldS (rowT op).2.2.2.2.2 (foundL (rowT op).2.2.2.2.2 l) = some (refD op (rowT op).2.2.2.2.2 l (rowT op).2.2.2.2.2.length,sn) from h1]
 simp only
 rw [if_neg (by rw [hneed]; decide)]
end Go.Proofs.Ytnmciappielkcaa
