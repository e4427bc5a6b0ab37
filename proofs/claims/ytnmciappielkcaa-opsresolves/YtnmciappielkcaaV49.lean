import Derived.Test.YtnmciappielkcaaV38
import Derived.Test.YtnmciappielkcaaV46
import Derived.Test.YtnmciappielkcaaV47
import Derived.Test.YtnmciappielkcaaV48
set_option maxRecDepth 100000
set_option maxHeartbeats 8000000
namespace Go.Proofs.Ytnmciappielkcaa
open Go.RowKit
set_option linter.unusedVariables false
set_option linter.unusedSimpArgs false
theorem find_idx8 {α:Type} (P:α → Bool) (z:α):∀ (l:List α) (n:Nat),idxI P l = (n:Int) → l.find? P = some (l.getD n z)
 | [],n,h => by
   have h2:(-1:Int) = n:=h
   omega
 | x :: r,n,h => by
   unfold idxI at h
   by_cases hx:P x = true
   ·rw [if_pos hx] at h
    have:n = 0:=by omega
    subst this
    simp [hx]
   ·rw [if_neg hx] at h
    have hx2:P x = false:=by simpa using hx
    have h1:=idxI_ge P r
    by_cases h3:idxI P r = -1
    ·rw [if_pos h3] at h; omega
    ·rw [if_neg h3] at h
     obtain ⟨m,rfl⟩:∃ m,n = m + 1:=⟨n - 1,by omega⟩
     have:=find_idx8 P z r m (by omega)
     rw [List.find?_cons,hx2,this]
     simp
theorem cnt_d8 (l:List AtA) (nm:Str):cntN (l.map AtA.d) nm = cntA l nm:=by
 unfold cntN cntA
 rw [List.filter_map,List.length_map]
 rfl
theorem find_cases8 (l:List AtA) (nm:Str):(findI l nm = -2 ∧ 2 ≤ cntN (l.map AtA.d) nm) ∨ (findI l nm = -1 ∧ cntN (l.map AtA.d) nm = 0 ∧ findN (l.map AtA.d) nm = none) ∨ ∃ j:Nat,findI l nm = j ∧ j < l.length ∧ cntN (l.map AtA.d) nm = 1 ∧ (l.getD j noAtA).nm = nm ∧ findN (l.map AtA.d) nm = some (l.getD j noAtA).d:=by
 by_cases h2:2 ≤ cntA l nm
 ·exact .inl ⟨if_pos h2,by rw [cnt_d8]; exact h2⟩
 ·have e:findI l nm = nmI l nm:=if_neg h2
  have hf:∀ o,l.find? (fun a:AtA => decide (a.nm = nm)) = o → findN (l.map AtA.d) nm = o.map AtA.d:=fun o ho => by
   unfold findN
   rw [List.find?_map,← ho]
   rfl
  by_cases hi:nmI l nm = -1
  ·have ha:=idxI_no _ l hi
   refine .inr (.inl ⟨e.trans hi,?_,?_⟩)
   ·rw [cnt_d8]
    unfold cntA
    rw [List.filter_eq_nil_iff.2 (fun a h => by have:=List.any_eq_false.1 ha a h; exact this)]
    rfl
   ·exact hf none (List.find?_eq_none.2 (fun a h => by have:=List.any_eq_false.1 ha a h; exact this))
  ·have h0:0 ≤ nmI l nm:=by
    have:=idxI_ge (fun a:AtA => decide (a.nm = nm)) l
    unfold nmI at hi ⊢
    omega
   obtain ⟨n,hn,hlt,hp,_⟩:=idxI_lt _ noAtA l h0
   refine .inr (.inr ⟨n,e.trans hn,hlt,?_,of_decide_eq_true hp,hf _ (find_idx8 _ noAtA l n hn)⟩)
   rw [cnt_d8]
   have:=nmI_cnt l nm h0
   omega
theorem found_names8 {ats:List AtD} (hn:(ats.map fun a => a.1).Nodup) (l:List AttrD):((foundL ats l).map fun a => a.1).Nodup:=by
 unfold foundL
 refine List.pairwise_map.2 (List.pairwise_filterMap.2 ((List.pairwise_map.1 hn).imp fun {t t'} hne b hb b' hb' e => hne ?_))
 rw [← (find_mem hb).2,← (find_mem hb').2]
 exact e
theorem perm_cnt8 {ats:List AtD} {l:List AttrD} (hn:(ats.map fun a => a.1).Nodup) (hlen:(foundL ats l).length = l.length) (nm:Str):cntN l nm ≤ 1:=by
 have hp:l.Perm (foundL ats l):=@sub_perm _ (fun a b => Classical.propDecidable (a = b)) _ _ (found_nodup hn l) (fun x => found_sub) hlen
 have:cntN l nm = cntN (foundL ats l) nm:=by
  unfold cntN
  exact (hp.filter _).length_eq
 rw [this]
 exact nodup_cnt _ nm (found_names8 hn l)
theorem any_cnt8 (l:List AttrD) (nm:Str):(l.any fun a => decide (a.1 = nm)) = decide (cntN l nm ≠ 0):=by
 by_cases h:cntN l nm = 0
 ·rw [decide_eq_false (fun hn => hn h),List.any_eq_false]
  intro a ha
  simpa using cnt_zero h a ha
 ·rw [decide_eq_true h,List.any_eq_true]
  unfold cntN at h
  obtain ⟨x,hx⟩:=List.exists_mem_of_length_pos (Nat.pos_of_ne_zero h)
  exact ⟨x,(List.mem_filter.1 hx).1,(List.mem_filter.1 hx).2⟩
theorem not_ok8 {op:Int} {l:List AttrD} (hw:∀ a ∈ l,AtW a) {t:AtD} (ht:t ∈ (rowT op).2.2.2.2.2) (h:¬ rowOk op l t):settingV (rowT op).2.2.2.2.2 l = none:=by
 cases e:settingV (rowT op).2.2.2.2.2 l with
 | none => rfl
 | some D => exact absurd (ok_of_set hw e t ht) h
theorem not_len8 {op:Int} {l:List AttrD} (h:(foundL (rowT op).2.2.2.2.2 l).length ≠ l.length):settingV (rowT op).2.2.2.2.2 l = none:=by
 cases e:settingV (rowT op).2.2.2.2.2 l with
 | none => rfl
 | some D => exact absurd (len_of_set e) h
theorem rows_map8 (op:Int):rowsR op = (rowT op).2.2.2.2.2.map fun t => (t.1,sortS t.2.1,decide (t.2.2.2 = 1)):=by
 by_cases h:1 ≤ op ∧ op ≤ 80
 ·have:=List.all_eq_true.1 rows_sorts (op - 1).toNat (List.mem_range.2 (by omega))
  rw [show (((op - 1).toNat:Nat):Int) + 1 = op by omega] at this
  exact of_decide_eq_true this
 ·unfold rowsR rowT
  rw [if_neg h,if_neg h]
  rfl
theorem within_len8 {l:List Int} {m lo hi:Int} (h:withinR l m lo hi = true):(l.length:Int) ≤ m:=by
 unfold withinR at h
 rw [Bool.and_eq_true] at h
 exact of_decide_eq_true h.1
theorem pairs_small:pairsT.all (fun p => (!(intsN.contains p.1) || (decide (p.2 = 15) || decide (p.2 = 16) || decide (p.2 = 17) || decide (p.2 = 18) || decide (p.2 = 19))) && (!(decide (p.1 = [118,97,108,117,101,95,102,108,111,97,116,115])) || decide (p.2 = 14))) = true:=by kernel_rfl
theorem may_ints {op:Int} {nm:Str} {so:Int} {a:AttrD} (h:so = 15 ∨ so = 16 ∨ so = 17 ∨ so = 18 ∨ so = 19) (hm:mayR op nm so a = true):a.2.2.2.2.2.2.2.length ≤ 4096:=by
 rcases h with rfl | rfl | rfl | rfl | rfl
 ·exact of_decide_eq_true (show decide (a.2.2.2.2.2.2.2.length ≤ 4096) = true from hm)
 ·have:=within_len8 (show withinR a.2.2.2.2.2.2.2 8 0 7 = true from hm); omega
 ·have:=within_len8 (show withinR a.2.2.2.2.2.2.2 8 (-8) 8 = true from hm); omega
 ·have:=within_len8 (show withinR a.2.2.2.2.2.2.2 8 1 4096 = true from hm); omega
 ·have:=within_len8 (show withinR a.2.2.2.2.2.2.2 16 0 4096 = true from hm); omega
theorem small_may8 {op:Int} {t:AtD} (ht:t ∈ (rowT op).2.2.2.2.2) {a:AtA} (hn:a.nm = t.1) (hm:mayR op t.1 t.2.1 a.d = true):smallA a:=by
 have hop:1 ≤ op ∧ op ≤ 80:=Classical.byContradiction fun h => by
  unfold rowT at ht
  rw [if_neg h] at ht
  simp [noRowD] at ht
 have hk:=List.all_eq_true.1 rows_pairs (op - 1).toNat (List.mem_range.2 (by omega))
 rw [show (((op - 1).toNat:Nat):Int) + 1 = op by omega] at hk
 have h0:=List.all_eq_true.1 hk t ht
 rw [Bool.and_eq_true] at h0
 have h1:=List.all_eq_true.1 pairs_small _ (List.contains_iff_mem.1 h0.1)
 simp only [Bool.and_eq_true,Bool.or_eq_true,Bool.not_eq_true',decide_eq_true_eq,decide_eq_false_iff_not] at h1
 refine ⟨fun hi => ?_,fun hv => ?_⟩
 ·rcases h1.1 with h2 | h2
  ·rw [hn] at hi
   rw [List.contains_iff_mem.2 hi] at h2
   cases h2
  ·exact may_ints (by omega) hm
 ·rcases h1.2 with h2 | h2
  ·exact absurd (hn.symm.trans hv) h2
  ·rw [h2] at hm
   exact of_decide_eq_true (show decide (a.fl.length ≤ 4096) = true from hm)
theorem atW8 {B:Nat} {w:World} {a:AtA} (h:AtIn B w a):AtW a.d:=by
 have h1:=h.2.2.1
 have h2:=h.2.2.2.1
 have h3:=h.2.2.2.2.2.2.2.1.2.2.1
 simp only [Lit.wf,IntKind.min,IntKind.max,IntKind.signed,IntKind.bits,Bool.and_eq_true,decide_eq_true_eq] at h1 h2
 refine ⟨by have:=h1; simp at this; exact this.1,by have:=h1; simp at this; show a.f < _; omega,by have:=h2; simp at this; exact this.1,by have:=h2; simp at this; show a.i ≤ _; omega,fun x hx => ?_⟩
 have:=h3 x hx
 simp [Lit.wf,IntKind.min,IntKind.max,IntKind.signed,IntKind.bits] at this
 exact ⟨this.1,by omega⟩
theorem ok_step8 {op:Int} {ats:List AtD} {l:List AttrD} {n:Nat} (h:n < ats.length) (h0:∀ t ∈ ats.take n,rowOk op l t) (h1:rowOk op l (ats.getD n noAtD)):∀ t ∈ ats.take (n + 1),rowOk op l t:=by
 intro t ht
 rw [List.take_add_one,List.getElem?_eq_getElem h,List.mem_append] at ht
 rcases ht with ht | ht
 ·exact h0 t ht
 ·simp only [Option.toList_some,List.mem_singleton] at ht
  rw [ht]
  rw [List.getD_eq_getElem?_getD,List.getElem?_eq_getElem h] at h1
  exact h1
theorem getD_map8 {ats:List AtD} {n:Nat} (h:n < ats.length) (f:AtD → RrD) (z:RrD):(ats.map f).getD n z = f (ats.getD n noAtD):=by
 simp only [List.getD_eq_getElem?_getD,List.getElem?_map,List.getElem?_eq_getElem h]
 rfl
theorem says_kd {op so:Int} {a:AttrD} (h1:a.2.1 = (bndT.getD so.toNat (0,0,0,0)).1) (h2:mayR op a.1 so a = true):∃ w,saysR op so a = some w:=⟨_,if_pos ⟨h1,h2⟩⟩
theorem says_no {op so:Int} {a:AttrD} (h:¬ (a.2.1 = (bndT.getD so.toNat (0,0,0,0)).1 ∧ mayR op a.1 so a = true)):saysR op so a = none:=if_neg h
def isStoreB (o:Oper) (t:TypeId):Bool:=match o.op with
 | .store u _ _ => u == t
 | _ => false
def isLoadB (o:Oper) (t:TypeId):Bool:=match o.op with
 | .load u _ => u == t
 | _ => false
theorem wpList_isStore {w:World} {ops:Array Oper} {rest:List Oper} {o:Oper} {a:Act} {Q:Exit → Act → World → Prop} (t:TypeId) (h:isStoreB o t = true) (k:wpList Try.prog ops Q (o :: rest) a w):wpList Try.prog ops Q (o :: rest) a w:=k
theorem wpList_isLoad {w:World} {ops:Array Oper} {rest:List Oper} {o:Oper} {a:Act} {Q:Exit → Act → World → Prop} (t:TypeId) (h:isLoadB o t = true) (k:wpList Try.prog ops Q (o :: rest) a w):wpList Try.prog ops Q (o :: rest) a w:=k
theorem aggRow8:AggT 61 3:=fun w => ⟨by kernel_rfl,by kernel_rfl⟩
theorem lit_pads:strOfNums [112,97,100,115] = { data:=#[112,97,100,115] }:=by kernel_rfl
theorem SeV.low8 {B B':Nat} {w:World} {cs:Array Value} {D:SeD} (h:SeV B w cs D) (hB:B' ≤ B) (h2:2 ≤ B):SeV B' w cs D:=(SeIn.low h hB (g':=0) (by omega)).val
end Go.Proofs.Ytnmciappielkcaa
