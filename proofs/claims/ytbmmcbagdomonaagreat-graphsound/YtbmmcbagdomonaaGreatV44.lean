import Derived.Test.YtbmmcbagdomonaaGreatV42
import Derived.Test.YtbmmcbagdomonaaGreatV43
set_option maxRecDepth 100000
set_option maxHeartbeats 40000000
namespace Go.Proofs.YtbmmcbagdomonaaGreat
open Go.RowKit
set_option linter.unusedVariables false
set_option linter.unusedSimpArgs false
theorem range_cons9 (a:Int) (n:Nat):rangeG a (n + 1) = a :: rangeG (a + 1) n:=by
 unfold rangeG
 rw [List.range_succ_eq_map,List.map_cons,List.map_map]
 refine congr (congrArg _ (by simp)) (List.map_congr_left (fun k _ => ?_))
 simp only [Function.comp]
 have:((Nat.succ k:Nat):Int) = (k:Int) + 1:=by omega
 rw [this]; omega
theorem addsG_cons {P L:List Str} {s:Str} {r:List Str} (h:addsG (some P) (s :: r) = some L):findG P s < 0 ∧ s ≠ [] ∧ addsG (some (P ++ [s])) r = some L:=by
 cases e:addG P s with
 | none =>
   have:addsG (some P) (s :: r) = addsG none r:=by show List.foldl addO (addG P s) r = _; rw [e]; rfl
   rw [this,addO_none] at h; cases h
 | some L1 =>
   have:addsG (some P) (s :: r) = addsG (some L1) r:=by show List.foldl addO (addG P s) r = _; rw [e]; rfl
   rw [this] at h
   have h1:=addG_some e
   rw [h1.1] at h
   exact ⟨h1.2.2,h1.2.1,h⟩
theorem link_range:∀ (l:List Str) {P L1 R:List Str},addsG (some P) l = some L1 → l.map (findG (L1 ++ R)) = rangeG P.length l.length
 | [],P,L1,R,h => rfl
 | s :: r,P,L1,R,h => by
   obtain ⟨h1,_,h3⟩:=addsG_cons h
   have e1:=addsG_some r h3
   rw [List.map_cons,List.length_cons,range_cons9,link_range r h3,List.length_append]
   have:findG (L1 ++ R) s = P.length:=by
    rw [e1,List.append_assoc,List.append_assoc]
    exact findG_at h1
   rw [this,show ((P.length + [s].length:Nat):Int) = (P.length:Int) + 1 from rfl]
def linksG (L:List Str):Nat → List NodeD → List GnD
 | _,[] => []
 | i,n :: r => linkG L i n :: linksG L (i + 1) r
theorem outs_cons {o:Option (List Str)} {n:NodeD} {r:List NodeD}:outsG o (n :: r) = outsG (addsG o n.2.2.2.1) r:=rfl
theorem links_nodes:∀ (l:List NodeD) {P L1 R:List Str} (i:Nat),outsG (some P) l = some L1 → linksG (L1 ++ R) i l = nodesG (L1 ++ R) P.length i l
 | [],P,L1,R,i,h => rfl
 | n :: r,P,L1,R,i,h => by
   rw [outs_cons] at h
   cases e:addsG (some P) n.2.2.2.1 with
   | none => rw [e,outs_none] at h; cases h
   | some P1 =>
     rw [e] at h
     have e1:=addsG_some _ e
     have e2:=outsG_some r h
     have h2:=links_nodes r (R:=R) (i + 1) h
     show linkG (L1 ++ R) i n :: linksG (L1 ++ R) (i + 1) r = nodeG (L1 ++ R) P.length i n :: nodesG (L1 ++ R) ((P.length:Int) + n.2.2.2.1.length) (i + 1) r
     rw [h2]
     have h3:n.2.2.2.1.map (findG (L1 ++ R)) = rangeG P.length n.2.2.2.1.length:=by
      rw [e2,List.append_assoc]
      exact link_range _ e
     have h4:linkG (L1 ++ R) i n = nodeG (L1 ++ R) P.length i n:=by
      unfold linkG nodeG
      rw [h3]
     rw [h4,e1,List.length_append]
     rfl
theorem head_some {m:ModelD} {L0:List Str} (h:headG m = some L0):L0 = (m.2.2.2.1.map fun c => c.1) ++ (m.2.2.2.2.1.map fun v => v.1):=by
 unfold headG at h
 cases e:addsG (some []) (m.2.2.2.1.map fun c => c.1) with
 | none => rw [e,addO_none] at h; cases h
 | some L1 =>
   rw [e] at h
   rw [addsG_some _ h,addsG_some _ e]
   rfl
theorem links_all {m:ModelD} {L:List Str} (h:outsG (headG m) m.2.2.1 = some L):linksG L 0 m.2.2.1 = nodesG L (baseG m) 0 m.2.2.1:=by
 cases e:headG m with
 | none => rw [e,outs_none] at h; cases h
 | some L0 =>
   rw [e] at h
   have:=links_nodes m.2.2.1 (R:=[]) 0 h
   rw [List.append_nil] at this
   rw [this,head_some e]
   unfold baseG
   rw [List.length_append,List.length_map,List.length_map]
   rfl
theorem vals_len {m:ModelD} {L:List Str} (h:outsG (headG m) m.2.2.1 = some L):(valsG m).length = L.length:=by
 cases e:headG m with
 | none => rw [e,outs_none] at h; cases h
 | some L0 =>
   rw [e] at h
   rw [outsG_some _ h,head_some e]
   unfold valsG
   simp only [List.length_append,List.length_map,List.length_flatMap]
   refine congrArg _ (congrArg List.sum (List.map_congr_left (fun n _ => ?_)))
   unfold putG
   rw [List.length_map]
theorem mix_links {L:List Str} {nodes:List NoA} {l:List GnA} (h:mixG L nodes.length nodes l):l.map GnA.d = linksG L 0 (nodes.map NoA.d):=by
 have key:∀ (N:List NodeD) (k:Nat) (D:List GnD),D.length = N.length → (∀ i,i < N.length → D[i]? = some (linkG L (k + i) (N.getD i ([],[],[],[],[])))) → D = linksG L k N:=by
  intro N
  induction N with
  | nil => intro k D h1 h2; exact List.eq_nil_of_length_eq_zero h1
  | cons n r ih =>
    intro k D h1 h2
    cases D with
    | nil => simp at h1
    | cons d D =>
      have h0:=h2 0 (by simp)
      simp only [List.getElem?_cons_zero,Option.some.injEq,Nat.add_zero] at h0
      have:=ih (k + 1) D (by simpa using h1) (fun i hi => by
       have:=h2 (i + 1) (by simpa using hi)
       simp only [List.getElem?_cons_succ] at this
       rw [this,show k + (i + 1) = k + 1 + i by omega]
       rfl)
      rw [this,h0]
      rfl
 refine key _ 0 _ (by rw [List.length_map,List.length_map]; exact h.1) (fun i hi => ?_)
 rw [List.length_map] at hi
 have h1:=h.2 i hi
 rw [if_pos hi] at h1
 rw [List.getElem?_map,List.getElem?_eq_getElem (by rw [h.1]; exact hi),Option.map_some,Nat.zero_add,getD_map9 NoA.d nodes noNoA _ hi,← h1,List.getD_eq_getElem?_getD,List.getElem?_eq_getElem (by rw [h.1]; exact hi)]
 rfl
theorem firstG_true (P:Nat → Bool):∀ (k n i:Nat),firstG P k n = some i → P i = true
 | 0,n,i,h => by cases h
 | k + 1,n,i,h => by
   unfold firstG at h
   by_cases g:P n = true
   ·rw [if_pos g] at h; cases h; exact g
   ·rw [if_neg g] at h; exact firstG_true P k (n + 1) i h
theorem build_steps (m:ModelD):buildV m =
  if checkM m ≠ 0 then (noGr,checkM m,-1) else
  if (resdV m.2.2.1).1 ≠ 0 then (noGr,resdV m.2.2.1) else
  if (namedV m).1 ≠ 0 then (noGr,namedV m) else
  match outsG (headG m) m.2.2.1 with
  | none => (noGr,13,-1)
  | some L => if (linkV L m.2.2.1 m.2.2.2.2.2).1 ≠ 0 then (noGr,linkV L m.2.2.1 m.2.2.2.2.2) else
    if (ordV (rowG m L)).1 ≠ 0 then (noGr,ordV (rowG m L)) else (⟨valsG m,(rowG m L).1,inpG m,m.2.2.2.2.2.map fun v => findG L v.1⟩,0,0):=by
 unfold buildV
 by_cases c0:checkM m ≠ 0
 ·rw [if_pos c0,if_pos c0]
 rw [if_neg c0,if_neg c0]
 cases h1:firstG (fun i => decide ((resV (m.2.2.1.getD i ([],[],[],[],[]))).2.2 ≠ 0)) m.2.2.1.length 0 with
 | some i =>
   have e:resdV m.2.2.1 = ((resV (m.2.2.1.getD i ([],[],[],[],[]))).2.2,(i:Int)):=by unfold resdV; rw [h1]
   have g:=firstG_true _ _ _ _ h1
   simp only [decide_eq_true_eq] at g
   rw [e,if_pos g]
 | none =>
   have e:resdV m.2.2.1 = (0,0):=by unfold resdV; rw [h1]
   rw [e,if_neg (by simp)]
   cases h2:headG m with
   | none => rw [named_head h2,if_pos (by decide)]
   | some L0 =>
     simp only
     rw [← h2]
     cases h3:firstG (fun i => (outsG (headG m) (m.2.2.1.take (i + 1))).isNone) m.2.2.1.length 0 with
     | some i =>
       have e:namedV m = (13,(i:Int)):=by unfold namedV; rw [h2]; simp only; rw [← h2,h3]
       rw [e,if_pos (by show (13:Int) ≠ 0; decide)]
     | none =>
       have e:namedV m = (0,0):=by unfold namedV; rw [h2]; simp only; rw [← h2,h3]
       rw [e,if_neg (by simp)]
       cases h4:outsG (headG m) m.2.2.1 with
       | none => rfl
       | some L =>
         simp only
         cases h5:firstG (fun i => !insG L (m.2.2.1.getD i ([],[],[],[],[])).2.2.1) m.2.2.1.length 0 with
         | some i =>
           have e:linkV L m.2.2.1 m.2.2.2.2.2 = (13,(i:Int)):=by unfold linkV; rw [h5]
           rw [e]
           simp only
           rw [if_pos (show (13:Int) ≠ 0 by decide)]
         | none =>
           have e:linkV L m.2.2.1 m.2.2.2.2.2 = if (m.2.2.2.2.2.all fun v => decide (0 ≤ findG L v.1)) = true then (0,0) else (13,-1):=by unfold linkV; rw [h5]
           rw [e]
           simp only
           by_cases h6:(m.2.2.2.2.2.all fun v => decide (0 ≤ findG L v.1)) = true
           ·rw [if_pos h6,if_neg (by rw [h6]; decide),if_neg (by simp)]
            unfold ordV
            cases h7:(rowG m L).2 with
            | nil => rfl
            | cons n r => rfl
           ·rw [if_neg h6,if_pos (by simpa using h6),if_pos (by show (13:Int) ≠ 0; decide)]
theorem tab_outs9:∀ x ∈ tabT,1 ≤ x.2.2.2.1:=by
 have h:tabT.all (fun x => decide (1 ≤ x.2.2.2.1)) = true:=by kernel_rfl
 intro x hx
 simpa using List.all_eq_true.1 h x hx
theorem row61:(rowT 61).2.2.2.2.1 = 1:=by kernel_rfl
theorem row_outs9 {op:Int} (h:op ≠ 0) (h1:0 ≤ op ∧ op ≤ 80):1 ≤ (rowT op).2.2.2.1:=by
 unfold rowT
 rw [if_pos ⟨by omega,h1.2⟩]
 refine tab_outs9 _ ?_
 rw [List.getD_eq_getElem?_getD,List.getElem?_eq_getElem (by rw [tab_len9]; omega)]
 exact List.getElem_mem _
theorem res_shape {n:NodeD} (h:(resV n).2.2 = 0):0 < n.2.2.2.1.length ∧ ((resV n).1 = 61 → n.2.2.2.1.length = 1) ∧ ∀ s ∈ n.2.2.2.1,s ≠ []:=by
 have hl:=numT_le n.1
 unfold resV at h ⊢
 by_cases h0:numT n.1 = 0
 ·rw [if_pos h0] at h; exact absurd h (by show ¬ (7:Int) = 0; decide)
 rw [if_neg h0] at h ⊢
 by_cases ht:takesB (rowT (numT n.1)).2.1 (rowT (numT n.1)).2.2.1 (rowT (numT n.1)).2.2.2.1 (rowT (numT n.1)).2.2.2.2.1 n.2.2.1 n.2.2.2.1 = false
 ·rw [if_pos ht] at h; exact absurd h (by show ¬ (1:Int) = 0; decide)
 rw [if_neg ht]
 rw [Bool.not_eq_false] at ht
 have ht':=ht
 unfold takesB at ht'
 simp only [Bool.and_eq_true,decide_eq_true_eq,Bool.not_eq_true',List.any_eq_false,decide_eq_true_eq] at ht'
 have h1:=row_outs9 h0 hl
 refine ⟨by omega,fun e => ?_,fun s hs => ht'.2 s hs⟩
 have e61:numT n.1 = 61:=by
  revert e
  split
  ·intro e; exact absurd e (by show ¬ (0:Int) = 61; decide)
  ·split
   ·intro e; exact absurd e (by show ¬ (0:Int) = 61; decide)
   ·intro e; exact e
 rw [e61,row61] at ht'
 rw [e61] at h1
 have:1 ≤ (rowT 61).2.2.2.1:=h1
 omega
theorem resd_all {l:List NodeD} (h:(resdV l).1 = 0):∀ i,i < l.length → (resV (l.getD i ([],[],[],[],[]))).2.2 = 0:=by
 intro i hi
 cases e:firstG (fun i => decide ((resV (l.getD i ([],[],[],[],[]))).2.2 ≠ 0)) l.length 0 with
 | some j =>
   have:=firstG_true _ _ _ _ e
   simp only [decide_eq_true_eq] at this
   unfold resdV at h
   rw [e] at h
   exact absurd h this
 | none =>
   have key:∀ (P:Nat → Bool) (k n:Nat),firstG P k n = none → ∀ i,n ≤ i → i < n + k → P i = false:=by
    intro P k
    induction k with
    | zero => intro n _ i h1 h2; omega
    | succ k ih =>
      intro n h i h1 h2
      unfold firstG at h
      by_cases g:P n = true
      ·rw [if_pos g] at h; cases h
      ·rw [if_neg g] at h
       by_cases e:i = n
       ·subst e; simpa using g
       ·exact ih (n + 1) h i (by omega) (by omega)
   have:=key _ _ _ e i (Nat.zero_le _) (by omega)
   simpa using this
theorem res_nodes {x:MoA} (h:(resdV (x.nodes.map NoA.d)).1 = 0):∀ n ∈ x.nodes,(resV n.d).2.2 = 0:=by
 intro n hn
 obtain ⟨i,hi,e⟩:=List.getElem_of_mem hn
 have:=resd_all h i (by rw [List.length_map]; exact hi)
 rw [getD_map9 NoA.d x.nodes noNoA _ hi,List.getD_eq_getElem?_getD,List.getElem?_eq_getElem hi,Option.getD_some,e] at this
 exact this
theorem ok8_of {x:MoA} (hs:MoSm x):∀ n ∈ x.nodes,∀ a ∈ n.at',okT8 a.T:=by
 intro n hn a ha
 have h1:=(hs.2.1 n hn).2.2.2.2.2 a ha
 obtain ⟨⟨_,_,_,_,d1,d2,d3,d4⟩,_⟩:=h1
 unfold okT8
 omega
theorem adds_ne:∀ (l:List Str) {P L:List Str},addsG (some P) l = some L → ∀ s ∈ l,s ≠ []
 | [],P,L,h => fun s hs => by cases hs
 | s :: r,P,L,h => fun t ht => by
   obtain ⟨_,h2,h3⟩:=addsG_cons h
   rcases List.mem_cons.1 ht with e | e
   ·rw [e]; exact h2
   ·exact adds_ne r h3 t e
theorem outs_ne:∀ (l:List NodeD) {P L:List Str},outsG (some P) l = some L → ∀ s ∈ l.flatMap fun n => n.2.2.2.1,s ≠ []
 | [],P,L,h => fun s hs => by cases hs
 | n :: r,P,L,h => fun s hs => by
   rw [outs_cons] at h
   cases e:addsG (some P) n.2.2.2.1 with
   | none => rw [e,outs_none] at h; cases h
   | some P1 =>
     rw [e] at h
     rw [List.flatMap_cons,List.mem_append] at hs
     rcases hs with g | g
     ·exact adds_ne _ e s g
     ·exact outs_ne r h s g
theorem head_ne {m:ModelD} {L0:List Str} (h:headG m = some L0):¬ [] ∈ L0:=by
 unfold headG at h
 cases e:addsG (some []) (m.2.2.2.1.map fun c => c.1) with
 | none => rw [e,addO_none] at h; cases h
 | some L1 =>
   rw [e] at h
   intro hm
   rw [addsG_some _ h,addsG_some _ e,List.mem_append,List.mem_append] at hm
   rcases hm with (g | g) | g
   ·cases g
   ·exact adds_ne _ e _ g rfl
   ·exact adds_ne _ h _ g rfl
theorem all_names {m:ModelD} {L:List Str} (h:outsG (headG m) m.2.2.1 = some L):∃ L0,headG m = some L0 ∧ L = L0 ++ m.2.2.1.flatMap fun n => n.2.2.2.1:=by
 cases e:headG m with
 | none => rw [e,outs_none] at h; cases h
 | some L0 => rw [e] at h; exact ⟨L0,rfl,outsG_some _ h⟩
theorem names_ne {m:ModelD} {L:List Str} (h:outsG (headG m) m.2.2.1 = some L):¬ [] ∈ L:=by
 obtain ⟨L0,e0,e1⟩:=all_names h
 rw [e0] at h
 intro hm
 rw [e1,List.mem_append] at hm
 rcases hm with g | g
 ·exact head_ne e0 g
 ·exact outs_ne _ h _ g rfl
theorem findG_mem {L:List Str} {s:Str} (h:s ∈ L):0 ≤ findG L s:=by
 by_cases g:findG L s < 0
 ·exact absurd h (findG_no.1 g)
 ·omega
theorem names_in {m:ModelD} {L:List Str} (h:outsG (headG m) m.2.2.1 = some L):∀ n ∈ m.2.2.1,∀ s ∈ n.2.2.2.1,0 ≤ findG L s:=by
 obtain ⟨L0,e0,e1⟩:=all_names h
 intro n hn s hs
 refine findG_mem ?_
 rw [e1]
 exact List.mem_append.2 (.inr (List.mem_flatMap.2 ⟨n,hn,hs⟩))
theorem sum_le9 (l:List Nat) (k:Nat) (h:∀ x ∈ l,x ≤ k):l.sum ≤ l.length * k:=by
 induction l with
 | nil => simp
 | cons a r ih =>
   have:=ih (fun x hx => h x (List.mem_cons_of_mem _ hx))
   have h0:=h a List.mem_cons_self
   rw [List.sum_cons,List.length_cons,Nat.succ_mul]
   omega
theorem names_len {x:MoA} {L:List Str} (hs:Sm9 x) (h:outsG (headG x.d) x.d.2.2.1 = some L):L.length ≤ 100000:=by
 obtain ⟨L0,e0,e1⟩:=all_names h
 obtain ⟨_,s1,s2,s3,_,s5⟩:=hs
 have a1:x.d.2.2.2.1.length = x.inits.length:=List.length_map _
 have a2:x.d.2.2.2.2.1.length = x.inp.length:=List.length_map _
 have a3:x.d.2.2.1.length = x.nodes.length:=List.length_map _
 rw [e1,List.length_append,head_some e0,List.length_append,List.length_map,List.length_map,a1,a2,List.length_flatMap]
 have:(x.d.2.2.1.map fun n => n.2.2.2.1.length).sum ≤ (x.d.2.2.1.map fun n => n.2.2.2.1.length).length * 64:=sum_le9 _ _ (fun k hk => by
  obtain ⟨n,hn,rfl⟩:=List.mem_map.1 hk
  obtain ⟨n',hn',rfl⟩:=List.mem_map.1 hn
  exact (s5 n' hn').2)
 rw [List.length_map,a3] at this
 omega
theorem filter_rest (l:List GnA):(l.filter keepG).map GnA.d = restG (l.map GnA.d):=by
 induction l with
 | nil => rfl
 | cons a r ih =>
   unfold restG at ih ⊢
   by_cases h:a.op = 61
   ·rw [List.filter_cons_of_neg (by rw [keep_no h]; decide),List.map_cons,List.filter_cons_of_neg (by simp [GnA.d,h]),ih]
   ·rw [List.filter_cons_of_pos (keep_yes h),List.map_cons,List.map_cons,List.filter_cons_of_pos (by simp [GnA.d,h]),ih]
theorem inp_in (m:ModelD):∀ v ∈ inpG m,0 ≤ v ∧ v < ((valsG m).length:Int):=by
 intro v hv
 unfold inpG rangeG at hv
 obtain ⟨k,hk,rfl⟩:=List.mem_map.1 hv
 have:=List.mem_range.1 hk
 unfold valsG
 simp only [List.length_append,List.length_map]
 omega
theorem findG_in (L:List Str) (s:Str):findG L s = -1 ∨ (0 ≤ findG L s ∧ findG L s < (L.length:Int)):=by
 by_cases h:0 ≤ findG L s
 ·obtain ⟨n,e,h1,_⟩:=findG_lt h
  right; omega
 ·left; have:=findG_ge L s; omega
theorem links_mem:∀ (l:List NodeD) (L:List Str) (i:Nat),∀ d ∈ linksG L i l,∃ n ∈ l,∃ k,d = linkG L k n
 | [],L,i,d,hd => by cases hd
 | n :: r,L,i,d,hd => by
   rcases List.mem_cons.1 hd with e | e
   ·exact ⟨n,List.mem_cons_self,i,e⟩
   ·obtain ⟨n',h1,k,h2⟩:=links_mem r L (i + 1) d e
    exact ⟨n',List.mem_cons_of_mem _ h1,k,h2⟩
theorem links_in {m:ModelD} {L:List Str} (h:outsG (headG m) m.2.2.1 = some L):∀ d ∈ nodesG L (baseG m) 0 m.2.2.1,(∀ v ∈ d.ins,v = -1 ∨ (0 ≤ v ∧ v < (L.length:Int))) ∧ ∀ v ∈ d.outs,0 ≤ v ∧ v < (L.length:Int):=by
 rw [← links_all h]
 intro d hd
 obtain ⟨n,hn,k,rfl⟩:=links_mem _ _ _ d hd
 refine ⟨fun v hv => ?_,fun v hv => ?_⟩
 ·obtain ⟨s,_,rfl⟩:=List.mem_map.1 hv
  exact findG_in L s
 ·obtain ⟨s,hs,rfl⟩:=List.mem_map.1 hv
  have h1:=names_in h n hn s hs
  rcases findG_in L s with e | e
  ·omega
  ·exact e
theorem given_len9 (vals:List ValG) (inp:List Int):(givenG vals inp).length = vals.length:=by
 unfold givenG
 suffices H:∀ (l:List Int) (b:List Bool),(l.foldl (fun l v => l.set v.toNat true) b).length = b.length by rw [H,List.length_map]
 intro l
 induction l with
 | nil => intro b; rfl
 | cons a r ih => intro b; rw [List.foldl_cons,ih,List.length_set]
section
variable (x:MoA) (B:Nat) (w:World) (h:MoIn B w x) (hc:checkM x.d = 0) (hr:(resdV x.d.2.2.1).1 = 0)
include h hc hr
theorem bnamed9 (v:World) (hv:Below w.heap.size w v) :
  Calls Tryz.prog 22 #[moV x] v fun e w' => ∃ mv,e = .returned (.tuple #[mv,.int .i64 (namedV x.d).1,.int .i64 (namedV x.d).2]) ∧ ((namedV x.d).1 = 0 → ∃ mb L,mv = .map (some mb) ∧ outsG (headG x.d) x.d.2.2.1 = some L ∧ v.heap.size ≤ mb ∧ NM w' mb L) ∧ Below v.heap.size v w' :=
 cnamed9_any x B v (h.below hv) (sm9_of hc) (fun n hn s hs => (res_shape (res_nodes hr n hn)).2.2 s hs)
theorem blinked9 (wa wc:World) (ha:Below w.heap.size w wa) (hb:Below wa.heap.size wa wc) (mb:Nat) (L:List Str) (hL:outsG (headG x.d) x.d.2.2.1 = some L) (hM:NM wc mb L) (v:Value) (LG:List GnA) (hO:OwnE 51 40 gnCells GnIn wa wc v LG) (hd:LG.map GnA.d = baresG 0 x.d.2.2.1) (hba:∀ y ∈ LG,Bare y) :
  Calls Tryz.prog 23 #[moV x,.map (some mb),v] wc fun e w' => ∃ mv,e = .returned (.tuple #[mv,.int .i64 (linkV L x.d.2.2.1 x.d.2.2.2.2.2).1,.int .i64 (linkV L x.d.2.2.1 x.d.2.2.2.2.2).2]) ∧
   ((linkV L x.d.2.2.1 x.d.2.2.2.2.2).1 = 0 → ∃ LG',OwnE 51 40 gnCells GnIn wa w' v LG' ∧ mixG L x.nodes.length x.nodes LG' ∧ RowI w' wc.heap.size mv (x.out.map fun o => findG L o.nm)) ∧ wc.grownBy w' v.ownBlock:=by
 have hr9:=hr
 exact clinked9_any x B wc wa (h.below ha) (sm9_of hc) mb L hM (Nat.le_trans (names_len (sm9_of hc) hL) (by omega)) (names_ne hL) (fun n hn s hs => names_in hL n.d (List.mem_map.2 ⟨n,hn,rfl⟩) s hs) hb v LG hO (mix_start hd) hba
theorem bvalues9 (wa wd:World) (ha:Below w.heap.size w wa) (hb:Below wa.heap.size wa wd) (L:List Str) (v:Value) (LG:List GnA) (hO:OwnE 51 40 gnCells GnIn wa wd v LG) (hm:mixG L x.nodes.length x.nodes LG) :
  Calls Tryz.prog 24 #[moV x,v] wd fun e w' => ∃ vv LV,e = .returned vv ∧ OwnE 59 8 vgCells VgIn wd w' vv LV ∧ LV.map VgA.d = valsG x.d :=
 cvalues9_any x B wd wa (h.below ha) (sm9_of hc) (sm9v_of hc) hb L v LG hO hm (fun n hn => ⟨(res_shape (res_nodes hr n hn)).1,(res_shape (res_nodes hr n hn)).2.1⟩)
end
theorem binputs9 (x:MoA) (v:World) (hc:checkM x.d = 0) :
  Calls Tryz.prog 25 #[moV x] v fun e w' => ∃ u,e = .returned u ∧ RowI w' v.heap.size u (inpG x.d) ∧ Below v.heap.size v w':=by
 have hs:=sm9_of hc
 have:=cinputs9_any x v hs.2.2.1 hs.2.2.2.1
 have e:inpG x.d = rangeG x.inits.length x.inp.length:=by
  unfold inpG MoA.d
  simp only [List.length_map]
 rw [e]
 exact this
theorem bresolved9 (x:MoA) (B:Nat) (w:World) (h:MoIn B w x) (hc:checkM x.d = 0) (v:World) (hv:Below w.heap.size w v) :
  Calls Tryz.prog 21 #[.slice x.qn x.nodes.length x.cn] v fun e w' => ∃ u,e = .returned (.tuple #[u,.int .i64 (resdV x.d.2.2.1).1,.int .i64 (resdV x.d.2.2.1).2]) ∧ ((resdV x.d.2.2.1).1 = 0 → ∃ L,OwnE 51 40 gnCells GnIn v w' u L ∧ L.map GnA.d = baresG 0 x.d.2.2.1 ∧ ∀ y ∈ L,Bare y) ∧ Below v.heap.size v w':=by
 have hs:=sm9_of hc
 have hx:=h.below hv
 exact cresolved9_any x.qn x.cn x.nodes B v hx.2.2.1.2.1 hx.2.2.1.1 (ok8_of hs.1) hs.2.1
theorem pick_some9:∀ (l:List GnD) (dl:List Bool) {x:GnD} {l':List GnD},pickG dl l = some (x,l') → readyG dl x.ins = true ∧ l.Perm (x :: l')
 | [],dl,x,l',h => by cases h
 | n :: r,dl,x,l',h => by
   unfold pickG at h
   by_cases g:readyG dl n.ins = true
   ·rw [if_pos g] at h
    cases h
    exact ⟨g,.refl _⟩
   ·rw [if_neg g] at h
    cases e:pickG dl r with
    | none => rw [e] at h; cases h
    | some p =>
      obtain ⟨y,k⟩:=p
      rw [e] at h
      cases h
      obtain ⟨h1,h2⟩:=pick_some9 r dl e
      exact ⟨h1,(List.Perm.cons n h2).trans (List.Perm.swap _ _ _)⟩
theorem kahn_ind (P:List Bool → List GnD → List GnD → Prop) (hstep:∀ dl row rem x l',P dl row rem → pickG dl rem = some (x,l') → P (defG dl x.outs) (row ++ [x]) l') :
  ∀ (k:Nat) (dl:List Bool) (row rem:List GnD),rem.length ≤ k → P dl row rem → ∃ dl',P dl' (kahnG k dl row rem).1 (kahnG k dl row rem).2 ∧ pickG dl' (kahnG k dl row rem).2 = none
 | 0,dl,row,rem,hk,h => by
   have:rem = []:=List.eq_nil_of_length_eq_zero (by omega)
   subst this
   exact ⟨dl,h,rfl⟩
 | k + 1,dl,row,rem,hk,h => by
   cases e:pickG dl rem with
   | none => rw [kahn_none e]; exact ⟨dl,h,e⟩
   | some p =>
     obtain ⟨x,l'⟩:=p
     rw [kahn_some e]
     have:=pick_len rem dl e
     exact kahn_ind P hstep k _ _ _ (by omega) (hstep _ _ _ _ _ h e)
theorem defG_get (outs:List Int):∀ (dl:List Bool) (v:Nat),(∀ u ∈ outs,0 ≤ u ∧ u < dl.length) → ((defG dl outs).getD v false = true ↔ (dl.getD v false = true ∨ (v:Int) ∈ outs)):=by
 induction outs with
 | nil => intro dl v h; simp [defG]
 | cons a r ih =>
   intro dl v h
   have e:defG dl (a :: r) = defG (dl.set a.toNat true) r:=rfl
   obtain ⟨a0,a1⟩:=h a List.mem_cons_self
   rw [e,ih (dl.set a.toNat true) v (fun u hu => by rw [List.length_set]; exact h u (List.mem_cons_of_mem _ hu)),List.mem_cons]
   have hx:((dl.set a.toNat true).getD v false = true) ↔ (dl.getD v false = true ∨ (v:Int) = a):=by
    rw [List.getD_eq_getElem?_getD,List.getD_eq_getElem?_getD,List.getElem?_set]
    by_cases g:a.toNat = v
    ·rw [if_pos g]
     have:a.toNat < dl.length:=by omega
     rw [if_pos this]
     simp; omega
    ·rw [if_neg g]
     have:¬ (v:Int) = a:=by omega
     simp [this]
   rw [hx,or_assoc]
theorem ready_iff (dl:List Bool) (ins:List Int):readyG dl ins = true ↔ ∀ v ∈ ins,v = -1 ∨ dl.getD v.toNat false = true:=by
 unfold readyG
 rw [List.all_eq_true]
 simp
structure KInv (dl:List Bool) (l:List GnD) (dl':List Bool) (row rem:List GnD):Prop where
 perm:(row ++ rem).Perm l
 len:dl'.length = dl.length
 is:∀ v:Nat,dl'.getD v false = true ↔ (dl.getD v false = true ∨ ∃ y ∈ row,(v:Int) ∈ y.outs)
theorem KInv.step {dl:List Bool} {l:List GnD} (hr:∀ x ∈ l,∀ v ∈ x.outs,0 ≤ v ∧ v < (dl.length:Int)) {dl':List Bool} {row rem:List GnD} {x:GnD} {l':List GnD} (h:KInv dl l dl' row rem) (e:pickG dl' rem = some (x,l')):KInv dl l (defG dl' x.outs) (row ++ [x]) l':=by
 obtain ⟨h1,h2⟩:=pick_some9 rem dl' e
 have hp:((row ++ [x]) ++ l').Perm l:=by
  rw [List.append_assoc]
  exact ((List.Perm.append_left row h2).symm).trans h.perm
 have hx:x ∈ l:=hp.subset (by simp)
 refine ⟨hp,by rw [defG_len]; exact h.len,fun v => ?_⟩
 rw [defG_get x.outs dl' v (fun u hu => by rw [h.len]; exact hr x hx u hu),h.is v,or_assoc]
 refine or_congr Iff.rfl ⟨?_,?_⟩
 ·rintro (⟨y,hy,hv⟩ | hv)
  ·exact ⟨y,List.mem_append.2 (.inl hy),hv⟩
  ·exact ⟨x,by simp,hv⟩
 ·rintro ⟨y,hy,hv⟩
  rcases List.mem_append.1 hy with g | g
  ·exact .inl ⟨y,g,hv⟩
  ·rw [List.mem_singleton] at g; subst g; exact .inr hv
theorem kahn_keeps (dl:List Bool) (l:List GnD) (hr:∀ x ∈ l,∀ v ∈ x.outs,0 ≤ v ∧ v < (dl.length:Int)):∃ dl',KInv dl l dl' (kahnG l.length dl [] l).1 (kahnG l.length dl [] l).2 ∧ pickG dl' (kahnG l.length dl [] l).2 = none :=
 kahn_ind (KInv dl l) (fun _ _ _ _ _ h e => h.step hr e) l.length dl [] l (Nat.le_refl _) ⟨.refl _,rfl,fun v => by simp⟩
def GiveN (m:ModelD) (s:Str):Prop:=s ∈ m.2.2.2.1.map (fun c => c.1) ∨ s ∈ m.2.2.2.2.1.map (fun v => v.1) ∨ ∃ n ∈ m.2.2.1,(resV n).1 = 61 ∧ s ∈ n.2.2.2.1
theorem links_at:∀ (l:List NodeD) (L:List Str) (k:Nat),∀ d,d ∈ linksG L k l ↔ ∃ i n,l[i]? = some n ∧ d = linkG L (k + i) n
 | [],L,k,d => by simp [linksG]
 | n :: r,L,k,d => by
   show d ∈ linkG L k n :: linksG L (k + 1) r ↔ _
   rw [List.mem_cons,links_at r L (k + 1) d]
   constructor
   ·rintro (e | ⟨i,n',h1,h2⟩)
    ·exact ⟨0,n,rfl,e⟩
    ·exact ⟨i + 1,n',by simpa using h1,by rw [h2]; congr 1; omega⟩
   ·rintro ⟨i,n',h1,h2⟩
    cases i with
    | zero => simp at h1; subst h1; exact .inl h2
    | succ i => exact .inr ⟨i,n',by simpa using h1,by rw [h2]; congr 1; omega⟩
theorem rest_at (l:List NodeD) (L:List Str) (d:GnD):d ∈ restG (linksG L 0 l) ↔ ∃ i n,l[i]? = some n ∧ d = linkG L i n ∧ (resV n).1 ≠ 61:=by
 unfold restG
 rw [List.mem_filter,links_at]
 simp only [Nat.zero_add,decide_eq_true_eq]
 constructor
 ·rintro ⟨⟨i,n,h1,rfl⟩,h2⟩
  exact ⟨i,n,h1,rfl,h2⟩
 ·rintro ⟨i,n,h1,rfl,h2⟩
  exact ⟨⟨i,n,h1,rfl⟩,h2⟩
theorem findG_inj {L:List Str} {s t:Str} (h:0 ≤ findG L s) (e:findG L s = findG L t):s = t:=by
 obtain ⟨n,h1,_,h2⟩:=findG_lt h
 obtain ⟨k,g1,_,g2⟩:=findG_lt (L:=L) (s:=t) (by omega)
 have:n = k:=by omega
 subst this
 exact h2.symm.trans g2
theorem adds_nodup:∀ (l:List Str) {P L:List Str},P.Nodup → addsG (some P) l = some L → L.Nodup
 | [],P,L,hp,h => by cases h; exact hp
 | s :: r,P,L,hp,h => by
   obtain ⟨h1,_,h3⟩:=addsG_cons h
   refine adds_nodup r ?_ h3
   rw [List.nodup_append]
   refine ⟨hp,by simp,fun a ha b hb => ?_⟩
   rw [List.mem_singleton] at hb
   subst hb
   intro e; subst e
   exact findG_no.1 h1 ha
theorem outs_adds:∀ (l:List NodeD) (o:Option (List Str)),outsG o l = addsG o (l.flatMap fun n => n.2.2.2.1)
 | [],o => rfl
 | n :: r,o => by
   rw [outs_cons,outs_adds r,List.flatMap_cons]
   unfold addsG
   rw [List.foldl_append]
theorem names_nodup {m:ModelD} {L:List Str} (h:outsG (headG m) m.2.2.1 = some L):L.Nodup:=by
 obtain ⟨L0,e0,e1⟩:=all_names h
 rw [e0,outs_adds] at h
 refine adds_nodup _ ?_ h
 unfold headG at e0
 cases e:addsG (some []) (m.2.2.2.1.map fun c => c.1) with
 | none => rw [e,addO_none] at e0; cases e0
 | some L1 =>
   rw [e] at e0
   exact adds_nodup _ (adds_nodup _ List.nodup_nil e) e0
theorem setAll_get (inp:List Int):∀ (dl:List Bool) (v:Nat),(∀ u ∈ inp,0 ≤ u ∧ u < dl.length) → ((inp.foldl (fun l v => l.set v.toNat true) dl).getD v false = true ↔ (dl.getD v false = true ∨ (v:Int) ∈ inp)):=fun dl v h => defG_get inp dl v h
theorem flat_at {α β γ:Type} (f:α → List β) (g:α → List γ):∀ (l:List α),(∀ n ∈ l,(g n).length = (f n).length) → ∀ (p:Nat) (s:β),(l.flatMap f)[p]? = some s → ∃ n ∈ l,s ∈ f n ∧ ∃ y ∈ g n,(l.flatMap g)[p]? = some y
 | [],_,p,s,h => by simp at h
 | n :: r,hl,p,s,h => by
   rw [List.flatMap_cons] at h ⊢
   have h0:=hl n List.mem_cons_self
   by_cases g1:p < (f n).length
   ·rw [List.getElem?_append_left g1] at h
    rw [List.getElem?_append_left (by omega)]
    refine ⟨n,List.mem_cons_self,List.mem_of_getElem? h,?_⟩
    rw [List.getElem?_eq_getElem (show p < (g n).length by omega)]
    exact ⟨_,List.getElem_mem _,rfl⟩
   ·rw [List.getElem?_append_right (by omega)] at h
    rw [List.getElem?_append_right (by omega)]
    obtain ⟨n',h1,h2,y,h3,h4⟩:=flat_at f g r (fun k hk => hl k (List.mem_cons_of_mem _ hk)) (p - (f n).length) s h
    exact ⟨n',List.mem_cons_of_mem _ h1,h2,y,h3,by rw [h0]; exact h4⟩
theorem flat_one9 {α β:Type} (f:α → List β):∀ (l:List α),(l.flatMap f).Nodup → ∀ n ∈ l,∀ k ∈ l,∀ s,s ∈ f n → s ∈ f k → n = k
 | [],_,n,hn,k,hk,s,h1,h2 => by cases hn
 | a :: r,hd,n,hn,k,hk,s,h1,h2 => by
   rw [List.flatMap_cons,List.nodup_append] at hd
   have hmem:∀ x ∈ r,s ∈ f x → s ∈ r.flatMap f:=fun x hx h => List.mem_flatMap.2 ⟨x,hx,h⟩
   rcases List.mem_cons.1 hn with e1 | e1 <;> rcases List.mem_cons.1 hk with e2 | e2
   ·rw [e1,e2]
   ·subst e1; exact absurd rfl (hd.2.2 s h1 s (hmem k e2 h2))
   ·subst e2; exact absurd rfl (hd.2.2 s h2 s (hmem n e1 h1))
   ·exact flat_one9 f r hd.2.1 n e1 k e2 s h1 h2
theorem findG_getElem {L:List Str} {s:Str} (h:0 ≤ findG L s):L[(findG L s).toNat]? = some s:=by
 obtain ⟨n,e,h1,h2⟩:=findG_lt h
 rw [e,Int.toNat_natCast,List.getElem?_eq_getElem h1]
 rw [List.getD_eq_getElem?_getD,List.getElem?_eq_getElem h1] at h2
 exact congrArg some h2
theorem given_get {m:ModelD} (v:Nat):(givenG (valsG m) (inpG m)).getD v false = true ↔ ((∃ y,(valsG m)[v]? = some y ∧ y.2.2.1 = true) ∨ (v:Int) ∈ inpG m):=by
 unfold givenG
 rw [setAll_get _ _ _ (fun u hu => by rw [List.length_map]; exact inp_in m u hu)]
 refine or_congr ?_ Iff.rfl
 rw [List.getD_eq_getElem?_getD,List.getElem?_map]
 cases (valsG m)[v]? with
 | none => simp
 | some y => simp
theorem inp_mem (m:ModelD) (v:Nat):(v:Int) ∈ inpG m ↔ m.2.2.2.1.length ≤ v ∧ v < m.2.2.2.1.length + m.2.2.2.2.1.length:=by
 unfold inpG rangeG
 rw [List.mem_map]
 constructor
 ·rintro ⟨k,hk,e⟩
  have:=List.mem_range.1 hk
  omega
 ·rintro ⟨h1,h2⟩
  exact ⟨v - m.2.2.2.1.length,List.mem_range.2 (by omega),by omega⟩
theorem given_names {m:ModelD} {L:List Str} (h:outsG (headG m) m.2.2.1 = some L):∀ s,0 ≤ findG L s → ((givenG (valsG m) (inpG m)).getD (findG L s).toNat false = true ↔ GiveN m s):=by
 intro s hs
 obtain ⟨L0,e0,e1⟩:=all_names h
 have e2:=head_some e0
 have hnd:=names_nodup h
 rw [e1,e2,List.append_assoc] at hnd
 have hat:=findG_getElem hs
 rw [given_get]
 obtain ⟨p,hp⟩:∃ p:Nat,(findG L s).toNat = p:=⟨_,rfl⟩
 rw [hp] at hat ⊢
 rw [inp_mem]
 rw [e1,e2,List.append_assoc] at hat
 obtain ⟨A,hA⟩:∃ A,m.2.2.2.1.map (fun c => c.1) = A:=⟨_,rfl⟩
 obtain ⟨B,hB⟩:∃ B,m.2.2.2.2.1.map (fun v => v.1) = B:=⟨_,rfl⟩
 obtain ⟨C,hC⟩:∃ C,(m.2.2.1.flatMap fun n => n.2.2.2.1) = C:=⟨_,rfl⟩
 have lA:A.length = m.2.2.2.1.length:=by rw [← hA,List.length_map]
 have lB:B.length = m.2.2.2.2.1.length:=by rw [← hB,List.length_map]
 rw [hA,hB,hC] at hat hnd
 unfold GiveN valsG
 rw [hA,hB,List.append_assoc]
 rw [List.nodup_append,List.nodup_append] at hnd
 obtain ⟨n1,⟨n2,n3,n4⟩,n5⟩:=hnd
 have hin:∀ n ∈ m.2.2.1,s ∈ n.2.2.2.1 → s ∈ C:=fun n hn hk => by rw [← hC]; exact List.mem_flatMap.2 ⟨n,hn,hk⟩
 by_cases c1:p < A.length
 ·rw [List.getElem?_append_left c1] at hat
  have hsA:=List.mem_of_getElem? hat
  rw [List.getElem?_append_left (by rw [List.length_map]; omega),List.getElem?_map,List.getElem?_eq_getElem (by omega)]
  exact ⟨fun _ => .inl hsA,fun _ => .inl ⟨_,rfl,rfl⟩⟩
 ·rw [List.getElem?_append_right (by omega)] at hat
  rw [List.getElem?_append_right (by rw [List.length_map]; omega),List.length_map]
  by_cases c2:p - A.length < B.length
  ·rw [List.getElem?_append_left c2] at hat
   have hsB:=List.mem_of_getElem? hat
   exact ⟨fun _ => .inr (.inl hsB),fun _ => .inr (by omega)⟩
  ·rw [List.getElem?_append_right (by omega)] at hat
   rw [List.getElem?_append_right (by rw [List.length_map]; omega),List.length_map]
   have hsC:=List.mem_of_getElem? hat
   have h0:¬ (m.2.2.2.1.length ≤ p ∧ p < m.2.2.2.1.length + m.2.2.2.2.1.length):=by omega
   have hnA:¬ s ∈ A:=fun hk => n5 s hk s (List.mem_append.2 (.inr hsC)) rfl
   have hnB:¬ s ∈ B:=fun hk => n4 s hk s hsC rfl
   rw [← hC] at hat
   obtain ⟨n,hn,hsn,y,hy,hat2⟩:=flat_at (fun n:NodeD => n.2.2.2.1) putG m.2.2.1 (fun n _ => by unfold putG; rw [List.length_map]) _ s hat
   have hcy:y.2.2.1 = true ↔ (resV n).1 = 61:=by
    unfold putG at hy
    obtain ⟨t,_,rfl⟩:=List.mem_map.1 hy
    by_cases c:(resV n).1 = 61
    ·rw [if_pos c]; simp [constG,c]
    ·rw [if_neg c]; simp [emptyG,c]
   rw [show p - m.2.2.2.1.length - m.2.2.2.2.1.length = p - A.length - B.length by omega,hat2]
   constructor
   ·rintro (⟨y',e,hc⟩ | hc)
    ·cases e
     exact .inr (.inr ⟨n,hn,hcy.1 hc,hsn⟩)
    ·exact absurd hc h0
   ·rintro (hc | hc | ⟨k,hk,ho,hsk⟩)
    ·exact absurd hc hnA
    ·exact absurd hc hnB
    ·have:n = k:=flat_one9 (fun n:NodeD => n.2.2.2.1) m.2.2.1 (by rw [hC]; exact n3) n hn k hk s hsn hsk
     subst this
     exact .inl ⟨y,rfl,hcy.2 ho⟩
theorem firstG_some_lt (P:Nat → Bool):∀ (k n i:Nat),firstG P k n = some i → n ≤ i ∧ i < n + k
 | 0,n,i,h => by cases h
 | k + 1,n,i,h => by
   unfold firstG at h
   by_cases g:P n = true
   ·rw [if_pos g] at h; cases h; omega
   ·rw [if_neg g] at h
    have:=firstG_some_lt P k (n + 1) i h
    omega
theorem firstG_none_iff (P:Nat → Bool) (k:Nat):firstG P k 0 = none ↔ ∀ i,i < k → P i = false:=by
 constructor
 ·have key:∀ (k n:Nat),firstG P k n = none → ∀ i,n ≤ i → i < n + k → P i = false:=by
   intro k
   induction k with
   | zero => intro n h i h1 h2; omega
   | succ k ih =>
     intro n h i h1 h2
     unfold firstG at h
     by_cases g:P n = true
     ·rw [if_pos g] at h; cases h
     ·rw [if_neg g] at h
      rcases Nat.eq_or_lt_of_le h1 with e | e
      ·subst e; simpa using g
      ·exact ih (n + 1) h i e (by omega)
  intro h i hi
  exact key k 0 h i (Nat.zero_le _) (by omega)
 ·intro h
  exact firstG_none P k 0 (fun i _ h2 => h i (by omega))
theorem all_at {α:Type} (l:List α) (z:α) (P:α → Prop):(∀ i,i < l.length → P (l.getD i z)) ↔ ∀ x ∈ l,P x:=by
 constructor
 ·intro h x hx
  obtain ⟨i,hi,e⟩:=List.mem_iff_getElem.1 hx
  have:=h i hi
  rw [List.getD_eq_getElem?_getD,List.getElem?_eq_getElem hi] at this
  rw [← e]; exact this
 ·intro h i hi
  exact h _ (getD_mem9 hi)
theorem restG_in {m:ModelD} {L:List Str} (h:outsG (headG m) m.2.2.1 = some L):(∀ x ∈ restG (nodesG L (baseG m) 0 m.2.2.1),∀ v ∈ x.outs,0 ≤ v ∧ v < ((givenG (valsG m) (inpG m)).length:Int)) ∧ ∀ x ∈ restG (nodesG L (baseG m) 0 m.2.2.1),∀ v ∈ x.ins,v = -1 ∨ (0 ≤ v ∧ v < ((givenG (valsG m) (inpG m)).length:Int)):=by
 rw [given_len9,vals_len h]
 exact ⟨fun x hx => (links_in h x (List.mem_filter.1 hx).1).2,fun x hx => (links_in h x (List.mem_filter.1 hx).1).1⟩
theorem build_ok {m:ModelD} (L:List Str) (h0:checkM m = 0) (h1:∀ n ∈ m.2.2.1,(resV n).2.2 = 0) (hL:outsG (headG m) m.2.2.1 = some L) (h2:∀ n ∈ m.2.2.1,insG L n.2.2.1 = true) (h3:∀ v ∈ m.2.2.2.2.2,v.1 ∈ L) :
  buildV m = match (rowG m L).2 with
   | n :: _ => (noGr,12,n.src)
   | [] => (⟨valsG m,(rowG m L).1,inpG m,m.2.2.2.2.2.map fun v => findG L v.1⟩,0,0):=by
 unfold buildV
 rw [if_neg (by rw [h0]; simp)]
 rw [(firstG_none_iff _ _).2 (fun i hi => by
  have:=(all_at m.2.2.1 ([],[],[],[],[]) (fun n => (resV n).2.2 = 0)).2 h1 i hi
  try simp only at this
  rw [this]; simp)]
 obtain ⟨L0,e0,e1⟩:=all_names hL
 rw [e0]
 try simp only
 rw [(firstG_none_iff _ _).2 (fun i hi => by
  rw [e0] at hL
  cases e:outsG (some L0) (m.2.2.1.take (i + 1)) with
  | some k => rfl
  | none => rw [outs_cut _ _ _ e] at hL; cases hL)]
 rw [e0] at hL
 rw [hL]
 try simp only
 rw [(firstG_none_iff _ _).2 (fun i hi => by
  have:=(all_at m.2.2.1 ([],[],[],[],[]) (fun n => insG L n.2.2.1 = true)).2 h2 i hi
  try simp only at this
  rw [this]; rfl)]
 try simp only
 rw [if_neg (by
  rw [Bool.not_eq_false,List.all_eq_true]
  intro v hv
  simpa using findG_mem (h3 v hv))]
 cases (rowG m L).2 <;> rfl
theorem build_no {m:ModelD} (h:(buildV m).2.1 = 0):checkM m = 0 ∧ (∀ n ∈ m.2.2.1,(resV n).2.2 = 0) ∧ ∃ L,outsG (headG m) m.2.2.1 = some L ∧ (∀ n ∈ m.2.2.1,insG L n.2.2.1 = true) ∧ ∀ v ∈ m.2.2.2.2.2,v.1 ∈ L:=by
 unfold buildV at h
 by_cases c0:checkM m ≠ 0
 ·rw [if_pos c0] at h; exact absurd h c0
 rw [if_neg c0] at h
 refine ⟨by simpa using c0,?_⟩
 cases f1:firstG (fun i => decide ((resV (m.2.2.1.getD i ([],[],[],[],[]))).2.2 ≠ 0)) m.2.2.1.length 0 with
 | some i =>
   rw [f1] at h
   have:=firstG_true _ _ _ _ f1
   simp only [decide_eq_true_eq] at this
   exact absurd h this
 | none =>
 rw [f1] at h
 refine ⟨(all_at m.2.2.1 ([],[],[],[],[]) (fun n => (resV n).2.2 = 0)).1 (fun i hi => by simpa using (firstG_none_iff _ _).1 f1 i hi),?_⟩
 cases f2:headG m with
 | none => rw [f2] at h; cases h
 | some L0 =>
 rw [f2] at h
 simp only at h
 cases f3:firstG (fun i => (outsG (some L0) (m.2.2.1.take (i + 1))).isNone) m.2.2.1.length 0 with
 | some i => rw [f3] at h; cases h
 | none =>
 rw [f3] at h
 simp only at h
 cases f4:outsG (some L0) m.2.2.1 with
 | none => rw [f4] at h; cases h
 | some L =>
 rw [f4] at h
 simp only at h
 refine ⟨L,rfl,?_⟩
 cases f5:firstG (fun i => !insG L (m.2.2.1.getD i ([],[],[],[],[])).2.2.1) m.2.2.1.length 0 with
 | some i => rw [f5] at h; cases h
 | none =>
 rw [f5] at h
 simp only at h
 refine ⟨(all_at m.2.2.1 ([],[],[],[],[]) (fun n => insG L n.2.2.1 = true)).1 (fun i hi => by simpa using (firstG_none_iff _ _).1 f5 i hi),?_⟩
 by_cases c6:(m.2.2.2.2.2.all fun v => decide (0 ≤ findG L v.1)) = false
 ·rw [if_pos c6] at h; cases h
 ·rw [Bool.not_eq_false,List.all_eq_true] at c6
  intro v hv
  have:=c6 v hv
  simp only [decide_eq_true_eq] at this
  by_cases q:v.1 ∈ L
  ·exact q
  ·have:=findG_no.2 q; omega
theorem build_lens {m:ModelD} (h:(buildV m).2.1 = 0):(buildV m).1.nodes.length = (m.2.2.1.filter fun n => decide ((resV n).1 ≠ 61)).length ∧ (buildV m).1.vals.length = m.2.2.2.1.length + m.2.2.2.2.1.length + (m.2.2.1.map fun n => n.2.2.2.1.length).sum:=by
 obtain ⟨h0,h1,L,hL,h2,h3⟩:=build_no h
 have hb:=build_ok L h0 h1 hL h2 h3
 rw [hb] at h ⊢
 cases e:(rowG m L).2 with
 | cons a r => rw [e] at h; cases h
 | nil =>
   simp only
   refine ⟨?_,?_⟩
   ·obtain ⟨r1,r2⟩:=restG_in hL
    obtain ⟨dl',hk,_⟩:=kahn_keeps (givenG (valsG m) (inpG m)) (restG (nodesG L (baseG m) 0 m.2.2.1)) r1
    have hp:=hk.perm
    have e':(kahnG (restG (nodesG L (baseG m) 0 m.2.2.1)).length (givenG (valsG m) (inpG m)) [] (restG (nodesG L (baseG m) 0 m.2.2.1))).2 = []:=e
    rw [e',List.append_nil] at hp
    show (kahnG _ _ _ _).1.length = _
    rw [hp.length_eq,← links_all hL]
    have key:∀ (l:List NodeD) (k:Nat),(restG (linksG L k l)).length = (l.filter fun n => decide ((resV n).1 ≠ 61)).length:=by
     intro l
     induction l with
     | nil => intro k; rfl
     | cons n r ih =>
       intro k
       have ih':=ih (k + 1)
       unfold restG at ih' ⊢
       show ((linkG L k n :: linksG L (k + 1) r).filter _).length = _
       by_cases c:(resV n).1 = 61
       ·rw [List.filter_cons_of_neg (by simp [linkG,c]),List.filter_cons_of_neg (by simp [c])]
        exact ih'
       ·rw [List.filter_cons_of_pos (by simp [linkG,c]),List.filter_cons_of_pos (by simp [c]),List.length_cons,List.length_cons,ih']
    exact key _ _
   ·unfold valsG
    simp only [List.length_append,List.length_map,List.length_flatMap]
    refine congrArg _ (congrArg List.sum (List.map_congr_left (fun n _ => ?_)))
    unfold putG
    rw [List.length_map]
theorem build_bad {m:ModelD} (h:(buildV m).2.1 ≠ 0):(buildV m).1 = noGr:=by
 rw [build_steps] at h ⊢
 by_cases c0:checkM m ≠ 0
 ·rw [if_pos c0]
 rw [if_neg c0] at h ⊢
 by_cases c1:(resdV m.2.2.1).1 ≠ 0
 ·rw [if_pos c1]
 rw [if_neg c1] at h ⊢
 by_cases c2:(namedV m).1 ≠ 0
 ·rw [if_pos c2]
 rw [if_neg c2] at h ⊢
 cases e:outsG (headG m) m.2.2.1 with
 | none => rfl
 | some L =>
   rw [e] at h
   simp only at h ⊢
   by_cases c3:(linkV L m.2.2.1 m.2.2.2.2.2).1 ≠ 0
   ·rw [if_pos c3]
   rw [if_neg c3] at h ⊢
   by_cases c4:(ordV (rowG m L)).1 ≠ 0
   ·rw [if_pos c4]
   rw [if_neg c4] at h
   exact absurd rfl h
end Go.Proofs.YtbmmcbagdomonaaGreat
