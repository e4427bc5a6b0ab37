import Derived.Test.YtbmmcbagdomonaaGreatV49
set_option maxRecDepth 100000
set_option maxHeartbeats 40000000
namespace Go.Proofs.YtbmmcbagdomonaaGreat
open Go.RowKit
set_option linter.unusedVariables false
set_option linter.unusedSimpArgs false
structure okGr (G:GrA):Prop where
 nv:G.vals.length ≤ 274877906944
 nn:G.nodes.length ≤ 274877906944
 ni:G.inp.length * 8 ≤ 140737488355328
 no:G.out.length * 8 ≤ 140737488355328
 vs:∀ v ∈ G.vals,v.ds.length * 8 ≤ 140737488355328 ∧ okLen v.T
 ns:∀ n ∈ G.nodes,okSe n.D ∧ n.ins.length * 8 ≤ 140737488355328 ∧ n.outs.length * 8 ≤ 140737488355328
theorem OwnR.move9 {β:Type} {t:TypeId} {k:Nat} {cells:β → List Value} {w0 w1 w w':World} {v:Value} {l:List β} (h:OwnR t k cells w1 w v l) (hb:w0.heap.size ≤ w1.heap.size) (hB:Below w0.heap.size w0 w') (hs:∀ b,w1.heap.size ≤ b → b < w.heap.size → w'.heap[b]? = w.heap[b]?):OwnR t k cells w0 w' v l:=by
 refine ⟨?_,hB⟩
 have hlt:=h.lt9
 obtain ⟨l1,h1⟩:=h.1
 refine ⟨l1,?_⟩
 rcases h1 with h1 | ⟨g',cap,cur,hv,hg',hh,hr⟩
 ·exact .inl h1
 ·exact .inr ⟨g',cap,cur,hv,Nat.le_trans hb hg',(hs g' hg' (hlt g' (by rw [hv]; rfl)).1).trans hh,hr⟩
theorem OwnR.keep9 {β:Type} {t:TypeId} {k:Nat} {cells:β → List Value} {w0 w w':World} {v:Value} {l:List β} (h:OwnR t k cells w0 w v l) (hs:∀ b,v.ownBlock = some b → w'.heap[b]? = w.heap[b]?) (hB:Below w0.heap.size w0 w'):OwnR t k cells w0 w' v l:=by
 refine ⟨?_,hB⟩
 obtain ⟨l1,h1⟩:=h.1
 refine ⟨l1,?_⟩
 rcases h1 with h1 | ⟨g',cap,cur,hv,hg',hh,hr⟩
 ·exact .inl h1
 ·exact .inr ⟨g',cap,cur,hv,hg',(hs g' (by rw [hv]; rfl)).trans hh,hr⟩
theorem Li.move9 {OK:Nat → Prop} {w w':World} {p:Option Addr} {c:Nat} {xs:List Int} {B:Nat} (h:Ints .i64 w p c xs) (hf:∀ b o,p = some ⟨b,o,none⟩ → 0 < xs.length → B ≤ b) (hz:w.heap.size ≤ w'.heap.size) (hs:∀ b,B ≤ b → b < w.heap.size → w'.heap[b]? = w.heap[b]?) (ho:∀ b,B ≤ b → b < w.heap.size → OK b):Li .i64 OK w' p c xs :=
 (Li.hold (OK:=fun b => B ≤ b ∧ b < w.heap.size) ⟨h,fun b o e hp => ⟨hf b o e hp,h.ls.inB b o e hp⟩⟩ ⟨hz,fun b hb hl => hs b hb.1 hl⟩).mono (fun b hb _ => ho b hb.1 hb.2)
theorem RowN.put9 {β:Type} {t:TypeId} {k:Nat} {cells:β → List Value} {w:World} {g cap n j:Nat} {l:List β} {x y:β} {u:Value} (hk:Wd k cells) (z:β) (h:RowN t k cells w g cap (l.set n x)) (hn:n < l.length) (hj:j < k) (hx:cells y = (cells x).set j u):RowN t k cells (w.setCell ⟨g,n * k + j,none⟩ u) g cap (l.set n y):=by
 have:=h.put hk z (i:=n) (j:=j) (x:=y) (u:=u) (by rw [List.length_set]; exact hn) hj (by rw [getD_set9 l n x z hn]; exact hx)
 rw [List.set_set] at this
 exact this
theorem flat_seg9 {β:Type} {k:Nat} {cells:β → List Value} (hk:Wd k cells) (z y:β) {l:List β} {i j n:Nat} {cur vs:List Value} (hi:i < l.length) (hjn:j + n ≤ k) (hv:vs.length = n) (ht:cur.take (l.length * k) = l.flatMap cells) (hc:l.length * k ≤ cur.length) (hy:cells y = (cells (l.getD i z)).take j ++ vs ++ (cells (l.getD i z)).drop (j + n)) :
  (cur.take (i * k + j) ++ vs ++ cur.drop (i * k + j + n)).take (l.length * k) = (l.set i y).flatMap cells:=by
 obtain ⟨R,hR⟩:∃ R,cur.drop (l.length * k) = R:=⟨_,rfl⟩
 have e0:cur = l.flatMap cells ++ R:=by rw [← ht,← hR,List.take_append_drop]
 have hl:l = l.take i ++ l.getD i z :: l.drop (i + 1):=by
  conv => lhs; rw [← List.take_append_drop i l,List.drop_eq_getElem_cons hi]
  rw [List.getD_eq_getElem?_getD,List.getElem?_eq_getElem hi]; rfl
 obtain ⟨F1,hF1⟩:∃ F,(l.take i).flatMap cells = F:=⟨_,rfl⟩
 obtain ⟨F2,hF2⟩:∃ F,(l.drop (i + 1)).flatMap cells = F:=⟨_,rfl⟩
 have l1:F1.length = i * k:=by rw [← hF1,rc_len hk,List.length_take,Nat.min_eq_left (by omega)]
 have lx:(cells (l.getD i z)).length = k:=hk.2.1 _
 have ex:l.flatMap cells = F1 ++ (cells (l.getD i z) ++ F2):=by
  conv => lhs; rw [hl]
  rw [List.flatMap_append,List.flatMap_cons,hF1,hF2]
 have ey:(l.set i y).flatMap cells = F1 ++ (cells y ++ F2):=by
  rw [List.set_eq_take_append_cons_drop,if_pos hi,List.flatMap_append,List.flatMap_cons,hF1,hF2]
 have hlen:(l.flatMap cells).length = l.length * k:=rc_len hk l
 have hlen2:((l.set i y).flatMap cells).length = l.length * k:=by rw [rc_len hk,List.length_set]
 have t1:cur.take (i * k + j) = F1 ++ (cells (l.getD i z)).take j:=by
  rw [e0,ex,List.append_assoc,List.append_assoc,List.take_append,l1,List.take_of_length_le (by omega),show i * k + j - i * k = j by omega,List.take_append_of_le_length (by omega)]
 have t2:cur.drop (i * k + j + n) = (cells (l.getD i z)).drop (j + n) ++ (F2 ++ R):=by
  rw [e0,ex,List.append_assoc,List.append_assoc,List.drop_append,l1,List.drop_of_length_le (by omega),List.nil_append,show i * k + j + n - i * k = j + n by omega,List.drop_append_of_le_length (by omega)]
 have e9:cur.take (i * k + j) ++ vs ++ cur.drop (i * k + j + n) = (l.set i y).flatMap cells ++ R:=by
  rw [t1,t2,ey,hy]
  simp only [List.append_assoc]
 rw [e9,List.take_append_of_le_length (by omega),List.take_of_length_le (by omega)]
theorem step_storeN {β:Type} {t:TypeId} {k:Nat} {cells:β → List Value} {w:World} {ops:Array Oper} {o:Oper} {a:Act} {K:Act → World → Prop} {Q:Exit → Act → World → Prop} {E:Prop} {ty:TypeId} {n:Nat} (ht:AggT ty n) (hgd:o.guard = none) (p x:Operand) (ho:o.op = .store ty p x)
  {g cap i j:Nat} {cs:Array Value} {l:List β} {y:β} (hk:Wd k cells) (z:β) (hp:a.eval p = .pointer (some ⟨g,i * k + j,none⟩)) (hx:a.eval x = .agg cs) (hr:RowN t k cells w g cap l) (hi:i < l.length) (hjn:j + n ≤ k) (hs:cs.size = n) (h1:Ones cs)
  (hy:cells y = (cells (l.getD i z)).take j ++ cs.toList ++ (cells (l.getD i z)).drop (j + n))
  (hK:∀ w',RowN t k cells w' g cap (l.set i y) → Stay g w w' → K (a.put o.dst undef) w') :
  if Region.wanted o (yielded ops a.tmps) = true then Oper.wp Tryz.prog o a w K Q else E:=by
 have hw:Region.wanted o (yielded ops a.tmps) = true:=by simp [Region.wanted,hgd]
 rw [if_pos hw]
 obtain ⟨cur,hh,c1,c2,c3,c4⟩:=hr
 have hlt:l.length * k ≤ cur.size:=by rw [c3]; exact Nat.mul_le_mul_right k c1
 have hik:i * k + k ≤ l.length * k:=by
  have:(i + 1) * k ≤ l.length * k:=Nat.mul_le_mul_right k hi
  rw [Nat.add_mul,Nat.one_mul] at this; exact this
 have hst:=run_storeCells_at Tryz.prog g (i * k + j) t cs.toList 0 cur w hh (by simp [hs]; omega) h1
 simp only [Nat.add_zero,Array.length_toList] at hst
 unfold Oper.wp
 simp only [execOp,ho,Instr.storeAt,storeVar,hp,hx,Value.cells,Instr.sureAddr,Sem.run_bind,Sem.run_pure,Result.andThen_ok,(ht w).2,hs,ne_eq,not_true_eq_false,if_false] at hst ⊢
 rw [hst]
 refine hK _ ⟨_,setRow_heap w g cur _ t (0,0) hh,by rw [List.length_set]; exact c1,c2,?_,?_⟩ setRow_stay8
 ·simp [hs]; omega
 ·rw [List.length_set,List.toList_toArray]
  have:=flat_seg9 hk z y (cur:=cur.toList) (vs:=cs.toList) hi hjn (by simp [hs]) c4 (by simpa using hlt) hy
  simpa [hs] using this
theorem tenV_ones9 (T:Ten) (A:TA):Ones #[.int .i64 T.1,.slice A.pd T.2.1.length A.cd,.slice A.pf T.2.2.1.length A.cf,.slice A.pi T.2.2.2.1.length A.ci,.slice A.pb T.2.2.2.2.length A.cb]:=by
 intro u hu
 simp only [List.mem_cons,List.not_mem_nil,or_false] at hu
 rcases hu with rfl | rfl | rfl | rfl | rfl <;> rfl
def VgA.withD (x:VgA) (q:Option Addr) (c:Nat):VgA:=⟨x.ty,x.ds,q,c,x.con,x.T,x.A⟩
def VgA.withT (x:VgA) (A:TA):VgA:=⟨x.ty,x.ds,x.q,x.c,x.con,x.T,A⟩
def MixV (OK:Nat → Prop) (w:World) (n:Nat) (vals LV:List VgA):Prop:=LV.length = vals.length ∧ ∀ i,i < vals.length → (i < n → (LV.getD i noVgA).d = (vals.getD i noVgA).d ∧ VgIn OK w (LV.getD i noVgA)) ∧ (n ≤ i → LV.getD i noVgA = vals.getD i noVgA)
theorem MixV.start (OK:Nat → Prop) (w:World) (vals:List VgA):MixV OK w 0 vals vals:=⟨rfl,fun i _ => ⟨fun h => absurd h (by omega),fun _ => rfl⟩⟩
theorem MixV.step {OK:Nat → Prop} {w w':World} {n:Nat} {vals LV:List VgA} {y:VgA} (h:MixV OK w n vals LV) (hn:n < vals.length) (m:Hold OK w w') (hd:y.d = (vals.getD n noVgA).d) (hy:VgIn OK w' y):MixV OK w' (n + 1) vals (LV.set n y):=by
 refine ⟨by rw [List.length_set]; exact h.1,fun i hi => ⟨fun h1 => ?_,fun h1 => ?_⟩⟩
 ·by_cases e:i = n
  ·subst e
   rw [getD_set9 LV i y noVgA (by rw [h.1]; exact hi)]
   exact ⟨hd,hy⟩
  ·have e1:(LV.set n y).getD i noVgA = LV.getD i noVgA:=by rw [List.getD_eq_getElem?_getD,List.getElem?_set,if_neg (fun q => e q.symm),← List.getD_eq_getElem?_getD]
   rw [e1]
   obtain ⟨g1,g2⟩:=(h.2 i hi).1 (by omega)
   exact ⟨g1,vgP.hold g2 m⟩
 ·have e1:(LV.set n y).getD i noVgA = LV.getD i noVgA:=by rw [List.getD_eq_getElem?_getD,List.getElem?_set,if_neg (by omega),← List.getD_eq_getElem?_getD]
  rw [e1]; exact (h.2 i hi).2 (by omega)
theorem MixV.all {OK:Nat → Prop} {w:World} {vals LV:List VgA} (h:MixV OK w vals.length vals LV):LV.map VgA.d = vals.map VgA.d ∧ ∀ x ∈ LV,VgIn OK w x:=by
 refine ⟨List.ext_getElem (by rw [List.length_map,List.length_map]; exact h.1) (fun i h1 h2 => ?_),fun x hx => ?_⟩
 ·rw [List.length_map] at h1 h2
  have:=((h.2 i h2).1 h2).1
  rw [List.getD_eq_getElem?_getD,List.getElem?_eq_getElem h1,List.getD_eq_getElem?_getD,List.getElem?_eq_getElem h2] at this
  simpa using this
 ·obtain ⟨i,hi,rfl⟩:=List.mem_iff_getElem.1 hx
  have:=((h.2 i (by rw [← h.1]; exact hi)).1 (by rw [← h.1]; exact hi)).2
  rw [List.getD_eq_getElem?_getD,List.getElem?_eq_getElem hi] at this
  exact this
def MixN (OK:Nat → Prop) (w:World) (n:Nat) (nds LN:List GnA):Prop:=LN.length = nds.length ∧ ∀ i,i < nds.length → (i < n → (LN.getD i noGnA).d = (nds.getD i noGnA).d ∧ GnIn OK w (LN.getD i noGnA)) ∧ (n ≤ i → LN.getD i noGnA = nds.getD i noGnA)
theorem MixN.start (OK:Nat → Prop) (w:World) (nds:List GnA):MixN OK w 0 nds nds:=⟨rfl,fun i _ => ⟨fun h => absurd h (by omega),fun _ => rfl⟩⟩
theorem MixN.step {OK:Nat → Prop} {w w':World} {n:Nat} {nds LN:List GnA} {y:GnA} (h:MixN OK w n nds LN) (hn:n < nds.length) (m:Hold OK w w') (hd:y.d = (nds.getD n noGnA).d) (hy:GnIn OK w' y):MixN OK w' (n + 1) nds (LN.set n y):=by
 refine ⟨by rw [List.length_set]; exact h.1,fun i hi => ⟨fun h1 => ?_,fun h1 => ?_⟩⟩
 ·by_cases e:i = n
  ·subst e
   rw [getD_set9 LN i y noGnA (by rw [h.1]; exact hi)]
   exact ⟨hd,hy⟩
  ·have e1:(LN.set n y).getD i noGnA = LN.getD i noGnA:=by rw [List.getD_eq_getElem?_getD,List.getElem?_set,if_neg (fun q => e q.symm),← List.getD_eq_getElem?_getD]
   rw [e1]
   obtain ⟨g1,g2⟩:=(h.2 i hi).1 (by omega)
   exact ⟨g1,gnP.hold g2 m⟩
 ·have e1:(LN.set n y).getD i noGnA = LN.getD i noGnA:=by rw [List.getD_eq_getElem?_getD,List.getElem?_set,if_neg (by omega),← List.getD_eq_getElem?_getD]
  rw [e1]; exact (h.2 i hi).2 (by omega)
theorem MixN.all {OK:Nat → Prop} {w:World} {nds LN:List GnA} (h:MixN OK w nds.length nds LN):LN.map GnA.d = nds.map GnA.d ∧ ∀ x ∈ LN,GnIn OK w x:=by
 refine ⟨List.ext_getElem (by rw [List.length_map,List.length_map]; exact h.1) (fun i h1 h2 => ?_),fun x hx => ?_⟩
 ·rw [List.length_map] at h1 h2
  have:=((h.2 i h2).1 h2).1
  rw [List.getD_eq_getElem?_getD,List.getElem?_eq_getElem h1,List.getD_eq_getElem?_getD,List.getElem?_eq_getElem h2] at this
  simpa using this
 ·obtain ⟨i,hi,rfl⟩:=List.mem_iff_getElem.1 hx
  have:=((h.2 i (by rw [← h.1]; exact hi)).1 (by rw [← h.1]; exact hi)).2
  rw [List.getD_eq_getElem?_getD,List.getElem?_eq_getElem hi] at this
  exact this
theorem aggSet9:AggT 49 36:=fun w => ⟨by kernel_rfl,by kernel_rfl⟩
theorem At8.block9 {w w':World} {b o:Nat} {L:List Value} (h:At8 w b o L) (hb:w'.heap[b]? = w.heap[b]?):At8 w' b o L:=fun j v hj => (World.cell?_of_block (a:=⟨b,o + j,none⟩) hb).trans (h j v hj)
theorem gr_ones9 (a b c d:Option Addr) (n1 n2 n3 n4 c1 c2 c3 c4:Nat):Ones #[.slice a n1 c1,.slice b n2 c2,.slice c n3 c3,.slice d n4 c4]:=by
 intro u hu
 simp only [List.mem_cons,List.not_mem_nil,or_false] at hu
 rcases hu with rfl | rfl | rfl | rfl <;> rfl
theorem results_gr1 {fn:Func} {tmps:Array Value} {w:World} {g k:Nat} {cs:Array Value} {t:TypeId} (hf:fn.results = #[.cell k 32]) (hk:tmps.getD k undef = .pointer (some ⟨g,0,none⟩)) (hb:Box w g cs t) (hs:cs.size = 4):(results fn tmps).run Tryz.prog w = .ok (.agg cs) w:=by
 have e:=loadVar_at8 aggGr (by simpa using hs) (At8.box hb)
 rw [Array.toArray_toList] at e
 unfold results
 rw [hf]
 simp only [List.mapM_toArray,List.mapM_cons,List.mapM_nil,hk,asAddr,Sem.run_bind,Sem.run_pure,Result.andThen_ok,e,Sem.run_map]
 simp [e]
def GnA.withS (x:GnA) (cs:Array Value) (h:cs.size = 36 ∧ Ones cs):GnA:=⟨x.op,cs,x.D,x.ins,x.qi,x.ci,x.outs,x.qo,x.co,x.src,h⟩
theorem gn_s9 (x:GnA) (cs:Array Value) (h:cs.size = 36 ∧ Ones cs):gnCells (x.withS cs h) = (gnCells x).take 1 ++ cs.toList ++ (gnCells x).drop 37:=by
 have h1:x.cs.toList.length = 36:=by simpa using x.hc.1
 unfold gnCells GnA.withS
 simp only [List.take_succ_cons,List.take_zero,List.drop_succ_cons]
 rw [List.drop_append_of_le_length (by omega),List.drop_of_length_le (by omega)]
 rfl
theorem at8_cs9 {w:World} {b:Nat} {x:GnA} (h:At8 w b 0 (gnCells x)):At8 w b 1 x.cs.toList:=fun j v hj => by
 have h1:x.cs.toList.length = 36:=by simpa using x.hc.1
 have hl:=(List.getElem?_eq_some_iff.1 hj).1
 have:=h (1 + j) v (by unfold gnCells; rw [Nat.add_comm,List.getElem?_cons_succ,List.getElem?_append_left hl]; exact hj)
 rw [Nat.zero_add] at this; exact this
theorem ccopyG9_any (G:GrA) (OK:Nat → Prop) (w:World) (h:GrIn OK w G) (hs:okGr G) :
  Calls Tryz.prog 16 #[grV G] w fun e w' => ∃ a:GrA,e = .returned (grV a) ∧ a.d = G.d ∧ GrIn (fun b => w.heap.size ≤ b) w' a ∧ Below w.heap.size w w':=by
 have HS:=hide hs
 have HG:=hide h
 clear h hs
 obtain ⟨vals,qv,cv,nodes,qn,cn,inp,qi,ci,out,qo,co⟩:=G
 unfold grV grCells
 simp only
 obtain ⟨W0,hW0⟩:∃ W,(w.alloc (.cells #[.slice qv vals.length cv,.slice qn nodes.length cn,.slice qi inp.length ci,.slice qo out.length co] 32)).alloc (.cells grZ 32) = W:=⟨_,rfl⟩
 have X0:Hid (Box W0 w.heap.size #[.slice qv vals.length cv,.slice qn nodes.length cn,.slice qi inp.length ci,.slice qo out.length co] 32):=hide (by rw [← hW0]; exact (Box.new _ _ _).alloc _)
 have R0:Hid (Box W0 (w.heap.size + 1) grZ 32):=hide (by rw [← hW0]; have h:=Box.new (w.alloc (.cells #[.slice qv vals.length cv,.slice qn nodes.length cn,.slice qi inp.length ci,.slice qo out.length co] 32)) grZ 32; simp only [World.size_alloc] at h; exact h)
 have B0:Hid (Below w.heap.size w W0):=hide (by rw [← hW0]; exact bl_tr (al1p _ _) (al1p _ _))
 have HSZ:Hid (W0.heap.size = w.heap.size + 2):=hide (by rw [← hW0]; simp)
 have G0:Hid (GrIn (fun b => b < w.heap.size) W0 ⟨vals,qv,cv,nodes,qn,cn,inp,qi,ci,out,qo,co⟩):=hide (grP.hold (grP.mono (uh HG) (fun b _ hl => hl)) (Hold.below (uh B0)))
 have CV:Hid (∀ v,Below W0.heap.size W0 v → Calls Tryz.prog 42 #[.slice qv vals.length cv] v fun e w' => ∃ p d,e = .returned (.slice p vals.length d) ∧ OwnR 59 8 vgCells v w' (.slice p vals.length d) vals):=hide (fun v hv => (ccopV9_any qv cv vals v ((uh G0).1.1.below hv) (uh HS).nv).mono (by
  rintro e w' ⟨u,rfl,ho⟩
  obtain ⟨p,d,e1,_⟩:=ho.form (z:=noVgA) vgWd
  subst e1
  exact ⟨p,d,rfl,ho⟩))
 have CN:Hid (∀ v,Below W0.heap.size W0 v → Calls Tryz.prog 43 #[.slice qn nodes.length cn] v fun e w' => ∃ p d,e = .returned (.slice p nodes.length d) ∧ OwnR 51 40 gnCells v w' (.slice p nodes.length d) nodes):=hide (fun v hv => (ccopN9_any qn cn nodes v ((uh G0).2.1.1.below hv) (uh HS).nn).mono (by
  rintro e w' ⟨u,rfl,ho⟩
  obtain ⟨p,d,e1,_⟩:=ho.form (z:=noGnA) gnWd
  subst e1
  exact ⟨p,d,rfl,ho⟩))
 have CI:Hid (∀ v,Below W0.heap.size W0 v → Calls Tryz.prog 44 #[.slice qi inp.length ci] v fun e w' => ∃ p d,e = .returned (.slice p inp.length d) ∧ Ints .i64 w' p d inp ∧ Fresh v.heap.size w' p inp.length ∧ Below v.heap.size v w'):=hide (fun v hv => (ccopi9_any qi ci inp v ((uh G0).2.2.1.1.below hv) (uh HS).ni).mono (by
  rintro e w' ⟨⟨p,d,h1,h2,h3⟩,h4⟩
  exact ⟨p,d,h1,h2,h3,h4⟩))
 have CO:Hid (∀ v,Below W0.heap.size W0 v → Calls Tryz.prog 44 #[.slice qo out.length co] v fun e w' => ∃ p d,e = .returned (.slice p out.length d) ∧ Ints .i64 w' p d out ∧ Fresh v.heap.size w' p out.length ∧ Below v.heap.size v w'):=hide (fun v hv => (ccopi9_any qo co out v ((uh G0).2.2.2.1.below hv) (uh HS).no).mono (by
  rintro e w' ⟨⟨p,d,h1,h2,h3⟩,h4⟩
  exact ⟨p,d,h1,h2,h3,h4⟩))
 go_enter Tryz.func16,Tryz.ntmps16
 go_upto_region 1 with fail
 unfold grZ at hW0
 (try rw [hW0])
 clear hW0
 go_cut [3] from 8 to 20 (fun p3 wx => ∃ (g:Nat) (pV:Option Addr) (dV:Nat) (pN:Option Addr) (dN:Nat) (pI:Option Addr) (dI:Nat) (pO:Option Addr) (dO:Nat),p3 = .pointer (some ⟨g,0,none⟩) ∧ Hid (Box wx g #[.slice pV vals.length dV,.slice pN nodes.length dN,.slice pI inp.length dI,.slice pO out.length dO] 32) ∧ Hid (OwnR 59 8 vgCells W0 wx (.slice pV vals.length dV) vals) ∧ Hid (OwnR 51 40 gnCells W0 wx (.slice pN nodes.length dN) nodes) ∧ Hid (∀ k,(Value.slice pV vals.length dV).ownBlock = some k → k ≠ g ∧ (Value.slice pN nodes.length dN).ownBlock ≠ some k) ∧ Hid ((Value.slice pN nodes.length dN).ownBlock ≠ some g) ∧ Hid (Li .i64 (fun b => W0.heap.size ≤ b ∧ b ≠ g ∧ (Value.slice pV vals.length dV).ownBlock ≠ some b ∧ (Value.slice pN nodes.length dN).ownBlock ≠ some b) wx pI dI inp) ∧ Hid (Li .i64 (fun b => W0.heap.size ≤ b ∧ b ≠ g ∧ (Value.slice pV vals.length dV).ownBlock ≠ some b ∧ (Value.slice pN nodes.length dN).ownBlock ≠ some b) wx pO dO out) ∧ Hid (Below W0.heap.size W0 wx) ∧ Hid (W0.heap.size ≤ g))
 case first =>
  refine wp_region_held_drew (S:=fun v => Below W0.heap.size W0 v) (by kernel_rfl) (bdrew8 _) (fun hHeld => ?_)
  refine wpAnyH_take (i:=0) (oi:={ dst:=some 8,op:=_,type:=_,pos:=_,after:=_,guard:=_ }) (v:=?vv1) rfl (by kernel_rfl) (by kernel_rfl) (by kernel_rfl) (fun _ _ _ h => h) (Or.inl ⟨by rfl,?hy1⟩) (by assumption) ?rest1
  case hy1 => (intro w9 hSw; have c9:=((uh X0).below hSw).cell; (try dsimp only at hSw); go_simp; (first | done | with_reducible rfl))
  (try simp only [Act.put,List.setIfInBounds_toArray,List.set_cons_zero,List.set_cons_succ])
  refine wpAnyH_take (i:=1) (oi:={ dst:=some 9,op:=_,type:=_,pos:=_,after:=_,guard:=_ }) (v:=?vv2) rfl (by kernel_rfl) (by kernel_rfl) (by kernel_rfl) (fun _ _ _ h => h) (Or.inl ⟨by rfl,?hy2⟩) (by assumption) ?rest2
  case hy2 => (intro w9 hSw; have c9:=((uh X0).below hSw).cell; (try dsimp only at hSw); go_simp; (first | done | with_reducible rfl))
  (try simp only [Act.put,List.setIfInBounds_toArray,List.set_cons_zero,List.set_cons_succ])
  refine wpAnyH_take (i:=3) (oi:={ dst:=some 11,op:=_,type:=_,pos:=_,after:=_,guard:=_ }) (v:=?vv3) rfl (by kernel_rfl) (by kernel_rfl) (by kernel_rfl) (fun _ _ _ h => h) (Or.inl ⟨by rfl,?hy3⟩) (by assumption) ?rest3
  case hy3 => (intro w9 hSw; have c9:=((uh X0).below hSw).cell; (try dsimp only at hSw); go_simp; (first | done | with_reducible rfl))
  (try simp only [Act.put,List.setIfInBounds_toArray,List.set_cons_zero,List.set_cons_succ])
  refine wpAnyH_take (i:=4) (oi:={ dst:=some 12,op:=_,type:=_,pos:=_,after:=_,guard:=_ }) (v:=?vv4) rfl (by kernel_rfl) (by kernel_rfl) (by kernel_rfl) (fun _ _ _ h => h) (Or.inl ⟨by rfl,?hy4⟩) (by assumption) ?rest4
  case hy4 => (intro w9 hSw; have c9:=((uh X0).below hSw).cell; (try dsimp only at hSw); go_simp; (first | done | with_reducible rfl))
  (try simp only [Act.put,List.setIfInBounds_toArray,List.set_cons_zero,List.set_cons_succ])
  refine wpAnyH_take (i:=6) (oi:={ dst:=some 14,op:=_,type:=_,pos:=_,after:=_,guard:=_ }) (v:=?vv5) rfl (by kernel_rfl) (by kernel_rfl) (by kernel_rfl) (fun _ _ _ h => h) (Or.inl ⟨by rfl,?hy5⟩) (by assumption) ?rest5
  case hy5 => (intro w9 hSw; have c9:=((uh X0).below hSw).cell; (try dsimp only at hSw); go_simp; (first | done | with_reducible rfl))
  (try simp only [Act.put,List.setIfInBounds_toArray,List.set_cons_zero,List.set_cons_succ])
  refine wpAnyH_take (i:=7) (oi:={ dst:=some 15,op:=_,type:=_,pos:=_,after:=_,guard:=_ }) (v:=?vv6) rfl (by kernel_rfl) (by kernel_rfl) (by kernel_rfl) (fun _ _ _ h => h) (Or.inl ⟨by rfl,?hy6⟩) (by assumption) ?rest6
  case hy6 => (intro w9 hSw; have c9:=((uh X0).below hSw).cell; (try dsimp only at hSw); go_simp; (first | done | with_reducible rfl))
  (try simp only [Act.put,List.setIfInBounds_toArray,List.set_cons_zero,List.set_cons_succ])
  refine wpAnyH_take (i:=9) (oi:={ dst:=some 17,op:=_,type:=_,pos:=_,after:=_,guard:=_ }) (v:=?vv7) rfl (by kernel_rfl) (by kernel_rfl) (by kernel_rfl) (fun _ _ _ h => h) (Or.inl ⟨by rfl,?hy7⟩) (by assumption) ?rest7
  case hy7 => (intro w9 hSw; have c9:=((uh X0).below hSw).cell; (try dsimp only at hSw); go_simp; (first | done | with_reducible rfl))
  (try simp only [Act.put,List.setIfInBounds_toArray,List.set_cons_zero,List.set_cons_succ])
  refine wpAnyH_take (i:=10) (oi:={ dst:=some 18,op:=_,type:=_,pos:=_,after:=_,guard:=_ }) (v:=?vv8) rfl (by kernel_rfl) (by kernel_rfl) (by kernel_rfl) (fun _ _ _ h => h) (Or.inl ⟨by rfl,?hy8⟩) (by assumption) ?rest8
  case hy8 => (intro w9 hSw; have c9:=((uh X0).below hSw).cell; (try dsimp only at hSw); go_simp; (first | done | with_reducible rfl))
  (try simp only [Act.put,List.setIfInBounds_toArray,List.set_cons_zero,List.set_cons_succ])
  refine wpAnyH_ready (rs:=[2,13]) (by kernel_rfl) (by simp) ?_
  refine AllReadyH.cons (o:={ dst:=some 10,op:=_,type:=_,pos:=_,after:=_,guard:=_ }) rfl (fun KC hK => ?_) (AllReadyH.cons (o:={ dst:=some 3,op:=_,type:=_,pos:=_,after:=_,guard:=_ }) rfl (fun KC hK => ?_) (AllReadyH.nil))
  ·
   go_simp
   refine (uh CV _ hHeld).mono ?_
   rintro e u1 ⟨pV,dV,rfl,hov⟩
   have OV:=hide hov
   have LV:=hide hov.2
   have q1:=hov.2.size
   refine hK.out _ _ (bl_tr hHeld (uh LV)) (fun hH1 => ?_)
   clear hK KC hov
   (try simp only [Act.put,List.setIfInBounds_toArray,List.set_cons_zero,List.set_cons_succ])
   refine wpAnyH_ready (rs:=[5,13]) (by kernel_rfl) (by simp) ?_
   refine AllReadyH.cons (o:={ dst:=some 13,op:=_,type:=_,pos:=_,after:=_,guard:=_ }) rfl (fun KC hK => ?_) (AllReadyH.cons (o:={ dst:=some 3,op:=_,type:=_,pos:=_,after:=_,guard:=_ }) rfl (fun KC hK => ?_) (AllReadyH.nil))
   ·
    go_simp
    refine (uh CN _ hH1).mono ?_
    rintro e u2 ⟨pN,dN,rfl,hov⟩
    have ON:=hide hov
    have LN:=hide hov.2
    have q2:=hov.2.size
    refine hK.out _ _ (bl_tr hH1 (uh LN)) (fun hH2 => ?_)
    clear hK KC hov
    (try simp only [Act.put,List.setIfInBounds_toArray,List.set_cons_zero,List.set_cons_succ])
    refine wpAnyH_ready (rs:=[8,13]) (by kernel_rfl) (by simp) ?_
    refine AllReadyH.cons (o:={ dst:=some 16,op:=_,type:=_,pos:=_,after:=_,guard:=_ }) rfl (fun KC hK => ?_) (AllReadyH.cons (o:={ dst:=some 3,op:=_,type:=_,pos:=_,after:=_,guard:=_ }) rfl (fun KC hK => ?_) (AllReadyH.nil))
    ·
     go_simp
     refine (uh CI _ hH2).mono ?_
     rintro e u3 ⟨pI,dI,rfl,hL,hF,hB⟩
     have OI:=hide hL
     have FI:=hide hF
     have LI:=hide hB
     have q3:=hB.size
     refine hK.out _ _ (bl_tr hH2 (uh LI)) (fun hH3 => ?_)
     clear hK KC hL hF hB
     (try simp only [Act.put,List.setIfInBounds_toArray,List.set_cons_zero,List.set_cons_succ])
     refine wpAnyH_ready (rs:=[11,13]) (by kernel_rfl) (by simp) ?_
     refine AllReadyH.cons (o:={ dst:=some 19,op:=_,type:=_,pos:=_,after:=_,guard:=_ }) rfl (fun KC hK => ?_) (AllReadyH.cons (o:={ dst:=some 3,op:=_,type:=_,pos:=_,after:=_,guard:=_ }) rfl (fun KC hK => ?_) (AllReadyH.nil))
     ·
      go_simp
      refine (uh CO _ hH3).mono ?_
      rintro e u4 ⟨pO,dO,rfl,hL,hF,hB⟩
      have OO:=hide hL
      have FO:=hide hF
      have LO:=hide hB
      have q4:=hB.size
      refine hK.out _ _ (bl_tr hH3 (uh LO)) (fun hH4 => ?_)
      clear hK KC hL hF hB
      (try simp only [Act.put,List.setIfInBounds_toArray,List.set_cons_zero,List.set_cons_succ])
      refine wpAnyH_take (i:=12) (oi:={ dst:=some 20,op:=_,type:=_,pos:=_,after:=_,guard:=_ }) (v:=?vv9) rfl (by kernel_rfl) (by kernel_rfl) (by kernel_rfl) (fun _ _ _ h => h) (Or.inl ⟨by rfl,?hy9⟩) (by assumption) ?rest9
      case hy9 => (intro w9 hSw; (try dsimp only at hSw); go_simp; (first | done | with_reducible rfl))
      (try simp only [Act.put,List.setIfInBounds_toArray,List.set_cons_zero,List.set_cons_succ])
      refine wpAnyH_ready (rs:=[13]) (by kernel_rfl) (by simp) ?_
      refine AllReadyH.cons (o:={ dst:=some 3,op:=_,type:=_,pos:=_,after:=_,guard:=_ }) rfl (fun KC hK => ?_) (AllReadyH.nil)
      go_simp
      have BX:=hide (Box.new u4 grZ 32)
      have BA:=hide (al1p u4 (.cells grZ 32))
      have qa:=(uh BA).size
      have qb:(u4.alloc (.cells grZ 32)).heap.size = u4.heap.size + 1:=by simp
      unfold grZ at BX BA qa qb
      refine hK.out _ _ (bl_tr hH4 (uh BA)) (fun hA => ?_)
      clear hK KC
      (try simp only [Act.put,List.setIfInBounds_toArray,List.set_cons_zero,List.set_cons_succ])
      refine wpAnyH_ready (rs:=[14]) (by kernel_rfl) (by simp) ?_
      refine AllReadyH.cons (o:={ dst:=none,op:=_,type:=_,pos:=_,after:=_,guard:=_ }) rfl (fun KC hK => ?_) (AllReadyH.nil)
      refine step_storeG aggGr rfl _ _ rfl rfl rfl ((uh BX)) rfl rfl ?_ ?_
      ·intro q hq
       simp only [List.mem_cons,List.not_mem_nil,or_false] at hq
       rcases hq with rfl | rfl | rfl | rfl <;> rfl
      intro u9 b9 s9 z9
      have B9:=hide b9
      have S9:=hide s9
      clear b9 s9 z9
      have q0:W0.drew.heap.size = W0.heap.size:=rfl
      have qh:=hHeld.size
      have q9:=(uh S9).1.size
      have BF:Hid (Below W0.heap.size W0 u9):=hide (bl_tr7 hA (bl_mono7 (uh S9).1 (by omega)))
      have TV:Hid (∀ b,b < u1.heap.size → b ≠ u4.heap.size → u9.heap[b]? = u1.heap[b]?):=hide (fun b hb hg => ((uh S9).block hg (Nat.lt_of_lt_of_le hb (bl_tr (bl_tr (bl_tr ((uh LN)) (uh LI)) (uh LO)) (uh BA)).size)).trans ((bl_tr (bl_tr (bl_tr ((uh LN)) (uh LI)) (uh LO)) (uh BA)).block b hb))
      have TN:Hid (∀ b,b < u2.heap.size → b ≠ u4.heap.size → u9.heap[b]? = u2.heap[b]?):=hide (fun b hb hg => ((uh S9).block hg (Nat.lt_of_lt_of_le hb (bl_tr (bl_tr ((uh LI)) (uh LO)) (uh BA)).size)).trans ((bl_tr (bl_tr ((uh LI)) (uh LO)) (uh BA)).block b hb))
      have TI:Hid (∀ b,b < u3.heap.size → b ≠ u4.heap.size → u9.heap[b]? = u3.heap[b]?):=hide (fun b hb hg => ((uh S9).block hg (Nat.lt_of_lt_of_le hb (bl_tr ((uh LO)) (uh BA)).size)).trans ((bl_tr ((uh LO)) (uh BA)).block b hb))
      have TO:Hid (∀ b,b < u4.heap.size → b ≠ u4.heap.size → u9.heap[b]? = u4.heap[b]?):=hide (fun b hb hg => ((uh S9).block hg (Nat.lt_of_lt_of_le hb ((uh BA)).size)).trans (((uh BA)).block b hb))
      have VR:Hid (OwnR 59 8 vgCells W0 u9 (.slice pV vals.length dV) vals):=hide (OwnR.move9 (uh OV) (by omega) (uh BF) (fun b hb hl => uh TV b hl (by omega)))
      have NR:Hid (OwnR 51 40 gnCells W0 u9 (.slice pN nodes.length dN) nodes):=hide (OwnR.move9 (uh ON) (by omega) (uh BF) (fun b hb hl => uh TN b hl (by omega)))
      have DV:Hid (∀ k,(Value.slice pV vals.length dV).ownBlock = some k → k ≠ u4.heap.size ∧ W0.drew.heap.size ≤ k ∧ k < u1.heap.size):=hide (fun k hk => by have:=(uh OV).lt9 k hk; omega)
      have DN:Hid (∀ k,(Value.slice pN nodes.length dN).ownBlock = some k → k ≠ u4.heap.size ∧ u1.heap.size ≤ k ∧ k < u2.heap.size):=hide (fun k hk => by have:=(uh ON).lt9 k hk; omega)
      have HI:Hid (Li .i64 (fun b => W0.heap.size ≤ b ∧ b ≠ u4.heap.size ∧ (Value.slice pV vals.length dV).ownBlock ≠ some b ∧ (Value.slice pN nodes.length dN).ownBlock ≠ some b) u9 pI dI inp):=hide (Li.move9 (uh OI) (fun b o e hp => (uh FI b o e hp).1) (by have:=(uh S9).1.size; omega) (fun b hb hl => uh TI b hl (by omega)) (fun b hb hl => ⟨by omega,by omega,(fun e => by have:=uh DV b e; omega),(fun e => by have:=uh DN b e; omega)⟩))
      have HO:Hid (Li .i64 (fun b => W0.heap.size ≤ b ∧ b ≠ u4.heap.size ∧ (Value.slice pV vals.length dV).ownBlock ≠ some b ∧ (Value.slice pN nodes.length dN).ownBlock ≠ some b) u9 pO dO out):=hide (Li.move9 (uh OO) (fun b o e hp => (uh FO b o e hp).1) (by have:=(uh S9).1.size; omega) (fun b hb hl => uh TO b hl (by omega)) (fun b hb hl => ⟨by omega,by omega,(fun e => by have:=uh DV b e; omega),(fun e => by have:=uh DN b e; omega)⟩))
      refine hK.out _ _ (uh BF) (fun hH9 => ?_)
      clear hK KC
      (try simp only [Act.put,List.setIfInBounds_toArray,List.set_cons_zero,List.set_cons_succ])
      refine wpAnyH_done (by kernel_rfl) ?_ _
      go_wp2_with fail
      go_meet
      case rel => exact ⟨u4.heap.size,pV,dV,pN,dN,pI,dI,pO,dO,rfl,B9,VR,NR,hide (fun k hk => ⟨(uh DV k hk).1,(fun e => by have:=uh DV k hk; have:=uh DN k e; omega)⟩),hide (fun e => (uh DN _ e).1 rfl),HI,HO,BF,hide (by omega)⟩
     ·
      go_simp
      have BX:=hide (Box.new u3 grZ 32)
      have BA:=hide (al1p u3 (.cells grZ 32))
      have qa:=(uh BA).size
      have qb:(u3.alloc (.cells grZ 32)).heap.size = u3.heap.size + 1:=by simp
      unfold grZ at BX BA qa qb
      refine hK.out _ _ (bl_tr hH3 (uh BA)) (fun hA => ?_)
      clear hK KC
      (try simp only [Act.put,List.setIfInBounds_toArray,List.set_cons_zero,List.set_cons_succ])
      refine wpAnyH_ready (rs:=[11]) (by kernel_rfl) (by simp) ?_
      refine AllReadyH.cons (o:={ dst:=some 19,op:=_,type:=_,pos:=_,after:=_,guard:=_ }) rfl (fun KC hK => ?_) (AllReadyH.nil)
      go_simp
      refine (uh CO _ hA).mono ?_
      rintro e u4 ⟨pO,dO,rfl,hL,hF,hB⟩
      have OO:=hide hL
      have FO:=hide hF
      have LO:=hide hB
      have q4:=hB.size
      refine hK.out _ _ (bl_tr hA (uh LO)) (fun hH4 => ?_)
      clear hK KC hL hF hB
      (try simp only [Act.put,List.setIfInBounds_toArray,List.set_cons_zero,List.set_cons_succ])
      refine wpAnyH_take (i:=12) (oi:={ dst:=some 20,op:=_,type:=_,pos:=_,after:=_,guard:=_ }) (v:=?vv10) rfl (by kernel_rfl) (by kernel_rfl) (by kernel_rfl) (fun _ _ _ h => h) (Or.inl ⟨by rfl,?hy10⟩) (by assumption) ?rest10
      case hy10 => (intro w9 hSw; (try dsimp only at hSw); go_simp; (first | done | with_reducible rfl))
      (try simp only [Act.put,List.setIfInBounds_toArray,List.set_cons_zero,List.set_cons_succ])
      refine wpAnyH_ready (rs:=[14]) (by kernel_rfl) (by simp) ?_
      refine AllReadyH.cons (o:={ dst:=none,op:=_,type:=_,pos:=_,after:=_,guard:=_ }) rfl (fun KC hK => ?_) (AllReadyH.nil)
      refine step_storeG aggGr rfl _ _ rfl rfl rfl (((uh BX).below ((uh LO)))) rfl rfl ?_ ?_
      ·intro q hq
       simp only [List.mem_cons,List.not_mem_nil,or_false] at hq
       rcases hq with rfl | rfl | rfl | rfl <;> rfl
      intro u9 b9 s9 z9
      have B9:=hide b9
      have S9:=hide s9
      clear b9 s9 z9
      have q0:W0.drew.heap.size = W0.heap.size:=rfl
      have qh:=hHeld.size
      have q9:=(uh S9).1.size
      have BF:Hid (Below W0.heap.size W0 u9):=hide (bl_tr7 hH4 (bl_mono7 (uh S9).1 (by omega)))
      have TV:Hid (∀ b,b < u1.heap.size → b ≠ u3.heap.size → u9.heap[b]? = u1.heap[b]?):=hide (fun b hb hg => ((uh S9).block hg (Nat.lt_of_lt_of_le hb (bl_tr (bl_tr (bl_tr ((uh LN)) (uh LI)) (uh BA)) (uh LO)).size)).trans ((bl_tr (bl_tr (bl_tr ((uh LN)) (uh LI)) (uh BA)) (uh LO)).block b hb))
      have TN:Hid (∀ b,b < u2.heap.size → b ≠ u3.heap.size → u9.heap[b]? = u2.heap[b]?):=hide (fun b hb hg => ((uh S9).block hg (Nat.lt_of_lt_of_le hb (bl_tr (bl_tr ((uh LI)) (uh BA)) (uh LO)).size)).trans ((bl_tr (bl_tr ((uh LI)) (uh BA)) (uh LO)).block b hb))
      have TI:Hid (∀ b,b < u3.heap.size → b ≠ u3.heap.size → u9.heap[b]? = u3.heap[b]?):=hide (fun b hb hg => ((uh S9).block hg (Nat.lt_of_lt_of_le hb (bl_tr ((uh BA)) (uh LO)).size)).trans ((bl_tr ((uh BA)) (uh LO)).block b hb))
      have TO:Hid (∀ b,b < u4.heap.size → b ≠ u3.heap.size → u9.heap[b]? = u4.heap[b]?):=hide (fun b hb hg => (uh S9).block hg hb)
      have VR:Hid (OwnR 59 8 vgCells W0 u9 (.slice pV vals.length dV) vals):=hide (OwnR.move9 (uh OV) (by omega) (uh BF) (fun b hb hl => uh TV b hl (by omega)))
      have NR:Hid (OwnR 51 40 gnCells W0 u9 (.slice pN nodes.length dN) nodes):=hide (OwnR.move9 (uh ON) (by omega) (uh BF) (fun b hb hl => uh TN b hl (by omega)))
      have DV:Hid (∀ k,(Value.slice pV vals.length dV).ownBlock = some k → k ≠ u3.heap.size ∧ W0.drew.heap.size ≤ k ∧ k < u1.heap.size):=hide (fun k hk => by have:=(uh OV).lt9 k hk; omega)
      have DN:Hid (∀ k,(Value.slice pN nodes.length dN).ownBlock = some k → k ≠ u3.heap.size ∧ u1.heap.size ≤ k ∧ k < u2.heap.size):=hide (fun k hk => by have:=(uh ON).lt9 k hk; omega)
      have HI:Hid (Li .i64 (fun b => W0.heap.size ≤ b ∧ b ≠ u3.heap.size ∧ (Value.slice pV vals.length dV).ownBlock ≠ some b ∧ (Value.slice pN nodes.length dN).ownBlock ≠ some b) u9 pI dI inp):=hide (Li.move9 (uh OI) (fun b o e hp => (uh FI b o e hp).1) (by have:=(uh S9).1.size; omega) (fun b hb hl => uh TI b hl (by omega)) (fun b hb hl => ⟨by omega,by omega,(fun e => by have:=uh DV b e; omega),(fun e => by have:=uh DN b e; omega)⟩))
      have HO:Hid (Li .i64 (fun b => W0.heap.size ≤ b ∧ b ≠ u3.heap.size ∧ (Value.slice pV vals.length dV).ownBlock ≠ some b ∧ (Value.slice pN nodes.length dN).ownBlock ≠ some b) u9 pO dO out):=hide (Li.move9 (uh OO) (fun b o e hp => (uh FO b o e hp).1) (by have:=(uh S9).1.size; omega) (fun b hb hl => uh TO b hl (by omega)) (fun b hb hl => ⟨by omega,by omega,(fun e => by have:=uh DV b e; omega),(fun e => by have:=uh DN b e; omega)⟩))
      refine hK.out _ _ (uh BF) (fun hH9 => ?_)
      clear hK KC
      (try simp only [Act.put,List.setIfInBounds_toArray,List.set_cons_zero,List.set_cons_succ])
      refine wpAnyH_done (by kernel_rfl) ?_ _
      go_wp2_with fail
      go_meet
      case rel => exact ⟨u3.heap.size,pV,dV,pN,dN,pI,dI,pO,dO,rfl,B9,VR,NR,hide (fun k hk => ⟨(uh DV k hk).1,(fun e => by have:=uh DV k hk; have:=uh DN k e; omega)⟩),hide (fun e => (uh DN _ e).1 rfl),HI,HO,BF,hide (by omega)⟩
    ·
     go_simp
     have BX:=hide (Box.new u2 grZ 32)
     have BA:=hide (al1p u2 (.cells grZ 32))
     have qa:=(uh BA).size
     have qb:(u2.alloc (.cells grZ 32)).heap.size = u2.heap.size + 1:=by simp
     unfold grZ at BX BA qa qb
     refine hK.out _ _ (bl_tr hH2 (uh BA)) (fun hA => ?_)
     clear hK KC
     (try simp only [Act.put,List.setIfInBounds_toArray,List.set_cons_zero,List.set_cons_succ])
     refine wpAnyH_ready (rs:=[8]) (by kernel_rfl) (by simp) ?_
     refine AllReadyH.cons (o:={ dst:=some 16,op:=_,type:=_,pos:=_,after:=_,guard:=_ }) rfl (fun KC hK => ?_) (AllReadyH.nil)
     go_simp
     refine (uh CI _ hA).mono ?_
     rintro e u3 ⟨pI,dI,rfl,hL,hF,hB⟩
     have OI:=hide hL
     have FI:=hide hF
     have LI:=hide hB
     have q3:=hB.size
     refine hK.out _ _ (bl_tr hA (uh LI)) (fun hH3 => ?_)
     clear hK KC hL hF hB
     (try simp only [Act.put,List.setIfInBounds_toArray,List.set_cons_zero,List.set_cons_succ])
     refine wpAnyH_ready (rs:=[11]) (by kernel_rfl) (by simp) ?_
     refine AllReadyH.cons (o:={ dst:=some 19,op:=_,type:=_,pos:=_,after:=_,guard:=_ }) rfl (fun KC hK => ?_) (AllReadyH.nil)
     go_simp
     refine (uh CO _ hH3).mono ?_
     rintro e u4 ⟨pO,dO,rfl,hL,hF,hB⟩
     have OO:=hide hL
     have FO:=hide hF
     have LO:=hide hB
     have q4:=hB.size
     refine hK.out _ _ (bl_tr hH3 (uh LO)) (fun hH4 => ?_)
     clear hK KC hL hF hB
     (try simp only [Act.put,List.setIfInBounds_toArray,List.set_cons_zero,List.set_cons_succ])
     refine wpAnyH_take (i:=12) (oi:={ dst:=some 20,op:=_,type:=_,pos:=_,after:=_,guard:=_ }) (v:=?vv11) rfl (by kernel_rfl) (by kernel_rfl) (by kernel_rfl) (fun _ _ _ h => h) (Or.inl ⟨by rfl,?hy11⟩) (by assumption) ?rest11
     case hy11 => (intro w9 hSw; (try dsimp only at hSw); go_simp; (first | done | with_reducible rfl))
     (try simp only [Act.put,List.setIfInBounds_toArray,List.set_cons_zero,List.set_cons_succ])
     refine wpAnyH_ready (rs:=[14]) (by kernel_rfl) (by simp) ?_
     refine AllReadyH.cons (o:={ dst:=none,op:=_,type:=_,pos:=_,after:=_,guard:=_ }) rfl (fun KC hK => ?_) (AllReadyH.nil)
     refine step_storeG aggGr rfl _ _ rfl rfl rfl (((uh BX).below (bl_tr ((uh LI)) (uh LO)))) rfl rfl ?_ ?_
     ·intro q hq
      simp only [List.mem_cons,List.not_mem_nil,or_false] at hq
      rcases hq with rfl | rfl | rfl | rfl <;> rfl
     intro u9 b9 s9 z9
     have B9:=hide b9
     have S9:=hide s9
     clear b9 s9 z9
     have q0:W0.drew.heap.size = W0.heap.size:=rfl
     have qh:=hHeld.size
     have q9:=(uh S9).1.size
     have BF:Hid (Below W0.heap.size W0 u9):=hide (bl_tr7 hH4 (bl_mono7 (uh S9).1 (by omega)))
     have TV:Hid (∀ b,b < u1.heap.size → b ≠ u2.heap.size → u9.heap[b]? = u1.heap[b]?):=hide (fun b hb hg => ((uh S9).block hg (Nat.lt_of_lt_of_le hb (bl_tr (bl_tr (bl_tr ((uh LN)) (uh BA)) (uh LI)) (uh LO)).size)).trans ((bl_tr (bl_tr (bl_tr ((uh LN)) (uh BA)) (uh LI)) (uh LO)).block b hb))
     have TN:Hid (∀ b,b < u2.heap.size → b ≠ u2.heap.size → u9.heap[b]? = u2.heap[b]?):=hide (fun b hb hg => ((uh S9).block hg (Nat.lt_of_lt_of_le hb (bl_tr (bl_tr ((uh BA)) (uh LI)) (uh LO)).size)).trans ((bl_tr (bl_tr ((uh BA)) (uh LI)) (uh LO)).block b hb))
     have TI:Hid (∀ b,b < u3.heap.size → b ≠ u2.heap.size → u9.heap[b]? = u3.heap[b]?):=hide (fun b hb hg => ((uh S9).block hg (Nat.lt_of_lt_of_le hb ((uh LO)).size)).trans (((uh LO)).block b hb))
     have TO:Hid (∀ b,b < u4.heap.size → b ≠ u2.heap.size → u9.heap[b]? = u4.heap[b]?):=hide (fun b hb hg => (uh S9).block hg hb)
     have VR:Hid (OwnR 59 8 vgCells W0 u9 (.slice pV vals.length dV) vals):=hide (OwnR.move9 (uh OV) (by omega) (uh BF) (fun b hb hl => uh TV b hl (by omega)))
     have NR:Hid (OwnR 51 40 gnCells W0 u9 (.slice pN nodes.length dN) nodes):=hide (OwnR.move9 (uh ON) (by omega) (uh BF) (fun b hb hl => uh TN b hl (by omega)))
     have DV:Hid (∀ k,(Value.slice pV vals.length dV).ownBlock = some k → k ≠ u2.heap.size ∧ W0.drew.heap.size ≤ k ∧ k < u1.heap.size):=hide (fun k hk => by have:=(uh OV).lt9 k hk; omega)
     have DN:Hid (∀ k,(Value.slice pN nodes.length dN).ownBlock = some k → k ≠ u2.heap.size ∧ u1.heap.size ≤ k ∧ k < u2.heap.size):=hide (fun k hk => by have:=(uh ON).lt9 k hk; omega)
     have HI:Hid (Li .i64 (fun b => W0.heap.size ≤ b ∧ b ≠ u2.heap.size ∧ (Value.slice pV vals.length dV).ownBlock ≠ some b ∧ (Value.slice pN nodes.length dN).ownBlock ≠ some b) u9 pI dI inp):=hide (Li.move9 (uh OI) (fun b o e hp => (uh FI b o e hp).1) (by have:=(uh S9).1.size; omega) (fun b hb hl => uh TI b hl (by omega)) (fun b hb hl => ⟨by omega,by omega,(fun e => by have:=uh DV b e; omega),(fun e => by have:=uh DN b e; omega)⟩))
     have HO:Hid (Li .i64 (fun b => W0.heap.size ≤ b ∧ b ≠ u2.heap.size ∧ (Value.slice pV vals.length dV).ownBlock ≠ some b ∧ (Value.slice pN nodes.length dN).ownBlock ≠ some b) u9 pO dO out):=hide (Li.move9 (uh OO) (fun b o e hp => (uh FO b o e hp).1) (by have:=(uh S9).1.size; omega) (fun b hb hl => uh TO b hl (by omega)) (fun b hb hl => ⟨by omega,by omega,(fun e => by have:=uh DV b e; omega),(fun e => by have:=uh DN b e; omega)⟩))
     refine hK.out _ _ (uh BF) (fun hH9 => ?_)
     clear hK KC
     (try simp only [Act.put,List.setIfInBounds_toArray,List.set_cons_zero,List.set_cons_succ])
     refine wpAnyH_done (by kernel_rfl) ?_ _
     go_wp2_with fail
     go_meet
     case rel => exact ⟨u2.heap.size,pV,dV,pN,dN,pI,dI,pO,dO,rfl,B9,VR,NR,hide (fun k hk => ⟨(uh DV k hk).1,(fun e => by have:=uh DV k hk; have:=uh DN k e; omega)⟩),hide (fun e => (uh DN _ e).1 rfl),HI,HO,BF,hide (by omega)⟩
   ·
    go_simp
    have BX:=hide (Box.new u1 grZ 32)
    have BA:=hide (al1p u1 (.cells grZ 32))
    have qa:=(uh BA).size
    have qb:(u1.alloc (.cells grZ 32)).heap.size = u1.heap.size + 1:=by simp
    unfold grZ at BX BA qa qb
    refine hK.out _ _ (bl_tr hH1 (uh BA)) (fun hA => ?_)
    clear hK KC
    (try simp only [Act.put,List.setIfInBounds_toArray,List.set_cons_zero,List.set_cons_succ])
    refine wpAnyH_ready (rs:=[5]) (by kernel_rfl) (by simp) ?_
    refine AllReadyH.cons (o:={ dst:=some 13,op:=_,type:=_,pos:=_,after:=_,guard:=_ }) rfl (fun KC hK => ?_) (AllReadyH.nil)
    go_simp
    refine (uh CN _ hA).mono ?_
    rintro e u2 ⟨pN,dN,rfl,hov⟩
    have ON:=hide hov
    have LN:=hide hov.2
    have q2:=hov.2.size
    refine hK.out _ _ (bl_tr hA (uh LN)) (fun hH2 => ?_)
    clear hK KC hov
    (try simp only [Act.put,List.setIfInBounds_toArray,List.set_cons_zero,List.set_cons_succ])
    refine wpAnyH_ready (rs:=[8]) (by kernel_rfl) (by simp) ?_
    refine AllReadyH.cons (o:={ dst:=some 16,op:=_,type:=_,pos:=_,after:=_,guard:=_ }) rfl (fun KC hK => ?_) (AllReadyH.nil)
    go_simp
    refine (uh CI _ hH2).mono ?_
    rintro e u3 ⟨pI,dI,rfl,hL,hF,hB⟩
    have OI:=hide hL
    have FI:=hide hF
    have LI:=hide hB
    have q3:=hB.size
    refine hK.out _ _ (bl_tr hH2 (uh LI)) (fun hH3 => ?_)
    clear hK KC hL hF hB
    (try simp only [Act.put,List.setIfInBounds_toArray,List.set_cons_zero,List.set_cons_succ])
    refine wpAnyH_ready (rs:=[11]) (by kernel_rfl) (by simp) ?_
    refine AllReadyH.cons (o:={ dst:=some 19,op:=_,type:=_,pos:=_,after:=_,guard:=_ }) rfl (fun KC hK => ?_) (AllReadyH.nil)
    go_simp
    refine (uh CO _ hH3).mono ?_
    rintro e u4 ⟨pO,dO,rfl,hL,hF,hB⟩
    have OO:=hide hL
    have FO:=hide hF
    have LO:=hide hB
    have q4:=hB.size
    refine hK.out _ _ (bl_tr hH3 (uh LO)) (fun hH4 => ?_)
    clear hK KC hL hF hB
    (try simp only [Act.put,List.setIfInBounds_toArray,List.set_cons_zero,List.set_cons_succ])
    refine wpAnyH_take (i:=12) (oi:={ dst:=some 20,op:=_,type:=_,pos:=_,after:=_,guard:=_ }) (v:=?vv12) rfl (by kernel_rfl) (by kernel_rfl) (by kernel_rfl) (fun _ _ _ h => h) (Or.inl ⟨by rfl,?hy12⟩) (by assumption) ?rest12
    case hy12 => (intro w9 hSw; (try dsimp only at hSw); go_simp; (first | done | with_reducible rfl))
    (try simp only [Act.put,List.setIfInBounds_toArray,List.set_cons_zero,List.set_cons_succ])
    refine wpAnyH_ready (rs:=[14]) (by kernel_rfl) (by simp) ?_
    refine AllReadyH.cons (o:={ dst:=none,op:=_,type:=_,pos:=_,after:=_,guard:=_ }) rfl (fun KC hK => ?_) (AllReadyH.nil)
    refine step_storeG aggGr rfl _ _ rfl rfl rfl (((uh BX).below (bl_tr (bl_tr ((uh LN)) (uh LI)) (uh LO)))) rfl rfl ?_ ?_
    ·intro q hq
     simp only [List.mem_cons,List.not_mem_nil,or_false] at hq
     rcases hq with rfl | rfl | rfl | rfl <;> rfl
    intro u9 b9 s9 z9
    have B9:=hide b9
    have S9:=hide s9
    clear b9 s9 z9
    have q0:W0.drew.heap.size = W0.heap.size:=rfl
    have qh:=hHeld.size
    have q9:=(uh S9).1.size
    have BF:Hid (Below W0.heap.size W0 u9):=hide (bl_tr7 hH4 (bl_mono7 (uh S9).1 (by omega)))
    have TV:Hid (∀ b,b < u1.heap.size → b ≠ u1.heap.size → u9.heap[b]? = u1.heap[b]?):=hide (fun b hb hg => ((uh S9).block hg (Nat.lt_of_lt_of_le hb (bl_tr (bl_tr (bl_tr ((uh BA)) (uh LN)) (uh LI)) (uh LO)).size)).trans ((bl_tr (bl_tr (bl_tr ((uh BA)) (uh LN)) (uh LI)) (uh LO)).block b hb))
    have TN:Hid (∀ b,b < u2.heap.size → b ≠ u1.heap.size → u9.heap[b]? = u2.heap[b]?):=hide (fun b hb hg => ((uh S9).block hg (Nat.lt_of_lt_of_le hb (bl_tr ((uh LI)) (uh LO)).size)).trans ((bl_tr ((uh LI)) (uh LO)).block b hb))
    have TI:Hid (∀ b,b < u3.heap.size → b ≠ u1.heap.size → u9.heap[b]? = u3.heap[b]?):=hide (fun b hb hg => ((uh S9).block hg (Nat.lt_of_lt_of_le hb ((uh LO)).size)).trans (((uh LO)).block b hb))
    have TO:Hid (∀ b,b < u4.heap.size → b ≠ u1.heap.size → u9.heap[b]? = u4.heap[b]?):=hide (fun b hb hg => (uh S9).block hg hb)
    have VR:Hid (OwnR 59 8 vgCells W0 u9 (.slice pV vals.length dV) vals):=hide (OwnR.move9 (uh OV) (by omega) (uh BF) (fun b hb hl => uh TV b hl (by omega)))
    have NR:Hid (OwnR 51 40 gnCells W0 u9 (.slice pN nodes.length dN) nodes):=hide (OwnR.move9 (uh ON) (by omega) (uh BF) (fun b hb hl => uh TN b hl (by omega)))
    have DV:Hid (∀ k,(Value.slice pV vals.length dV).ownBlock = some k → k ≠ u1.heap.size ∧ W0.drew.heap.size ≤ k ∧ k < u1.heap.size):=hide (fun k hk => by have:=(uh OV).lt9 k hk; omega)
    have DN:Hid (∀ k,(Value.slice pN nodes.length dN).ownBlock = some k → k ≠ u1.heap.size ∧ (u1.alloc (Obj.cells #[.slice none 0 0,.slice none 0 0,.slice none 0 0,.slice none 0 0] 32)).heap.size ≤ k ∧ k < u2.heap.size):=hide (fun k hk => by have:=(uh ON).lt9 k hk; omega)
    have HI:Hid (Li .i64 (fun b => W0.heap.size ≤ b ∧ b ≠ u1.heap.size ∧ (Value.slice pV vals.length dV).ownBlock ≠ some b ∧ (Value.slice pN nodes.length dN).ownBlock ≠ some b) u9 pI dI inp):=hide (Li.move9 (uh OI) (fun b o e hp => (uh FI b o e hp).1) (by have:=(uh S9).1.size; omega) (fun b hb hl => uh TI b hl (by omega)) (fun b hb hl => ⟨by omega,by omega,(fun e => by have:=uh DV b e; omega),(fun e => by have:=uh DN b e; omega)⟩))
    have HO:Hid (Li .i64 (fun b => W0.heap.size ≤ b ∧ b ≠ u1.heap.size ∧ (Value.slice pV vals.length dV).ownBlock ≠ some b ∧ (Value.slice pN nodes.length dN).ownBlock ≠ some b) u9 pO dO out):=hide (Li.move9 (uh OO) (fun b o e hp => (uh FO b o e hp).1) (by have:=(uh S9).1.size; omega) (fun b hb hl => uh TO b hl (by omega)) (fun b hb hl => ⟨by omega,by omega,(fun e => by have:=uh DV b e; omega),(fun e => by have:=uh DN b e; omega)⟩))
    refine hK.out _ _ (uh BF) (fun hH9 => ?_)
    clear hK KC
    (try simp only [Act.put,List.setIfInBounds_toArray,List.set_cons_zero,List.set_cons_succ])
    refine wpAnyH_done (by kernel_rfl) ?_ _
    go_wp2_with fail
    go_meet
    case rel => exact ⟨u1.heap.size,pV,dV,pN,dN,pI,dI,pO,dO,rfl,B9,VR,NR,hide (fun k hk => ⟨(uh DV k hk).1,(fun e => by have:=uh DV k hk; have:=uh DN k e; omega)⟩),hide (fun e => (uh DN _ e).1 rfl),HI,HO,BF,hide (by omega)⟩
  ·
   go_simp
   have BX:=hide (Box.new W0.drew grZ 32)
   have BA:=hide (al1p W0.drew (.cells grZ 32))
   have qa:=(uh BA).size
   have qb:(W0.drew.alloc (.cells grZ 32)).heap.size = W0.drew.heap.size + 1:=by simp
   unfold grZ at BX BA qa qb
   have qe:((W0.alloc (Obj.cells #[.slice none 0 0,.slice none 0 0,.slice none 0 0,.slice none 0 0] 32)).drew).heap.size = W0.heap.size + 1:=by show (W0.alloc _).heap.size = _; simp
   refine hK.out _ _ (bl_tr hHeld (uh BA)) (fun hA => ?_)
   clear hK KC
   (try simp only [Act.put,List.setIfInBounds_toArray,List.set_cons_zero,List.set_cons_succ])
   refine wpAnyH_ready (rs:=[2]) (by kernel_rfl) (by simp) ?_
   refine AllReadyH.cons (o:={ dst:=some 10,op:=_,type:=_,pos:=_,after:=_,guard:=_ }) rfl (fun KC hK => ?_) (AllReadyH.nil)
   go_simp
   refine (uh CV _ hA).mono ?_
   rintro e u1 ⟨pV,dV,rfl,hov⟩
   have OV:=hide hov
   have LV:=hide hov.2
   have q1:=hov.2.size
   refine hK.out _ _ (bl_tr hA (uh LV)) (fun hH1 => ?_)
   clear hK KC hov
   (try simp only [Act.put,List.setIfInBounds_toArray,List.set_cons_zero,List.set_cons_succ])
   refine wpAnyH_ready (rs:=[5]) (by kernel_rfl) (by simp) ?_
   refine AllReadyH.cons (o:={ dst:=some 13,op:=_,type:=_,pos:=_,after:=_,guard:=_ }) rfl (fun KC hK => ?_) (AllReadyH.nil)
   go_simp
   refine (uh CN _ hH1).mono ?_
   rintro e u2 ⟨pN,dN,rfl,hov⟩
   have ON:=hide hov
   have LN:=hide hov.2
   have q2:=hov.2.size
   refine hK.out _ _ (bl_tr hH1 (uh LN)) (fun hH2 => ?_)
   clear hK KC hov
   (try simp only [Act.put,List.setIfInBounds_toArray,List.set_cons_zero,List.set_cons_succ])
   refine wpAnyH_ready (rs:=[8]) (by kernel_rfl) (by simp) ?_
   refine AllReadyH.cons (o:={ dst:=some 16,op:=_,type:=_,pos:=_,after:=_,guard:=_ }) rfl (fun KC hK => ?_) (AllReadyH.nil)
   go_simp
   refine (uh CI _ hH2).mono ?_
   rintro e u3 ⟨pI,dI,rfl,hL,hF,hB⟩
   have OI:=hide hL
   have FI:=hide hF
   have LI:=hide hB
   have q3:=hB.size
   refine hK.out _ _ (bl_tr hH2 (uh LI)) (fun hH3 => ?_)
   clear hK KC hL hF hB
   (try simp only [Act.put,List.setIfInBounds_toArray,List.set_cons_zero,List.set_cons_succ])
   refine wpAnyH_ready (rs:=[11]) (by kernel_rfl) (by simp) ?_
   refine AllReadyH.cons (o:={ dst:=some 19,op:=_,type:=_,pos:=_,after:=_,guard:=_ }) rfl (fun KC hK => ?_) (AllReadyH.nil)
   go_simp
   refine (uh CO _ hH3).mono ?_
   rintro e u4 ⟨pO,dO,rfl,hL,hF,hB⟩
   have OO:=hide hL
   have FO:=hide hF
   have LO:=hide hB
   have q4:=hB.size
   refine hK.out _ _ (bl_tr hH3 (uh LO)) (fun hH4 => ?_)
   clear hK KC hL hF hB
   (try simp only [Act.put,List.setIfInBounds_toArray,List.set_cons_zero,List.set_cons_succ])
   refine wpAnyH_take (i:=12) (oi:={ dst:=some 20,op:=_,type:=_,pos:=_,after:=_,guard:=_ }) (v:=?vv13) rfl (by kernel_rfl) (by kernel_rfl) (by kernel_rfl) (fun _ _ _ h => h) (Or.inl ⟨by rfl,?hy13⟩) (by assumption) ?rest13
   case hy13 => (intro w9 hSw; (try dsimp only at hSw); go_simp; (first | done | with_reducible rfl))
   (try simp only [Act.put,List.setIfInBounds_toArray,List.set_cons_zero,List.set_cons_succ])
   refine wpAnyH_ready (rs:=[14]) (by kernel_rfl) (by simp) ?_
   refine AllReadyH.cons (o:={ dst:=none,op:=_,type:=_,pos:=_,after:=_,guard:=_ }) rfl (fun KC hK => ?_) (AllReadyH.nil)
   refine step_storeG aggGr rfl _ _ rfl rfl rfl (((uh BX).below (bl_tr (bl_tr (bl_tr ((uh LV)) (uh LN)) (uh LI)) (uh LO)))) rfl rfl ?_ ?_
   ·intro q hq
    simp only [List.mem_cons,List.not_mem_nil,or_false] at hq
    rcases hq with rfl | rfl | rfl | rfl <;> rfl
   intro u9 b9 s9 z9
   have B9:=hide b9
   have S9:=hide s9
   clear b9 s9 z9
   have q0:W0.drew.heap.size = W0.heap.size:=rfl
   have qh:=hHeld.size
   have q9:=(uh S9).1.size
   have BF:Hid (Below W0.heap.size W0 u9):=hide (bl_tr7 hH4 (bl_mono7 (uh S9).1 (by omega)))
   have TV:Hid (∀ b,b < u1.heap.size → b ≠ W0.drew.heap.size → u9.heap[b]? = u1.heap[b]?):=hide (fun b hb hg => ((uh S9).block hg (Nat.lt_of_lt_of_le hb (bl_tr (bl_tr ((uh LN)) (uh LI)) (uh LO)).size)).trans ((bl_tr (bl_tr ((uh LN)) (uh LI)) (uh LO)).block b hb))
   have TN:Hid (∀ b,b < u2.heap.size → b ≠ W0.drew.heap.size → u9.heap[b]? = u2.heap[b]?):=hide (fun b hb hg => ((uh S9).block hg (Nat.lt_of_lt_of_le hb (bl_tr ((uh LI)) (uh LO)).size)).trans ((bl_tr ((uh LI)) (uh LO)).block b hb))
   have TI:Hid (∀ b,b < u3.heap.size → b ≠ W0.drew.heap.size → u9.heap[b]? = u3.heap[b]?):=hide (fun b hb hg => ((uh S9).block hg (Nat.lt_of_lt_of_le hb ((uh LO)).size)).trans (((uh LO)).block b hb))
   have TO:Hid (∀ b,b < u4.heap.size → b ≠ W0.drew.heap.size → u9.heap[b]? = u4.heap[b]?):=hide (fun b hb hg => (uh S9).block hg hb)
   have VR:Hid (OwnR 59 8 vgCells W0 u9 (.slice pV vals.length dV) vals):=hide (OwnR.move9 (uh OV) (by omega) (uh BF) (fun b hb hl => uh TV b hl (by omega)))
   have NR:Hid (OwnR 51 40 gnCells W0 u9 (.slice pN nodes.length dN) nodes):=hide (OwnR.move9 (uh ON) (by omega) (uh BF) (fun b hb hl => uh TN b hl (by omega)))
   have DV:Hid (∀ k,(Value.slice pV vals.length dV).ownBlock = some k → k ≠ W0.drew.heap.size ∧ (W0.drew.alloc (Obj.cells #[.slice none 0 0,.slice none 0 0,.slice none 0 0,.slice none 0 0] 32)).heap.size ≤ k ∧ k < u1.heap.size):=hide (fun k hk => by have:=(uh OV).lt9 k hk; omega)
   have DN:Hid (∀ k,(Value.slice pN nodes.length dN).ownBlock = some k → k ≠ W0.drew.heap.size ∧ u1.heap.size ≤ k ∧ k < u2.heap.size):=hide (fun k hk => by have:=(uh ON).lt9 k hk; omega)
   have HI:Hid (Li .i64 (fun b => W0.heap.size ≤ b ∧ b ≠ W0.drew.heap.size ∧ (Value.slice pV vals.length dV).ownBlock ≠ some b ∧ (Value.slice pN nodes.length dN).ownBlock ≠ some b) u9 pI dI inp):=hide (Li.move9 (uh OI) (fun b o e hp => (uh FI b o e hp).1) (by have:=(uh S9).1.size; omega) (fun b hb hl => uh TI b hl (by omega)) (fun b hb hl => ⟨by omega,by omega,(fun e => by have:=uh DV b e; omega),(fun e => by have:=uh DN b e; omega)⟩))
   have HO:Hid (Li .i64 (fun b => W0.heap.size ≤ b ∧ b ≠ W0.drew.heap.size ∧ (Value.slice pV vals.length dV).ownBlock ≠ some b ∧ (Value.slice pN nodes.length dN).ownBlock ≠ some b) u9 pO dO out):=hide (Li.move9 (uh OO) (fun b o e hp => (uh FO b o e hp).1) (by have:=(uh S9).1.size; omega) (fun b hb hl => uh TO b hl (by omega)) (fun b hb hl => ⟨by omega,by omega,(fun e => by have:=uh DV b e; omega),(fun e => by have:=uh DN b e; omega)⟩))
   refine hK.out _ _ (uh BF) (fun hH9 => ?_)
   clear hK KC
   (try simp only [Act.put,List.setIfInBounds_toArray,List.set_cons_zero,List.set_cons_succ])
   refine wpAnyH_done (by kernel_rfl) ?_ _
   go_wp2_with fail
   go_meet
   case rel => exact ⟨W0.drew.heap.size,pV,dV,pN,dN,pI,dI,pO,dO,rfl,B9,VR,NR,hide (fun k hk => ⟨(uh DV k hk).1,(fun e => by have:=uh DV k hk; have:=uh DN k e; omega)⟩),hide (fun e => (uh DN _ e).1 rfl),HI,HO,BF,hide (by omega)⟩
 case rest =>
  obtain ⟨g,pV,dV,pN,dN,pI,dI,pO,dO,rfl,HBX,HVR,HNR,HDV,HDN,HII,HOO,HBW,HG0⟩:=hcut
  obtain ⟨wk,hwk⟩:∃ u,u = wc:=⟨_,rfl⟩
  subst hwk
  have bx:=(uh HBX).cell
  go_upto_region 2 with fail
  go_upto_region 3 with fail
  clear bx
  obtain ⟨RBV,hRBV⟩:∃ r,(Value.slice pV vals.length dV).ownBlock = r:=⟨_,rfl⟩
  have HRB:=hide hRBV
  rw [hRBV] at HII HOO
  clear hRBV
  have hlv:vals.length ≤ 9223372036854775807:=(uh G0).1.1.len
  have HLV:=hide hlv
  clear hlv
  go_loopw [24] (fun iv wr => ∃ (n:Nat) (LV:List VgA),iv = .int .i64 n ∧ n ≤ vals.length ∧ Hid (OwnR 59 8 vgCells W0 wr (.slice pV vals.length dV) LV) ∧ Hid (MixV (fun b => W0.heap.size ≤ b ∧ b ≠ g ∧ RBV ≠ some b ∧ (Value.slice pN nodes.length dN).ownBlock ≠ some b) wr n vals LV) ∧ Hid (wk.grownBy wr RBV)) (fun iv _ => vals.length - (intOf iv).toNat)
  case atStart => exact ⟨0,vals,rfl,by omega,HVR,hide (MixV.start _ _ _),hide (gr_below (Below.refl _ _) _)⟩
  case round =>
   obtain ⟨n,LV,rfl,hn,HO,HM,HGR⟩:=hrel
   have hlen:=uh HLV
   by_cases hlt:n < vals.length
   ·have hi:(n:Int) < (vals.length:Int):=by omega
    obtain ⟨rb,cap,hv,hrb,hrow⟩:∃ rb cap,(Value.slice pV vals.length dV) = .slice (some ⟨rb,0,none⟩) vals.length cap ∧ W0.heap.size ≤ rb ∧ RowN 59 8 vgCells wr rb cap LV:=by
     rcases (uh HO).rowN with ⟨_,e⟩ | ⟨rb,cap,e,h1,h2⟩
     ·have:=(uh HM).1; rw [e] at this; simp at this; omega
     ·exact ⟨rb,cap,by rw [← (uh HM).1]; rw [(uh HM).1] at e ⊢; exact e,h1,h2⟩
    injection hv with hv1 _ hv2
    subst hv1; subst hv2
    have HBN:Hid (∀ k,RBV = some k → k = rb):=hide (fun k hk => by have:=uh HRB; rw [hk] at this; simpa [Value.ownBlock] using this.symm)
    have hgr:g ≠ rb:=fun e => (uh HDV rb rfl).1 e.symm
    have RB0:Hid (RBV = some rb):=hide (uh HRB).symm
    have BWr:Hid (Below W0.heap.size W0 wr):=hide (uh HO).2
    have GXr:Hid (Box wr g #[.slice (some ⟨rb,0,none⟩) vals.length dV,.slice pN nodes.length dN,.slice pI inp.length dI,.slice pO out.length dO] 32):=hide (((uh HGR).block g (uh HBX).lt (by rw [uh RB0]; intro e; exact hgr (by simpa using e))).trans (uh HBX))
    have HNL:=hide (show n < LV.length by rw [(uh HM).1]; exact hlt)
    have HXE:Hid (LV.getD n noVgA = vals.getD n noVgA):=hide (((uh HM).2 n hlt).2 (Nat.le_refl _))
    have HXI:Hid (VgIn (fun b => b < w.heap.size) W0 (vals.getD n noVgA)):=hide ((uh G0).1.2.2 _ (getD_mem9 hlt))
    have HXS:=hide ((uh HS).vs _ (getD_mem9 (z:=noVgA) hlt))
    have HRW:=hide hrow
    have A1:Hid (At8 wr rb (n * 8) (vgCells (vals.getD n noVgA))):=hide (fun j v hj => (uh HRW).at vgWd (z:=noVgA) (i:=n) (j:=j) (uh HNL) (by rw [uh HXE]; exact hj))
    have HRB0:=hide hrb
    have HLT:=hide hlt
    clear hrow hrb
    obtain ⟨x,hx⟩:∃ x,vals.getD n noVgA = x:=⟨_,rfl⟩
    rw [hx] at HXE HXI HXS A1
    have HX:=hide hx
    clear hx
    have hbr:=(uh HRW).lt
    have hgl:=(uh GXr).lt
    go_upto_region 5 with (first
     | (refine wpList_isLoad 59 rfl ?_; refine wpList_loadG aggVal rfl _ rfl rfl (vgWd.2.1 x) (uh A1) ?_)
     | (refine wpList_isStore 59 rfl ?_; (refine wpList_storeG aggVal rfl _ _ rfl rfl rfl (Box.new wr valZ 59) (vgSize x) rfl (vgWd.ones x) ?_; intro w5 b5 s5 z5; have V5:=hide b5; have B5:Hid (Below wr.heap.size wr w5):=hide (bl_tr7 (al1p _ _) s5.1); clear b5 s5 z5)))
    obtain ⟨vb,hvb⟩:∃ b,wr.heap.size = b:=⟨_,rfl⟩
    have HVB:=hide hvb
    rw [hvb] at V5 hbr hgl ⊢
    clear hvb
    have V5L:Hid (Box w5 vb #[.int .i64 x.ty,.slice x.q x.ds.length x.c,.bool x.con,.int .i64 x.T.1,.slice x.A.pd x.T.2.1.length x.A.cd,.slice x.A.pf x.T.2.2.1.length x.A.cf,.slice x.A.pi x.T.2.2.2.1.length x.A.ci,.slice x.A.pb x.T.2.2.2.2.length x.A.cb] 59):=hide (uh V5)
    have G5:=hide ((uh GXr).below (uh B5))
    have R5:=hide ((uh HRW).below (uh B5))
    have BW5:=hide (bl_tr (uh BWr) (uh B5))
    have CD:=hide (fun v (hv:Below W0.heap.size W0 v) => ccopi9_any x.q x.c x.ds v ((uh HXI).2.1.1.below hv) (uh HXS).1)
    have hvr:rb ≠ vb:=by omega
    have hgv:g ≠ vb:=by omega
    have HVR:=hide hvr
    have KA:Hid (∀ v,Below w5.heap.size w5 v → (∀ j,v.cell? ⟨g,j,none⟩ = (#[.slice (some ⟨rb,0,none⟩) vals.length dV,.slice pN nodes.length dN,.slice pI inp.length dI,.slice pO out.length dO]:Array Value)[j]?) ∧ (∀ j,v.cell? ⟨vb,j,none⟩ = (#[.int .i64 x.ty,.slice x.q x.ds.length x.c,.bool x.con,.int .i64 x.T.1,.slice x.A.pd x.T.2.1.length x.A.cd,.slice x.A.pf x.T.2.2.1.length x.A.cf,.slice x.A.pi x.T.2.2.2.1.length x.A.ci,.slice x.A.pb x.T.2.2.2.2.length x.A.cb]:Array Value)[j]?)):=hide (fun v hv => ⟨((uh G5).below hv).cell,((uh V5L).below hv).cell⟩)
    clear hbr hgl
    refine wp_region_held_drew (S:=fun v => (∀ j,v.cell? ⟨g,j,none⟩ = (#[.slice (some ⟨rb,0,none⟩) vals.length dV,.slice pN nodes.length dN,.slice pI inp.length dI,.slice pO out.length dO]:Array Value)[j]?) ∧ (∀ j,v.cell? ⟨vb,j,none⟩ = (#[.int .i64 x.ty,.slice x.q x.ds.length x.c,.bool x.con,.int .i64 x.T.1,.slice x.A.pd x.T.2.1.length x.A.cd,.slice x.A.pf x.T.2.2.1.length x.A.cf,.slice x.A.pi x.T.2.2.2.1.length x.A.ci,.slice x.A.pb x.T.2.2.2.2.length x.A.cb]:Array Value)[j]?)) (by kernel_rfl) (uh KA _ (bdrew8 _)) (fun hHeld => ?_)
    refine wpAnyH_take (i:=0) (oi:={ dst:=some 29,op:=_,type:=_,pos:=_,after:=_,guard:=_ }) (v:=?vv14) rfl (by kernel_rfl) (by kernel_rfl) (by kernel_rfl) (fun _ _ _ h => h) (Or.inl ⟨by rfl,?hy14⟩) (by assumption) ?rest14
    case hy14 => (intro w9 hSw; obtain ⟨c9,c8⟩:=hSw; (try dsimp only at c9 c8); go_simp; (first | done | with_reducible rfl))
    (try simp only [Act.put,List.setIfInBounds_toArray,List.set_cons_zero,List.set_cons_succ])
    refine wpAnyH_take (i:=1) (oi:={ dst:=some 30,op:=_,type:=_,pos:=_,after:=_,guard:=_ }) (v:=?vv15) rfl (by kernel_rfl) (by kernel_rfl) (by kernel_rfl) (fun _ _ _ h => h) (Or.inl ⟨by rfl,?hy15⟩) (by assumption) ?rest15
    case hy15 => (intro w9 hSw; obtain ⟨c9,c8⟩:=hSw; (try dsimp only at c9 c8); go_simp; (first | done | with_reducible rfl))
    (try simp only [Act.put,List.setIfInBounds_toArray,List.set_cons_zero,List.set_cons_succ])
    refine wpAnyH_take (i:=2) (oi:={ dst:=some 31,op:=_,type:=_,pos:=_,after:=_,guard:=_ }) (v:=?vv16) rfl (by kernel_rfl) (by kernel_rfl) (by kernel_rfl) (fun _ _ _ h => h) (Or.inl ⟨by rfl,?hy16⟩) (by assumption) ?rest16
    case hy16 => (intro w9 hSw; obtain ⟨c9,c8⟩:=hSw; (try dsimp only at c9 c8); go_simp; (first | done | with_reducible rfl))
    (try simp only [Act.put,List.setIfInBounds_toArray,List.set_cons_zero,List.set_cons_succ])
    refine wpAnyH_take (i:=3) (oi:={ dst:=some 32,op:=_,type:=_,pos:=_,after:=_,guard:=_ }) (v:=?vv17) rfl (by kernel_rfl) (by kernel_rfl) (by kernel_rfl) (fun _ _ _ h => h) (Or.inl ⟨by rfl,?hy17⟩) (by assumption) ?rest17
    case hy17 => (intro w9 hSw; obtain ⟨c9,c8⟩:=hSw; (try dsimp only at c9 c8); go_simp; (first | done | with_reducible rfl))
    (try simp only [Act.put,List.setIfInBounds_toArray,List.set_cons_zero,List.set_cons_succ])
    refine wpAnyH_take (i:=4) (oi:={ dst:=some 33,op:=_,type:=_,pos:=_,after:=_,guard:=_ }) (v:=?vv18) rfl (by kernel_rfl) (by kernel_rfl) (by kernel_rfl) (fun _ _ _ h => h) (Or.inl ⟨by rfl,?hy18⟩) (by assumption) ?rest18
    case hy18 => (intro w9 hSw; obtain ⟨c9,c8⟩:=hSw; (try dsimp only at c9 c8); go_simp; (first | done | with_reducible rfl))
    (try simp only [Act.put,List.setIfInBounds_toArray,List.set_cons_zero,List.set_cons_succ])
    refine wpAnyH_ready (rs:=[5]) (by kernel_rfl) (by simp) ?_
    refine AllReadyH.cons (o:={ dst:=some 34,op:=_,type:=_,pos:=_,after:=_,guard:=_ }) rfl (fun KC hK => ?_) (AllReadyH.nil)
    go_simp
    refine (uh CD _ (bl_tr (uh BW5) (bdrew8 _))).mono ?_
    rintro e u6 ⟨⟨p6,d6,rfl,hL,hF⟩,hB⟩
    have B6:=hide (bl_tr (bdrew8 w5) hB)
    have L6:=hide hL
    have F6:=hide hF
    refine hK.out _ _ (uh KA _ (uh B6)) (fun hH6 => ?_)
    clear hK KC hL hF hB hHeld
    (try simp only [Act.put,List.setIfInBounds_toArray,List.set_cons_zero,List.set_cons_succ])
    refine wpAnyH_take (i:=6) (oi:={ dst:=some 35,op:=_,type:=_,pos:=_,after:=_,guard:=_ }) (v:=?vv19) rfl (by kernel_rfl) (by kernel_rfl) (by kernel_rfl) (fun _ _ _ h => h) (Or.inl ⟨by rfl,?hy19⟩) (by assumption) ?rest19
    case hy19 => (intro w9 hSw; obtain ⟨c9,c8⟩:=hSw; (try dsimp only at c9 c8); go_simp; (first | done | with_reducible rfl))
    (try simp only [Act.put,List.setIfInBounds_toArray,List.set_cons_zero,List.set_cons_succ])
    refine wpAnyH_take (i:=7) (oi:={ dst:=some 36,op:=_,type:=_,pos:=_,after:=_,guard:=_ }) (v:=?vv20) rfl (by kernel_rfl) (by kernel_rfl) (by kernel_rfl) (fun _ _ _ h => h) (Or.inl ⟨by rfl,?hy20⟩) (by assumption) ?rest20
    case hy20 => (intro w9 hSw; obtain ⟨c9,c8⟩:=hSw; (try dsimp only at c9 c8); go_simp; (first | done | with_reducible rfl))
    (try simp only [Act.put,List.setIfInBounds_toArray,List.set_cons_zero,List.set_cons_succ])
    refine wpAnyH_ready (rs:=[8]) (by kernel_rfl) (by simp) ?_
    refine AllReadyH.cons (o:={ dst:=none,op:=_,type:=_,pos:=_,after:=_,guard:=_ }) rfl (fun KC hK => ?_) (AllReadyH.nil)
    have R6:=hide ((uh R5).below (uh B6))
    have k6:u6.cell? ⟨rb,n * 8 + 1,none⟩ = some (.slice x.q x.ds.length x.c):=(uh R6).at vgWd (z:=noVgA) (i:=n) (j:=1) (uh HNL) (by rw [uh HXE]; rfl)
    have f6:=(uh R6).frozen (n * 8 + 1)
    have l6:=(uh R6).lt
    go_simp
    obtain ⟨u7,hu7⟩:∃ u,u6.setCell ⟨rb,n * 8 + 1,none⟩ (.slice p6 x.ds.length d6) = u:=⟨_,rfl⟩
    have S7:Hid (Stay rb u6 u7):=hide (by rw [← hu7]; exact Stay.set8 _)
    have G7:Hid (Box u7 g #[.slice (some ⟨rb,0,none⟩) vals.length dV,.slice pN nodes.length dN,.slice pI inp.length dI,.slice pO out.length dO] 32):=hide (((uh S7).block hgr ((uh G5).below (uh B6)).lt).trans ((uh G5).below (uh B6)))
    have V7:Hid (Box u7 vb #[.int .i64 x.ty,.slice x.q x.ds.length x.c,.bool x.con,.int .i64 x.T.1,.slice x.A.pd x.T.2.1.length x.A.cd,.slice x.A.pf x.T.2.2.1.length x.A.cf,.slice x.A.pi x.T.2.2.2.1.length x.A.ci,.slice x.A.pb x.T.2.2.2.2.length x.A.cb] 59):=hide (((uh S7).block (fun e => hvr e.symm) ((uh V5L).below (uh B6)).lt).trans ((uh V5L).below (uh B6)))
    have R7:Hid (RowN 59 8 vgCells u7 rb dV (LV.set n (x.withD p6 d6))):=hide (by rw [← hu7]; exact RowN.put vgWd noVgA (uh R6) (uh HNL) (by omega) (by rw [uh HXE]; rfl))
    (try rw [hu7])
    refine hK.out _ _ ⟨(uh G7).cell,(uh V7).cell⟩ (fun hH7 => ?_)
    clear hK KC hH6 k6 f6 l6
    (try simp only [Act.put,List.setIfInBounds_toArray,List.set_cons_zero,List.set_cons_succ])
    refine wpAnyH_done (by kernel_rfl) ?_ _
    clear hu7
    go_upto_region 6 with fail
    have BWu:Hid (Below W0.heap.size W0 u7):=hide (bl_tr7 (bl_tr (uh BW5) (uh B6)) (bl_mono7 (uh S7).1 (uh HRB0)))
    have CT:=hide (fun v (hv:Below W0.heap.size W0 v) => tcopy_any x.T x.A v ((uh HXI).2.2.hold (Hold.below hv)).inn (uh HXS).2)
    unfold tenV tenCells at CT
    have KB:Hid (∀ v,Below u7.heap.size u7 v → (∀ j,v.cell? ⟨g,j,none⟩ = (#[.slice (some ⟨rb,0,none⟩) vals.length dV,.slice pN nodes.length dN,.slice pI inp.length dI,.slice pO out.length dO]:Array Value)[j]?) ∧ (∀ j,v.cell? ⟨vb,j,none⟩ = (#[.int .i64 x.ty,.slice x.q x.ds.length x.c,.bool x.con,.int .i64 x.T.1,.slice x.A.pd x.T.2.1.length x.A.cd,.slice x.A.pf x.T.2.2.1.length x.A.cf,.slice x.A.pi x.T.2.2.2.1.length x.A.ci,.slice x.A.pb x.T.2.2.2.2.length x.A.cb]:Array Value)[j]?)):=hide (fun v hv => ⟨((uh G7).below hv).cell,((uh V7).below hv).cell⟩)
    refine wp_region_held_drew (S:=fun v => (∀ j,v.cell? ⟨g,j,none⟩ = (#[.slice (some ⟨rb,0,none⟩) vals.length dV,.slice pN nodes.length dN,.slice pI inp.length dI,.slice pO out.length dO]:Array Value)[j]?) ∧ (∀ j,v.cell? ⟨vb,j,none⟩ = (#[.int .i64 x.ty,.slice x.q x.ds.length x.c,.bool x.con,.int .i64 x.T.1,.slice x.A.pd x.T.2.1.length x.A.cd,.slice x.A.pf x.T.2.2.1.length x.A.cf,.slice x.A.pi x.T.2.2.2.1.length x.A.ci,.slice x.A.pb x.T.2.2.2.2.length x.A.cb]:Array Value)[j]?)) (by kernel_rfl) (uh KB _ (bdrew8 _)) (fun hHeld => ?_)
    refine wpAnyH_take (i:=0) (oi:={ dst:=some 37,op:=_,type:=_,pos:=_,after:=_,guard:=_ }) (v:=?vv21) rfl (by kernel_rfl) (by kernel_rfl) (by kernel_rfl) (fun _ _ _ h => h) (Or.inl ⟨by rfl,?hy21⟩) (by assumption) ?rest21
    case hy21 => (intro w9 hSw; obtain ⟨c9,c8⟩:=hSw; (try dsimp only at c9 c8); go_simp; (first | done | with_reducible rfl))
    (try simp only [Act.put,List.setIfInBounds_toArray,List.set_cons_zero,List.set_cons_succ])
    refine wpAnyH_take (i:=1) (oi:={ dst:=some 38,op:=_,type:=_,pos:=_,after:=_,guard:=_ }) (v:=?vv22) rfl (by kernel_rfl) (by kernel_rfl) (by kernel_rfl) (fun _ _ _ h => h) (Or.inl ⟨by rfl,?hy22⟩) (by assumption) ?rest22
    case hy22 => (intro w9 hSw; obtain ⟨c9,c8⟩:=hSw; (try dsimp only at c9 c8); go_simp; (first | done | with_reducible rfl))
    (try simp only [Act.put,List.setIfInBounds_toArray,List.set_cons_zero,List.set_cons_succ])
    refine wpAnyH_take (i:=2) (oi:={ dst:=some 39,op:=_,type:=_,pos:=_,after:=_,guard:=_ }) (v:=?vv23) rfl (by kernel_rfl) (by kernel_rfl) (by kernel_rfl) (fun _ _ _ h => h) (Or.inl ⟨by rfl,?hy23⟩) (by assumption) ?rest23
    case hy23 => (intro w9 hSw; obtain ⟨c9,c8⟩:=hSw; (try dsimp only at c9 c8); go_simp; (first | done | with_reducible rfl))
    (try simp only [Act.put,List.setIfInBounds_toArray,List.set_cons_zero,List.set_cons_succ])
    refine wpAnyH_take (i:=3) (oi:={ dst:=some 40,op:=_,type:=_,pos:=_,after:=_,guard:=_ }) (v:=?vv24) rfl (by kernel_rfl) (by kernel_rfl) (by kernel_rfl) (fun _ _ _ h => h) (Or.inl ⟨by rfl,?hy24⟩) (by assumption) ?rest24
    case hy24 => (intro w9 hSw; obtain ⟨c9,c8⟩:=hSw; (try dsimp only at c9 c8); go_simp; (first | done | with_reducible rfl))
    (try simp only [Act.put,List.setIfInBounds_toArray,List.set_cons_zero,List.set_cons_succ])
    refine wpAnyH_take (i:=4) (oi:={ dst:=some 41,op:=_,type:=_,pos:=_,after:=_,guard:=_ }) (v:=?vv25) rfl (by kernel_rfl) (by kernel_rfl) (by kernel_rfl) (fun _ _ _ h => h) (Or.inl ⟨by rfl,?hy25⟩) (by assumption) ?rest25
    case hy25 => (intro w9 hSw; obtain ⟨c9,c8⟩:=hSw; (try dsimp only at c9 c8); go_simp; (first | done | with_reducible rfl))
    (try simp only [Act.put,List.setIfInBounds_toArray,List.set_cons_zero,List.set_cons_succ])
    refine wpAnyH_ready (rs:=[5]) (by kernel_rfl) (by simp) ?_
    refine AllReadyH.cons (o:={ dst:=some 42,op:=_,type:=_,pos:=_,after:=_,guard:=_ }) rfl (fun KC hK => ?_) (AllReadyH.nil)
    go_simp
    refine (uh CT _ (bl_tr (uh BWu) (bdrew8 _))).mono ?_
    rintro e u8 ⟨⟨C,rfl,hO⟩,hB⟩
    have B8:=hide (bl_tr (bdrew8 u7) hB)
    have O8:=hide hO
    refine hK.out _ _ (uh KB _ (uh B8)) (fun hH8 => ?_)
    clear hK KC hO hB hHeld
    (try simp only [Act.put,List.setIfInBounds_toArray,List.set_cons_zero,List.set_cons_succ])
    refine wpAnyH_take (i:=6) (oi:={ dst:=some 43,op:=_,type:=_,pos:=_,after:=_,guard:=_ }) (v:=?vv26) rfl (by kernel_rfl) (by kernel_rfl) (by kernel_rfl) (fun _ _ _ h => h) (Or.inl ⟨by rfl,?hy26⟩) (by assumption) ?rest26
    case hy26 => (intro w9 hSw; obtain ⟨c9,c8⟩:=hSw; (try dsimp only at c9 c8); go_simp; (first | done | with_reducible rfl))
    (try simp only [Act.put,List.setIfInBounds_toArray,List.set_cons_zero,List.set_cons_succ])
    refine wpAnyH_take (i:=7) (oi:={ dst:=some 44,op:=_,type:=_,pos:=_,after:=_,guard:=_ }) (v:=?vv27) rfl (by kernel_rfl) (by kernel_rfl) (by kernel_rfl) (fun _ _ _ h => h) (Or.inl ⟨by rfl,?hy27⟩) (by assumption) ?rest27
    case hy27 => (intro w9 hSw; obtain ⟨c9,c8⟩:=hSw; (try dsimp only at c9 c8); go_simp; (first | done | with_reducible rfl))
    (try simp only [Act.put,List.setIfInBounds_toArray,List.set_cons_zero,List.set_cons_succ])
    refine wpAnyH_ready (rs:=[8]) (by kernel_rfl) (by simp) ?_
    refine AllReadyH.cons (o:={ dst:=none,op:=_,type:=_,pos:=_,after:=_,guard:=_ }) rfl (fun KC hK => ?_) (AllReadyH.nil)
    have R8:=hide ((uh R7).below (uh B8))
    refine step_storeN (y:=(x.withD p6 d6).withT C) (i:=n) (j:=3) aggTen9 rfl _ _ rfl vgWd noVgA rfl rfl (uh R8) (by rw [List.length_set]; exact uh HNL) (by omega) rfl (tenV_ones9 x.T C) (by rw [getD_set9 LV n _ noVgA (uh HNL)]; rfl) ?_
    intro u9 r9 s9
    rw [List.set_set] at r9
    have R9:=hide r9
    have S9:=hide s9
    clear r9 s9
    have G9:Hid (Box u9 g #[.slice (some ⟨rb,0,none⟩) vals.length dV,.slice pN nodes.length dN,.slice pI inp.length dI,.slice pO out.length dO] 32):=hide (((uh S9).block hgr ((uh G7).below (uh B8)).lt).trans ((uh G7).below (uh B8)))
    have V9:Hid (Box u9 vb #[.int .i64 x.ty,.slice x.q x.ds.length x.c,.bool x.con,.int .i64 x.T.1,.slice x.A.pd x.T.2.1.length x.A.cd,.slice x.A.pf x.T.2.2.1.length x.A.cf,.slice x.A.pi x.T.2.2.2.1.length x.A.ci,.slice x.A.pb x.T.2.2.2.2.length x.A.cb] 59):=hide (((uh S9).block (fun e => hvr e.symm) ((uh V7).below (uh B8)).lt).trans ((uh V7).below (uh B8)))
    refine hK.out _ _ ⟨(uh G9).cell,(uh V9).cell⟩ (fun hH9 => ?_)
    clear hK KC hH8
    (try simp only [Act.put,List.setIfInBounds_toArray,List.set_cons_zero,List.set_cons_succ])
    refine wpAnyH_done (by kernel_rfl) ?_ _
    go_wp2_with fail
    go_roundw
    case rel =>
     have GRW:wr.grownBy u9 RBV:=by
      rw [uh RB0]
      exact (((gr_below (bl_tr (uh B5) (uh B6)) _).trans (gr_of_stay (uh S7))).trans (gr_below (uh B8) _)).trans (gr_of_stay (uh S9))
     have BWz:Below W0.heap.size W0 u9:=bl_tr7 (bl_tr (uh BWu) (uh B8)) (bl_mono7 (uh S9).1 (uh HRB0))
     have HH:Hold (fun b => W0.heap.size ≤ b ∧ b ≠ g ∧ RBV ≠ some b ∧ (Value.slice pN nodes.length dN).ownBlock ≠ some b) wr u9:=gr_hold GRW (fun b hb => hb.2.2.1)
     have HG6:Hold (fun b => wr.heap.size ≤ b ∧ b ≠ rb) u6 u9:=(((Hold.stay (uh S7) (fun e => e.2 rfl)).trans (Hold.below (uh B8))).trans (Hold.stay (uh S9) (fun e => e.2 rfl)))
     have zz:wr.heap.size ≤ w5.heap.size:=(uh B5).size
     have z5:w5.drew.heap.size = w5.heap.size:=rfl
     have z6:=(uh B6).size
     have z7:=(uh S7).1.size
     have z8:u7.drew.heap.size = u7.heap.size:=rfl
     have zk:=(uh HGR).size
     have zr:=(uh HRW).lt
     have zg:=(uh HBX).lt
     have zn:=(uh HNR).lt9
     have zw:=(uh BWr).size
     have hlv2:(LV.set n ((x.withD p6 d6).withT C)).length = vals.length:=by rw [List.length_set]; exact (uh HM).1
     refine ⟨n + 1,LV.set n ((x.withD p6 d6).withT C),by go_num,by omega,hide ?_,hide ((uh HM).step (uh HLT) HH (by rw [uh HX]; rfl) ⟨(uh HXI).1,?_,?_⟩),hide ((uh HGR).trans GRW)⟩
     ·have:=(uh R9).own vgWd (uh HRB0) BWz
      rw [hlv2] at this; exact this
     ·have l6:Li .i64 (fun b => wr.heap.size ≤ b ∧ b ≠ rb) u6 p6 d6 x.ds:=⟨uh L6,fun b o e hp => by have h1:w5.drew.heap.size ≤ b:=(uh F6 b o e hp).1; exact ⟨by omega,by omega⟩⟩
      exact (l6.hold HG6).mono (fun b hb _ => ⟨by omega,by omega,(by rw [uh RB0]; intro e; exact hb.2 (by simpa using e.symm)),(fun e => by have:=zn b e; omega)⟩)
     ·have t8:=((uh O8).tenL.hold (Hold.stay (OK:=fun b => u7.drew.heap.size ≤ b) (uh S9) (by show ¬ u7.drew.heap.size ≤ rb; omega)))
      exact t8.mono (fun b hb _ => by
       have hb2:u7.drew.heap.size ≤ b:=hb
       exact ⟨by omega,by omega,(by rw [uh RB0]; intro e; have:rb = b:=by simpa using e
                                    omega),(fun e => by have:=zn b e; omega)⟩)
    case measure => (simp [intOf] <;> omega)
   ·have hi:¬ (n:Int) < (vals.length:Int):=by omega
    have en:n = vals.length:=by omega
    subst en
    obtain ⟨v1,hv1⟩:∃ v,v = wr:=⟨_,rfl⟩
    subst hv1
    have MVA:=hide (uh HM).all
    have MVL:=hide (uh HM).1
    have OV1:=HO
    have zk:=(uh HGR).size
    have hgn:RBV ≠ some g:=by rw [← uh HRB]; exact fun e => (uh HDV g e).1 rfl
    have GX1:Hid (Box v1 g #[.slice pV vals.length dV,.slice pN nodes.length dN,.slice pI inp.length dI,.slice pO out.length dO] 32):=hide (((uh HGR).block g (uh HBX).lt hgn.symm).trans (uh HBX))
    have BW1:Hid (Below W0.heap.size W0 v1):=hide (uh HO).2
    have NR1:Hid (OwnR 51 40 gnCells W0 v1 (.slice pN nodes.length dN) nodes):=hide (OwnR.keep9 (uh HNR) (fun b hb => (uh HGR).block b ((uh HNR).lt9 b hb).1 (fun e => (uh HDV b ((uh HRB).trans e.symm)).2 hb)) (uh BW1))
    have II1:=hide ((uh HII).hold (gr_hold (uh HGR) (fun b hb => hb.2.2.1)))
    have OO1:=hide ((uh HOO).hold (gr_hold (uh HGR) (fun b hb => hb.2.2.1)))
    obtain ⟨RBN,hRBN⟩:∃ r,(Value.slice pN nodes.length dN).ownBlock = r:=⟨_,rfl⟩
    have HRN:=hide hRBN
    rw [hRBN] at II1 OO1 MVA HDN
    have HVN:Hid (∀ k,RBV = some k → RBN ≠ some k):=hide (fun k hk => by rw [← hRBN]; exact (uh HDV k ((uh HRB).trans hk)).2)
    have HNLT:Hid (∀ k,RBN = some k → k < v1.heap.size ∧ W0.heap.size ≤ k):=hide (fun k hk => (uh NR1).lt9 k (hRBN.trans hk))
    have HVLT:Hid (∀ k,RBV = some k → k < v1.heap.size):=hide (fun k hk => ((uh OV1).lt9 k ((uh HRB).trans hk)).1)
    have HGLT:Hid (g < v1.heap.size):=hide (uh GX1).lt
    have HGN:Hid (RBN ≠ some g):=HDN
    clear HM HGR HO HII HOO HNR HBX hRBN HDV HVR
    have gx:=(uh GX1).cell
    have hln:nodes.length ≤ 9223372036854775807:=(uh G0).2.1.1.len
    have HLN:=hide hln
    clear hln hlen
    go_wp2_with fail
    clear gx
    go_loopw [49] (fun iv wr => ∃ (n:Nat) (LN:List GnA),iv = .int .i64 n ∧ n ≤ nodes.length ∧ Hid (OwnR 51 40 gnCells W0 wr (.slice pN nodes.length dN) LN) ∧ Hid (MixN (fun b => W0.heap.size ≤ b ∧ b ≠ g ∧ RBV ≠ some b ∧ RBN ≠ some b) wr n nodes LN) ∧ Hid (v1.grownBy wr RBN)) (fun iv _ => nodes.length - (intOf iv).toNat)
    case atStart => exact ⟨0,nodes,rfl,by omega,NR1,hide (MixN.start _ _ _),hide (gr_below (Below.refl _ _) _)⟩
    case round =>
     obtain ⟨n,LN,rfl,hn,HO,HM,HGR⟩:=hrel
     have hlen:=uh HLN
     by_cases hlt:n < nodes.length
     ·have hi:(n:Int) < (nodes.length:Int):=by omega
      obtain ⟨rb,cap,hv,hrb,hrow⟩:∃ rb cap,(Value.slice pN nodes.length dN) = .slice (some ⟨rb,0,none⟩) nodes.length cap ∧ W0.heap.size ≤ rb ∧ RowN 51 40 gnCells wr rb cap LN:=by
       rcases (uh HO).rowN with ⟨_,e⟩ | ⟨rb,cap,e,h1,h2⟩
       ·have:=(uh HM).1; rw [e] at this; simp at this; omega
       ·exact ⟨rb,cap,by rw [← (uh HM).1]; rw [(uh HM).1] at e ⊢; exact e,h1,h2⟩
      injection hv with hv1 _ hv2
      subst hv1; subst hv2
      have RB0:Hid (RBN = some rb):=hide (uh HRN).symm
      have hgr:g ≠ rb:=fun e => by have:=uh HGN; rw [uh RB0,e] at this; exact this rfl
      have BWr:Hid (Below W0.heap.size W0 wr):=hide (uh HO).2
      have GXr:Hid (Box wr g #[.slice pV vals.length dV,.slice (some ⟨rb,0,none⟩) nodes.length dN,.slice pI inp.length dI,.slice pO out.length dO] 32):=hide (((uh HGR).block g (uh HGLT) (uh HGN).symm).trans (uh GX1))
      have HNL:=hide (show n < LN.length by rw [(uh HM).1]; exact hlt)
      have HXE:Hid (LN.getD n noGnA = nodes.getD n noGnA):=hide (((uh HM).2 n hlt).2 (Nat.le_refl _))
      have HXI:Hid (GnIn (fun b => b < w.heap.size) W0 (nodes.getD n noGnA)):=hide ((uh G0).2.1.2.2 _ (getD_mem9 hlt))
      have HXS:=hide ((uh HS).ns _ (getD_mem9 (z:=noGnA) hlt))
      have HRW:=hide hrow
      have A1:Hid (At8 wr rb (n * 40) (gnCells (nodes.getD n noGnA))):=hide (fun j v hj => (uh HRW).at gnWd (z:=noGnA) (i:=n) (j:=j) (uh HNL) (by rw [uh HXE]; exact hj))
      have HRB0:=hide hrb
      have HLT:=hide hlt
      clear hrow hrb
      obtain ⟨x,hx⟩:∃ x,nodes.getD n noGnA = x:=⟨_,rfl⟩
      rw [hx] at HXE HXI HXS A1
      have HX:=hide hx
      clear hx
      have hbr:=(uh HRW).lt
      have hgl:=(uh GXr).lt
      go_upto_region 11 with (first
       | (refine wpList_isLoad 51 rfl ?_; refine wpList_loadG aggGn rfl _ rfl rfl (gnWd.2.1 x) (uh A1) ?_)
       | (refine wpList_isStore 51 rfl ?_; (refine wpList_storeG aggGn rfl _ _ rfl rfl rfl (Box.new wr gnZc 51) (gnSize x) rfl (gnWd.ones x) ?_; intro w5 b5 s5 z5; have V5:Hid (At8 w5 wr.heap.size 0 (gnCells x)):=hide (by simpa using At8.box b5); have B5:Hid (Below wr.heap.size wr w5):=hide (bl_tr7 (al1p _ _) s5.1); have V5L:=hide (lt_of_block b5); clear b5 s5 z5)))
      obtain ⟨vb,hvb⟩:∃ b,wr.heap.size = b:=⟨_,rfl⟩
      have HVB:=hide hvb
      rw [hvb] at V5 V5L hbr hgl ⊢
      clear hvb
      have G5:=hide ((uh GXr).below (uh B5))
      have R5:=hide ((uh HRW).below (uh B5))
      have BW5:=hide (bl_tr (uh BWr) (uh B5))
      have hvr:rb ≠ vb:=by omega
      have hgv:g ≠ vb:=by omega
      have CS:=hide (fun v (hv:Below W0.heap.size W0 v) => ccopySe9_any x.cs x.D _ v ((uh HXI).2.1.hold (Hold.below hv)) x.hc.2 (uh HXS).1)
      have CI2:=hide (fun v (hv:Below W0.heap.size W0 v) => ccopi9_any x.qi x.ci x.ins v ((uh HXI).2.2.1.1.below hv) (uh HXS).2.1)
      have CO2:=hide (fun v (hv:Below W0.heap.size W0 v) => ccopi9_any x.qo x.co x.outs v ((uh HXI).2.2.2.1.1.below hv) (uh HXS).2.2)
      have KA:Hid (∀ v,Below w5.heap.size w5 v → (∀ j,v.cell? ⟨g,j,none⟩ = (#[.slice pV vals.length dV,.slice (some ⟨rb,0,none⟩) nodes.length dN,.slice pI inp.length dI,.slice pO out.length dO]:Array Value)[j]?) ∧ At8 v vb 0 (gnCells x)):=hide (fun v hv => ⟨((uh G5).below hv).cell,At8.block9 (uh V5) (hv.block vb (uh V5L))⟩)
      clear hbr hgl
      refine wp_region_held_drew (S:=fun v => (∀ j,v.cell? ⟨g,j,none⟩ = (#[.slice pV vals.length dV,.slice (some ⟨rb,0,none⟩) nodes.length dN,.slice pI inp.length dI,.slice pO out.length dO]:Array Value)[j]?) ∧ At8 v vb 0 (gnCells x)) (by kernel_rfl) (uh KA _ (bdrew8 _)) (fun hHeld => ?_)
      refine wpAnyH_take (i:=0) (oi:={ dst:=some 54,op:=_,type:=_,pos:=_,after:=_,guard:=_ }) (v:=?vv28) rfl (by kernel_rfl) (by kernel_rfl) (by kernel_rfl) (fun _ _ _ h => h) (Or.inl ⟨by rfl,?hy28⟩) (by assumption) ?rest28
      case hy28 => (intro w9 hSw; obtain ⟨c9,c8⟩:=hSw; clear c8; (try dsimp only at c9); go_simp; (first | done | with_reducible rfl))
      (try simp only [Act.put,List.setIfInBounds_toArray,List.set_cons_zero,List.set_cons_succ])
      refine wpAnyH_take (i:=1) (oi:={ dst:=some 55,op:=_,type:=_,pos:=_,after:=_,guard:=_ }) (v:=?vv29) rfl (by kernel_rfl) (by kernel_rfl) (by kernel_rfl) (fun _ _ _ h => h) (Or.inl ⟨by rfl,?hy29⟩) (by assumption) ?rest29
      case hy29 => (intro w9 hSw; obtain ⟨c9,c8⟩:=hSw; clear c8; (try dsimp only at c9); go_simp; (first | done | with_reducible rfl))
      (try simp only [Act.put,List.setIfInBounds_toArray,List.set_cons_zero,List.set_cons_succ])
      refine wpAnyH_take (i:=2) (oi:={ dst:=some 56,op:=_,type:=_,pos:=_,after:=_,guard:=_ }) (v:=?vv30) rfl (by kernel_rfl) (by kernel_rfl) (by kernel_rfl) (fun _ _ _ h => h) (Or.inl ⟨by rfl,?hy30⟩) (by assumption) ?rest30
      case hy30 => (intro w9 hSw; obtain ⟨c9,c8⟩:=hSw; clear c8; (try dsimp only at c9); go_simp; (first | done | with_reducible rfl))
      (try simp only [Act.put,List.setIfInBounds_toArray,List.set_cons_zero,List.set_cons_succ])
      refine wpAnyH_take (i:=3) (oi:={ dst:=some 57,op:=_,type:=_,pos:=_,after:=_,guard:=_ }) (v:=?vv31) rfl (by kernel_rfl) (by kernel_rfl) (by kernel_rfl) (fun _ _ _ h => h) (Or.inl ⟨by rfl,?hy31⟩) (by assumption) ?rest31
      case hy31 => (intro w9 hSw; obtain ⟨c9,c8⟩:=hSw; clear c8; (try dsimp only at c9); go_simp; (first | done | with_reducible rfl))
      (try simp only [Act.put,List.setIfInBounds_toArray,List.set_cons_zero,List.set_cons_succ])
      refine wpAnyH_take (i:=4) (oi:={ dst:=some 58,op:=_,type:=_,pos:=_,after:=_,guard:=_ }) (v:=.agg x.cs.toList.toArray) rfl (by kernel_rfl) (by kernel_rfl) (by kernel_rfl) (fun _ _ _ h => h) (yields_loadG aggSet9 (by rfl) _ rfl rfl (by simpa using x.hc.1) (fun v hv => at8_cs9 hv.2)) (by assumption) ?_
      (try simp only [Act.put,List.setIfInBounds_toArray,List.set_cons_zero,List.set_cons_succ])
      refine wpAnyH_ready (rs:=[5]) (by kernel_rfl) (by simp) ?_
      refine AllReadyH.cons (o:={ dst:=some 59,op:=_,type:=_,pos:=_,after:=_,guard:=_ }) rfl (fun KC hK => ?_) (AllReadyH.nil)
      go_simp
      (try rw [Array.toArray_toList])
      refine (uh CS _ (bl_tr (uh BW5) (bdrew8 _))).mono ?_
      rintro e u6 ⟨⟨cs6,rfl,hC,hC1⟩,hB⟩
      have B6:=hide (bl_tr (bdrew8 w5) hB)
      have C6:=hide hC
      have C61:Hid (cs6.size = 36 ∧ Ones cs6):=hide ⟨hC.1,hC1⟩
      refine hK.out _ _ (uh KA _ (uh B6)) (fun hH6 => ?_)
      clear hK KC hC hC1 hB hHeld
      (try simp only [Act.put,List.setIfInBounds_toArray,List.set_cons_zero,List.set_cons_succ])
      refine wpAnyH_take (i:=6) (oi:={ dst:=some 60,op:=_,type:=_,pos:=_,after:=_,guard:=_ }) (v:=?vv32) rfl (by kernel_rfl) (by kernel_rfl) (by kernel_rfl) (fun _ _ _ h => h) (Or.inl ⟨by rfl,?hy32⟩) (by assumption) ?rest32
      case hy32 => (intro w9 hSw; obtain ⟨c9,c8⟩:=hSw; clear c8; (try dsimp only at c9); go_simp; (first | done | with_reducible rfl))
      (try simp only [Act.put,List.setIfInBounds_toArray,List.set_cons_zero,List.set_cons_succ])
      refine wpAnyH_take (i:=7) (oi:={ dst:=some 61,op:=_,type:=_,pos:=_,after:=_,guard:=_ }) (v:=?vv33) rfl (by kernel_rfl) (by kernel_rfl) (by kernel_rfl) (fun _ _ _ h => h) (Or.inl ⟨by rfl,?hy33⟩) (by assumption) ?rest33
      case hy33 => (intro w9 hSw; obtain ⟨c9,c8⟩:=hSw; clear c8; (try dsimp only at c9); go_simp; (first | done | with_reducible rfl))
      (try simp only [Act.put,List.setIfInBounds_toArray,List.set_cons_zero,List.set_cons_succ])
      refine wpAnyH_ready (rs:=[8]) (by kernel_rfl) (by simp) ?_
      refine AllReadyH.cons (o:={ dst:=none,op:=_,type:=_,pos:=_,after:=_,guard:=_ }) rfl (fun KC hK => ?_) (AllReadyH.nil)
      have R6:=hide ((uh R5).below (uh B6))
      refine step_storeN (y:=x.withS cs6 (uh C61)) (i:=n) (j:=1) aggSet9 rfl _ _ rfl gnWd noGnA rfl rfl (uh R6) (uh HNL) (by omega) (uh C61).1 (uh C61).2 (by rw [uh HXE]; exact gn_s9 x cs6 _) ?_
      intro u7 r7 s7
      have R7:=hide r7
      have S7:=hide s7
      clear r7 s7
      have G7:Hid (Box u7 g #[.slice pV vals.length dV,.slice (some ⟨rb,0,none⟩) nodes.length dN,.slice pI inp.length dI,.slice pO out.length dO] 32):=hide (((uh S7).block hgr ((uh G5).below (uh B6)).lt).trans ((uh G5).below (uh B6)))
      have W7:Hid (At8 u7 vb 0 (gnCells x)):=hide (At8.block9 (At8.block9 (uh V5) ((uh B6).block vb (uh V5L))) ((uh S7).block (fun e => hvr e.symm) (Nat.lt_of_lt_of_le (uh V5L) (uh B6).size)))
      have WL7:Hid (vb < u7.heap.size):=hide (Nat.lt_of_lt_of_le (Nat.lt_of_lt_of_le (uh V5L) (uh B6).size) (uh S7).1.size)
      have BWu7:Hid (Below W0.heap.size W0 u7):=hide (bl_tr7 (bl_tr (uh BW5) (uh B6)) (bl_mono7 (uh S7).1 (uh HRB0)))
      refine hK.out _ _ ⟨(uh G7).cell,uh W7⟩ (fun hH7 => ?_)
      clear hK KC hH6
      (try simp only [Act.put,List.setIfInBounds_toArray,List.set_cons_zero,List.set_cons_succ])
      refine wpAnyH_done (by kernel_rfl) ?_ _
      go_upto_region 12 with fail
      have K9:Hid (∀ v,Below u7.heap.size u7 v → (∀ j,v.cell? ⟨g,j,none⟩ = (#[.slice pV vals.length dV,.slice (some ⟨rb,0,none⟩) nodes.length dN,.slice pI inp.length dI,.slice pO out.length dO]:Array Value)[j]?) ∧ At8 v vb 0 (gnCells x)):=hide (fun v hv => ⟨((uh G7).below hv).cell,At8.block9 (uh W7) (hv.block vb (uh WL7))⟩)
      refine wp_region_held_drew (S:=fun v => (∀ j,v.cell? ⟨g,j,none⟩ = (#[.slice pV vals.length dV,.slice (some ⟨rb,0,none⟩) nodes.length dN,.slice pI inp.length dI,.slice pO out.length dO]:Array Value)[j]?) ∧ At8 v vb 0 (gnCells x)) (by kernel_rfl) (uh K9 _ (bdrew8 _)) (fun hHeld => ?_)
      refine wpAnyH_take (i:=0) (oi:={ dst:=some 62,op:=_,type:=_,pos:=_,after:=_,guard:=_ }) (v:=?vv34) rfl (by kernel_rfl) (by kernel_rfl) (by kernel_rfl) (fun _ _ _ h => h) (Or.inl ⟨by rfl,?hy34⟩) (by assumption) ?rest34
      case hy34 => (intro w9 hSw; obtain ⟨c9,c8⟩:=hSw; clear c8; (try dsimp only at c9); go_simp; (first | done | with_reducible rfl))
      (try simp only [Act.put,List.setIfInBounds_toArray,List.set_cons_zero,List.set_cons_succ])
      refine wpAnyH_take (i:=1) (oi:={ dst:=some 63,op:=_,type:=_,pos:=_,after:=_,guard:=_ }) (v:=?vv35) rfl (by kernel_rfl) (by kernel_rfl) (by kernel_rfl) (fun _ _ _ h => h) (Or.inl ⟨by rfl,?hy35⟩) (by assumption) ?rest35
      case hy35 => (intro w9 hSw; obtain ⟨c9,c8⟩:=hSw; clear c8; (try dsimp only at c9); go_simp; (first | done | with_reducible rfl))
      (try simp only [Act.put,List.setIfInBounds_toArray,List.set_cons_zero,List.set_cons_succ])
      refine wpAnyH_take (i:=2) (oi:={ dst:=some 64,op:=_,type:=_,pos:=_,after:=_,guard:=_ }) (v:=?vv36) rfl (by kernel_rfl) (by kernel_rfl) (by kernel_rfl) (fun _ _ _ h => h) (Or.inl ⟨by rfl,?hy36⟩) (by assumption) ?rest36
      case hy36 => (intro w9 hSw; obtain ⟨c9,c8⟩:=hSw; clear c8; (try dsimp only at c9); go_simp; (first | done | with_reducible rfl))
      (try simp only [Act.put,List.setIfInBounds_toArray,List.set_cons_zero,List.set_cons_succ])
      refine wpAnyH_take (i:=3) (oi:={ dst:=some 65,op:=_,type:=_,pos:=_,after:=_,guard:=_ }) (v:=?vv37) rfl (by kernel_rfl) (by kernel_rfl) (by kernel_rfl) (fun _ _ _ h => h) (Or.inl ⟨by rfl,?hy37⟩) (by assumption) ?rest37
      case hy37 => (intro w9 hSw; obtain ⟨c9,c8⟩:=hSw; clear c8; (try dsimp only at c9); go_simp; (first | done | with_reducible rfl))
      (try simp only [Act.put,List.setIfInBounds_toArray,List.set_cons_zero,List.set_cons_succ])
      refine wpAnyH_take (i:=4) (oi:={ dst:=some 66,op:=_,type:=_,pos:=_,after:=_,guard:=_ }) (v:=?vv38) rfl (by kernel_rfl) (by kernel_rfl) (by kernel_rfl) (fun _ _ _ h => h) (Or.inl ⟨by rfl,?hy38⟩) (by assumption) ?rest38
      case hy38 => (intro w9 hSw; obtain ⟨c9,c8⟩:=hSw; have c7:=c8 37 _ (gn_37 x); rw [Nat.zero_add] at c7; clear c8; (try dsimp only at c9); go_simp; (first | done | with_reducible rfl))
      (try simp only [Act.put,List.setIfInBounds_toArray,List.set_cons_zero,List.set_cons_succ])
      refine wpAnyH_ready (rs:=[5]) (by kernel_rfl) (by simp) ?_
      refine AllReadyH.cons (o:={ dst:=some 67,op:=_,type:=_,pos:=_,after:=_,guard:=_ }) rfl (fun KC hK => ?_) (AllReadyH.nil)
      go_simp
      refine (uh CI2 _ (bl_tr (uh BWu7) (bdrew8 _))).mono ?_
      rintro e u8 ⟨⟨p8,d8,rfl,hL,hF⟩,hB⟩
      have B8:=hide (bl_tr (bdrew8 u7) hB)
      have L8:=hide hL
      have F8:=hide hF
      refine hK.out _ _ (uh K9 _ (uh B8)) (fun hH8 => ?_)
      clear hK KC hL hF hB hHeld
      (try simp only [Act.put,List.setIfInBounds_toArray,List.set_cons_zero,List.set_cons_succ])
      refine wpAnyH_take (i:=6) (oi:={ dst:=some 68,op:=_,type:=_,pos:=_,after:=_,guard:=_ }) (v:=?vv39) rfl (by kernel_rfl) (by kernel_rfl) (by kernel_rfl) (fun _ _ _ h => h) (Or.inl ⟨by rfl,?hy39⟩) (by assumption) ?rest39
      case hy39 => (intro w9 hSw; obtain ⟨c9,c8⟩:=hSw; clear c8; (try dsimp only at c9); go_simp; (first | done | with_reducible rfl))
      (try simp only [Act.put,List.setIfInBounds_toArray,List.set_cons_zero,List.set_cons_succ])
      refine wpAnyH_take (i:=7) (oi:={ dst:=some 69,op:=_,type:=_,pos:=_,after:=_,guard:=_ }) (v:=?vv40) rfl (by kernel_rfl) (by kernel_rfl) (by kernel_rfl) (fun _ _ _ h => h) (Or.inl ⟨by rfl,?hy40⟩) (by assumption) ?rest40
      case hy40 => (intro w9 hSw; obtain ⟨c9,c8⟩:=hSw; clear c8; (try dsimp only at c9); go_simp; (first | done | with_reducible rfl))
      (try simp only [Act.put,List.setIfInBounds_toArray,List.set_cons_zero,List.set_cons_succ])
      refine wpAnyH_ready (rs:=[8]) (by kernel_rfl) (by simp) ?_
      refine AllReadyH.cons (o:={ dst:=none,op:=_,type:=_,pos:=_,after:=_,guard:=_ }) rfl (fun KC hK => ?_) (AllReadyH.nil)
      have R8:=hide ((uh R7).below (uh B8))
      have k6:u8.cell? ⟨rb,n * 40 + 37,none⟩ = some (.slice x.qi x.ins.length x.ci):=(uh R8).at gnWd (z:=noGnA) (i:=n) (j:=37) (by rw [List.length_set]; exact uh HNL) (by rw [getD_set9 LN n _ noGnA (uh HNL)]; exact gn_37 _)
      have f6:=(uh R8).frozen (n * 40 + 37)
      have l6:=(uh R8).lt
      go_simp
      obtain ⟨u9,hu⟩:∃ u,u8.setCell ⟨rb,n * 40 + 37,none⟩ (.slice p8 x.ins.length d8) = u:=⟨_,rfl⟩
      have S9:Hid (Stay rb u8 u9):=hide (by rw [← hu]; exact Stay.set8 _)
      have R9:Hid (RowN 51 40 gnCells u9 rb dN (LN.set n ((x.withS cs6 (uh C61)).withIn x.ins p8 d8))):=hide (by rw [← hu]; exact RowN.put9 gnWd noGnA (uh R8) (uh HNL) (by omega) (gn_in _ _ _ _))
      (try rw [hu])
      have G9:Hid (Box u9 g #[.slice pV vals.length dV,.slice (some ⟨rb,0,none⟩) nodes.length dN,.slice pI inp.length dI,.slice pO out.length dO] 32):=hide (((uh S9).block hgr ((uh G7).below (uh B8)).lt).trans ((uh G7).below (uh B8)))
      have W9:Hid (At8 u9 vb 0 (gnCells x)):=hide (At8.block9 (At8.block9 (uh W7) ((uh B8).block vb (uh WL7))) ((uh S9).block (fun e => hvr e.symm) (Nat.lt_of_lt_of_le (uh WL7) (uh B8).size)))
      have WL9:Hid (vb < u9.heap.size):=hide (Nat.lt_of_lt_of_le (Nat.lt_of_lt_of_le (uh WL7) (uh B8).size) (uh S9).1.size)
      have BWu9:Hid (Below W0.heap.size W0 u9):=hide (bl_tr7 (bl_tr (uh BWu7) (uh B8)) (bl_mono7 (uh S9).1 (uh HRB0)))
      refine hK.out _ _ ⟨(uh G9).cell,uh W9⟩ (fun hH9 => ?_)
      clear hK KC hH8 k6 f6 l6
      (try simp only [Act.put,List.setIfInBounds_toArray,List.set_cons_zero,List.set_cons_succ])
      refine wpAnyH_done (by kernel_rfl) ?_ _
      clear hu
      go_upto_region 13 with fail
      have K11:Hid (∀ v,Below u9.heap.size u9 v → (∀ j,v.cell? ⟨g,j,none⟩ = (#[.slice pV vals.length dV,.slice (some ⟨rb,0,none⟩) nodes.length dN,.slice pI inp.length dI,.slice pO out.length dO]:Array Value)[j]?) ∧ At8 v vb 0 (gnCells x)):=hide (fun v hv => ⟨((uh G9).below hv).cell,At8.block9 (uh W9) (hv.block vb (uh WL9))⟩)
      refine wp_region_held_drew (S:=fun v => (∀ j,v.cell? ⟨g,j,none⟩ = (#[.slice pV vals.length dV,.slice (some ⟨rb,0,none⟩) nodes.length dN,.slice pI inp.length dI,.slice pO out.length dO]:Array Value)[j]?) ∧ At8 v vb 0 (gnCells x)) (by kernel_rfl) (uh K11 _ (bdrew8 _)) (fun hHeld => ?_)
      refine wpAnyH_take (i:=0) (oi:={ dst:=some 70,op:=_,type:=_,pos:=_,after:=_,guard:=_ }) (v:=?vv41) rfl (by kernel_rfl) (by kernel_rfl) (by kernel_rfl) (fun _ _ _ h => h) (Or.inl ⟨by rfl,?hy41⟩) (by assumption) ?rest41
      case hy41 => (intro w9 hSw; obtain ⟨c9,c8⟩:=hSw; clear c8; (try dsimp only at c9); go_simp; (first | done | with_reducible rfl))
      (try simp only [Act.put,List.setIfInBounds_toArray,List.set_cons_zero,List.set_cons_succ])
      refine wpAnyH_take (i:=1) (oi:={ dst:=some 71,op:=_,type:=_,pos:=_,after:=_,guard:=_ }) (v:=?vv42) rfl (by kernel_rfl) (by kernel_rfl) (by kernel_rfl) (fun _ _ _ h => h) (Or.inl ⟨by rfl,?hy42⟩) (by assumption) ?rest42
      case hy42 => (intro w9 hSw; obtain ⟨c9,c8⟩:=hSw; clear c8; (try dsimp only at c9); go_simp; (first | done | with_reducible rfl))
      (try simp only [Act.put,List.setIfInBounds_toArray,List.set_cons_zero,List.set_cons_succ])
      refine wpAnyH_take (i:=2) (oi:={ dst:=some 72,op:=_,type:=_,pos:=_,after:=_,guard:=_ }) (v:=?vv43) rfl (by kernel_rfl) (by kernel_rfl) (by kernel_rfl) (fun _ _ _ h => h) (Or.inl ⟨by rfl,?hy43⟩) (by assumption) ?rest43
      case hy43 => (intro w9 hSw; obtain ⟨c9,c8⟩:=hSw; clear c8; (try dsimp only at c9); go_simp; (first | done | with_reducible rfl))
      (try simp only [Act.put,List.setIfInBounds_toArray,List.set_cons_zero,List.set_cons_succ])
      refine wpAnyH_take (i:=3) (oi:={ dst:=some 73,op:=_,type:=_,pos:=_,after:=_,guard:=_ }) (v:=?vv44) rfl (by kernel_rfl) (by kernel_rfl) (by kernel_rfl) (fun _ _ _ h => h) (Or.inl ⟨by rfl,?hy44⟩) (by assumption) ?rest44
      case hy44 => (intro w9 hSw; obtain ⟨c9,c8⟩:=hSw; clear c8; (try dsimp only at c9); go_simp; (first | done | with_reducible rfl))
      (try simp only [Act.put,List.setIfInBounds_toArray,List.set_cons_zero,List.set_cons_succ])
      refine wpAnyH_take (i:=4) (oi:={ dst:=some 74,op:=_,type:=_,pos:=_,after:=_,guard:=_ }) (v:=?vv45) rfl (by kernel_rfl) (by kernel_rfl) (by kernel_rfl) (fun _ _ _ h => h) (Or.inl ⟨by rfl,?hy45⟩) (by assumption) ?rest45
      case hy45 => (intro w9 hSw; obtain ⟨c9,c8⟩:=hSw; have c7:=c8 38 _ (gn_38 x); rw [Nat.zero_add] at c7; clear c8; (try dsimp only at c9); go_simp; (first | done | with_reducible rfl))
      (try simp only [Act.put,List.setIfInBounds_toArray,List.set_cons_zero,List.set_cons_succ])
      refine wpAnyH_ready (rs:=[5]) (by kernel_rfl) (by simp) ?_
      refine AllReadyH.cons (o:={ dst:=some 75,op:=_,type:=_,pos:=_,after:=_,guard:=_ }) rfl (fun KC hK => ?_) (AllReadyH.nil)
      go_simp
      refine (uh CO2 _ (bl_tr (uh BWu9) (bdrew8 _))).mono ?_
      rintro e u10 ⟨⟨p10,d10,rfl,hL,hF⟩,hB⟩
      have B10:=hide (bl_tr (bdrew8 u9) hB)
      have L10:=hide hL
      have F10:=hide hF
      refine hK.out _ _ (uh K11 _ (uh B10)) (fun hH10 => ?_)
      clear hK KC hL hF hB hHeld
      (try simp only [Act.put,List.setIfInBounds_toArray,List.set_cons_zero,List.set_cons_succ])
      refine wpAnyH_take (i:=6) (oi:={ dst:=some 76,op:=_,type:=_,pos:=_,after:=_,guard:=_ }) (v:=?vv46) rfl (by kernel_rfl) (by kernel_rfl) (by kernel_rfl) (fun _ _ _ h => h) (Or.inl ⟨by rfl,?hy46⟩) (by assumption) ?rest46
      case hy46 => (intro w9 hSw; obtain ⟨c9,c8⟩:=hSw; clear c8; (try dsimp only at c9); go_simp; (first | done | with_reducible rfl))
      (try simp only [Act.put,List.setIfInBounds_toArray,List.set_cons_zero,List.set_cons_succ])
      refine wpAnyH_take (i:=7) (oi:={ dst:=some 77,op:=_,type:=_,pos:=_,after:=_,guard:=_ }) (v:=?vv47) rfl (by kernel_rfl) (by kernel_rfl) (by kernel_rfl) (fun _ _ _ h => h) (Or.inl ⟨by rfl,?hy47⟩) (by assumption) ?rest47
      case hy47 => (intro w9 hSw; obtain ⟨c9,c8⟩:=hSw; clear c8; (try dsimp only at c9); go_simp; (first | done | with_reducible rfl))
      (try simp only [Act.put,List.setIfInBounds_toArray,List.set_cons_zero,List.set_cons_succ])
      refine wpAnyH_ready (rs:=[8]) (by kernel_rfl) (by simp) ?_
      refine AllReadyH.cons (o:={ dst:=none,op:=_,type:=_,pos:=_,after:=_,guard:=_ }) rfl (fun KC hK => ?_) (AllReadyH.nil)
      have R10:=hide ((uh R9).below (uh B10))
      have k6:u10.cell? ⟨rb,n * 40 + 38,none⟩ = some (.slice x.qo x.outs.length x.co):=(uh R10).at gnWd (z:=noGnA) (i:=n) (j:=38) (by rw [List.length_set]; exact uh HNL) (by rw [getD_set9 LN n _ noGnA (uh HNL)]; exact gn_38 _)
      have f6:=(uh R10).frozen (n * 40 + 38)
      have l6:=(uh R10).lt
      go_simp
      obtain ⟨u11,hu⟩:∃ u,u10.setCell ⟨rb,n * 40 + 38,none⟩ (.slice p10 x.outs.length d10) = u:=⟨_,rfl⟩
      have S11:Hid (Stay rb u10 u11):=hide (by rw [← hu]; exact Stay.set8 _)
      have R11:Hid (RowN 51 40 gnCells u11 rb dN (LN.set n (((x.withS cs6 (uh C61)).withIn x.ins p8 d8).withOut x.outs p10 d10))):=hide (by rw [← hu]; exact RowN.put9 gnWd noGnA (uh R10) (uh HNL) (by omega) (gn_out _ _ _ _))
      (try rw [hu])
      have G11:Hid (Box u11 g #[.slice pV vals.length dV,.slice (some ⟨rb,0,none⟩) nodes.length dN,.slice pI inp.length dI,.slice pO out.length dO] 32):=hide (((uh S11).block hgr ((uh G9).below (uh B10)).lt).trans ((uh G9).below (uh B10)))
      have W11:Hid (At8 u11 vb 0 (gnCells x)):=hide (At8.block9 (At8.block9 (uh W9) ((uh B10).block vb (uh WL9))) ((uh S11).block (fun e => hvr e.symm) (Nat.lt_of_lt_of_le (uh WL9) (uh B10).size)))
      have WL11:Hid (vb < u11.heap.size):=hide (Nat.lt_of_lt_of_le (Nat.lt_of_lt_of_le (uh WL9) (uh B10).size) (uh S11).1.size)
      have BWu11:Hid (Below W0.heap.size W0 u11):=hide (bl_tr7 (bl_tr (uh BWu9) (uh B10)) (bl_mono7 (uh S11).1 (uh HRB0)))
      refine hK.out _ _ ⟨(uh G11).cell,uh W11⟩ (fun hH11 => ?_)
      clear hK KC hH10 k6 f6 l6
      (try simp only [Act.put,List.setIfInBounds_toArray,List.set_cons_zero,List.set_cons_succ])
      refine wpAnyH_done (by kernel_rfl) ?_ _
      clear hu
      go_wp2_with fail
      go_roundw
      case rel =>
       have GRW:wr.grownBy u11 RBN:=by
        rw [uh RB0]
        exact (((((gr_below (bl_tr (uh B5) (uh B6)) _).trans (gr_of_stay (uh S7))).trans (gr_below (uh B8) _)).trans (gr_of_stay (uh S9))).trans (gr_below (uh B10) _)).trans (gr_of_stay (uh S11))
       have HH:Hold (fun b => W0.heap.size ≤ b ∧ b ≠ g ∧ RBV ≠ some b ∧ RBN ≠ some b) wr u11:=gr_hold GRW (fun b hb => hb.2.2.2)
       have HT6:Hold (fun b => b ≠ rb) u6 u11:=((((Hold.stay (uh S7) (fun e => e rfl)).trans (Hold.below (uh B8))).trans (Hold.stay (uh S9) (fun e => e rfl))).trans (Hold.below (uh B10))).trans (Hold.stay (uh S11) (fun e => e rfl))
       have HT8:Hold (fun b => b ≠ rb) u8 u11:=((Hold.stay (uh S9) (fun e => e rfl)).trans (Hold.below (uh B10))).trans (Hold.stay (uh S11) (fun e => e rfl))
       have HT10:Hold (fun b => b ≠ rb) u10 u11:=Hold.stay (uh S11) (fun e => e rfl)
       have zz:wr.heap.size ≤ w5.heap.size:=(uh B5).size
       have z5:w5.drew.heap.size = w5.heap.size:=rfl
       have z6:=(uh B6).size
       have z7:=(uh S7).1.size
       have z8:u7.drew.heap.size = u7.heap.size:=rfl
       have z9:=(uh B8).size
       have z10:=(uh S9).1.size
       have z11:u9.drew.heap.size = u9.heap.size:=rfl
       have z0:=(uh HGR).size
       have zr:=(uh HRW).lt
       have zg:=uh HGLT
       have zw:=(uh BWr).size
       have ok9:∀ b,wr.heap.size ≤ b → W0.heap.size ≤ b ∧ b ≠ g ∧ RBV ≠ some b ∧ RBN ≠ some b:=fun b hb => ⟨by omega,by omega,(fun e => by have:=uh HVLT b e; omega),(fun e => by have:=(uh HNLT b e).1; omega)⟩
       have hlv2:(LN.set n (((x.withS cs6 (uh C61)).withIn x.ins p8 d8).withOut x.outs p10 d10)).length = nodes.length:=by rw [List.length_set]; exact (uh HM).1
       refine ⟨n + 1,LN.set n (((x.withS cs6 (uh C61)).withIn x.ins p8 d8).withOut x.outs p10 d10),by go_num,by omega,hide ?_,hide ((uh HM).step (uh HLT) HH (by rw [uh HX]; rfl) ⟨(uh HXI).1,?_,?_,?_,(uh HXI).2.2.2.2⟩),hide ((uh HGR).trans GRW)⟩
       ·have:=(uh R11).own gnWd (uh HRB0) (uh BWu11)
        rw [hlv2] at this; exact this
       ·have c1:SeL (fun b => w5.drew.heap.size ≤ b) u6 cs6 x.D:=uh C6
        have c2:=(c1.mono (OK':=fun b => wr.heap.size ≤ b ∧ b ≠ rb) (fun b hb _ => by have hb2:w5.drew.heap.size ≤ b:=hb; exact ⟨by omega,by omega⟩)).hold (HT6.mono (fun b hb => hb.2))
        exact c2.mono (fun b hb _ => ok9 b hb.1)
       ·have l6:Li .i64 (fun b => wr.heap.size ≤ b ∧ b ≠ rb) u8 p8 d8 x.ins:=⟨uh L8,fun b o e hp => by have h1:u7.drew.heap.size ≤ b:=(uh F8 b o e hp).1; exact ⟨by omega,by omega⟩⟩
        exact (l6.hold (HT8.mono (fun b hb => hb.2))).mono (fun b hb _ => ok9 b hb.1)
       ·have l6:Li .i64 (fun b => wr.heap.size ≤ b ∧ b ≠ rb) u10 p10 d10 x.outs:=⟨uh L10,fun b o e hp => by have h1:u9.drew.heap.size ≤ b:=(uh F10 b o e hp).1; exact ⟨by omega,by omega⟩⟩
        exact (l6.hold (HT10.mono (fun b hb => hb.2))).mono (fun b hb _ => ok9 b hb.1)
      case measure => (simp [intOf] <;> omega)
     ·have hi:¬ (n:Int) < (nodes.length:Int):=by omega
      have en:n = nodes.length:=by omega
      subst en
      have MNA:=hide (uh HM).all
      have MNL:=hide (uh HM).1
      have hhold:Hold (fun b => W0.heap.size ≤ b ∧ b ≠ g ∧ RBV ≠ some b ∧ RBN ≠ some b) v1 wr:=gr_hold (uh HGR) (fun b hb => hb.2.2.2)
      have HHO:=hide hhold
      have BWe:Hid (Below W0.heap.size W0 wr):=hide (uh HO).2
      have GXe:Hid (Box wr g #[.slice pV vals.length dV,.slice pN nodes.length dN,.slice pI inp.length dI,.slice pO out.length dO] 32):=hide (((uh HGR).block g (uh HGLT) (uh HGN).symm).trans (uh GX1))
      have OVe:Hid (OwnR 59 8 vgCells W0 wr (.slice pV vals.length dV) LV):=hide (OwnR.keep9 (uh OV1) (fun b hb => (uh HGR).block b ((uh OV1).lt9 b hb).1 (uh HVN b ((uh HRB).symm.trans hb)).symm) (uh BWe))
      have R1e:Hid (Box wr (w.heap.size + 1) grZ 32):=hide ((uh R0).below (uh BWe))
      have EV:Hid (OwnE 59 8 vgCells VgIn W0 wr (.slice pV vals.length dV) LV):=hide ⟨uh OVe,fun y hy => vgP.mono (vgP.hold ((uh MVA).2 y hy) hhold) (fun b hb _ => ⟨hb.1,by rw [uh HRB]; exact hb.2.2.1⟩)⟩
      have EN:Hid (OwnE 51 40 gnCells GnIn W0 wr (.slice pN nodes.length dN) LN):=hide ⟨uh HO,fun y hy => gnP.mono ((uh MNA).2 y hy) (fun b hb _ => ⟨hb.1,by rw [uh HRN]; exact hb.2.2.2⟩)⟩
      clear hhold
      go_wp2_with (first
       | (refine wpList_isLoad 32 rfl ?_; refine wpList_loadG aggGr rfl _ rfl rfl rfl (At8.box (uh GXe)) ?_)
       | (refine wpList_isStore 32 rfl ?_; (refine wpList_storeG aggGr rfl _ _ rfl rfl rfl (uh R1e) rfl rfl (gr_ones9 _ _ _ _ _ _ _ _ _ _ _ _) ?_; intro w9 b9 s9 z9; have G9:=hide b9; have S9:=hide s9; clear b9 s9 z9)))
      refine bodyPost_ret (results_gr1 rfl rfl (uh G9) rfl) rfl ⟨⟨LV,pV,dV,LN,pN,dN,inp,pI,dI,out,pO,dO⟩,?_,?_,?_,?_⟩
      ·show Ending.returned _ = Ending.returned (grV _)
       unfold grV grCells
       simp only [uh MVL,uh MNL]
      ·unfold GrA.d
       simp only [(uh MVA).1,(uh MNA).1]
      ·have hst:Hold (fun b => W0.heap.size ≤ b) wr w9:=Hold.stay (uh S9) (by have:=uh HSZ; omega)
       obtain ⟨q1,c1,e1,g1⟩:=(uh EV).rg (z:=noVgA) vgWd vgP
       rw [uh MVL] at e1
       injection e1 with e1a _ e1b
       subst e1a; subst e1b
       obtain ⟨q2,c2,e2,g2⟩:=(uh EN).rg (z:=noGnA) gnWd gnP
       rw [uh MNL] at e2
       injection e2 with e2a _ e2b
       subst e2a; subst e2b
       have hz:∀ b,W0.heap.size ≤ b → w.heap.size ≤ b:=fun b hb => by have:=uh HSZ; omega
       exact grP.mono (OK:=fun b => W0.heap.size ≤ b) ⟨g1.hold vgP hst,g2.hold gnP hst,(((uh II1).hold (uh HHO)).mono (fun b hb _ => hb.1)).hold hst,(((uh OO1).hold (uh HHO)).mono (fun b hb _ => hb.1)).hold hst⟩ (fun b hb _ => hz b hb)
      ·exact bl_tr7 (bl_tr (uh B0) (uh BWe)) (bl_mono7 (uh S9).1 (by omega))
end Go.Proofs.YtbmmcbagdomonaaGreat
