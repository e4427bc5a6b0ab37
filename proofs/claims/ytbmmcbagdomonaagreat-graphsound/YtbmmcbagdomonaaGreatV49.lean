import Derived.Test.YtbmmcbagdomonaaGreatV19
import Derived.Test.YtbmmcbagdomonaaGreatV48
set_option maxRecDepth 100000
set_option maxHeartbeats 40000000
namespace Go.Proofs.YtbmmcbagdomonaaGreat
open Go.RowKit
set_option linter.unusedVariables false
set_option linter.unusedSimpArgs false
theorem ccopV9_any (q:Option Addr) (c:Nat) (l:List VgA) (w:World) (h:Rc 8 vgCells noVgA w q c l) (hl:l.length ≤ 274877906944) :
  Calls Tryz.prog 42 #[.slice q l.length c] w fun e w' => ∃ v,e = .returned v ∧ OwnR 59 8 vgCells w w' v l:=by
 obtain ⟨i1,hi1,y1,z1,b1⟩:=info_parts Tryz.info9Val
 have H:=hide h
 clear h
 go_enter Tryz.func42,Tryz.ntmps42
 go_wp2_with (at_builtin; (refine wpList_append_rc vgWd noVgA rfl _ _ 28 rfl w 59 i1 _ 144 Tryz.underlying28 hi1 y1 z1 b1 rfl (.slice none 0 0) [] rfl (OwnR.nil _ (Below.refl _ _)) q c l rfl (uh H) (by unfold maxLen; simp; omega) (by simp; omega) ?_; intro v2 w2 O2 g2; rw [List.nil_append] at O2; have HO:=hide O2; clear O2 g2))
 go_ret
 exact ⟨_,rfl,uh HO⟩
theorem ccopN9_any (q:Option Addr) (c:Nat) (l:List GnA) (w:World) (h:Rc 40 gnCells noGnA w q c l) (hl:l.length ≤ 274877906944) :
  Calls Tryz.prog 43 #[.slice q l.length c] w fun e w' => ∃ v,e = .returned v ∧ OwnR 51 40 gnCells w w' v l:=by
 obtain ⟨i1,hi1,y1,z1,b1⟩:=info_parts Tryz.info9Gn
 have H:=hide h
 clear h
 go_enter Tryz.func43,Tryz.ntmps43
 go_wp2_with (at_builtin; (refine wpList_append_rc gnWd noGnA rfl _ _ 29 rfl w 51 i1 _ 432 Tryz.underlying29 hi1 y1 z1 b1 rfl (.slice none 0 0) [] rfl (OwnR.nil _ (Below.refl _ _)) q c l rfl (uh H) (by unfold maxLen; simp; omega) (by simp; omega) ?_; intro v2 w2 O2 g2; rw [List.nil_append] at O2; have HO:=hide O2; clear O2 g2))
 go_ret
 exact ⟨_,rfl,uh HO⟩
def okSe (D:SeD):Prop:=((D 1).xs.length * 8 ≤ 140737488355328 ∧ (D 7).xs.length * 8 ≤ 140737488355328 ∧ (D 20).xs.length * 8 ≤ 140737488355328 ∧ (D 21).xs.length * 8 ≤ 140737488355328 ∧ (D 22).xs.length * 8 ≤ 140737488355328 ∧ (D 23).xs.length * 8 ≤ 140737488355328) ∧ okLen (D 31).T
theorem FL.k3 {OK:Nat → Prop} {w:World} {cs:Array Value} {k:Nat}:∀ {f:FV},FL OK w cs k f → kindF f = 3 → ∃ p c,cs[k]? = some (.slice p f.xs.length c) ∧ Li .i64 OK w p c f.xs
 | ⟨0,_,_,_,_⟩,h,e => by simp [kindF] at e
 | ⟨1,_,_,_,_⟩,h,e => by simp [kindF] at e
 | ⟨2,_,_,_,_⟩,h,e => by simp [kindF] at e
 | ⟨3,_,_,_,_⟩,h,e => h
 | ⟨_ + 4,_,_,_,_⟩,h,e => by simp [kindF] at e
theorem FL.k4 {OK:Nat → Prop} {w:World} {cs:Array Value} {k:Nat}:∀ {f:FV},FL OK w cs k f → kindF f = 4 → ∃ A:TA,(cs[k]? = some (.int .i64 f.T.1) ∧ cs[k + 1]? = some (.slice A.pd f.T.2.1.length A.cd) ∧ cs[k + 2]? = some (.slice A.pf f.T.2.2.1.length A.cf) ∧ cs[k + 3]? = some (.slice A.pi f.T.2.2.2.1.length A.ci) ∧ cs[k + 4]? = some (.slice A.pb f.T.2.2.2.2.length A.cb)) ∧ TenL OK w f.T A
 | ⟨0,_,_,_,_⟩,h,e => by simp [kindF] at e
 | ⟨1,_,_,_,_⟩,h,e => by simp [kindF] at e
 | ⟨2,_,_,_,_⟩,h,e => by simp [kindF] at e
 | ⟨3,_,_,_,_⟩,h,e => by simp [kindF] at e
 | ⟨_ + 4,_,_,_,_⟩,h,e => h
theorem FL.of3 {OK:Nat → Prop} {w:World} {cs:Array Value} {k:Nat}:∀ {f:FV},kindF f = 3 → (∃ p c,cs[k]? = some (.slice p f.xs.length c) ∧ Li .i64 OK w p c f.xs) → FL OK w cs k f
 | ⟨0,_,_,_,_⟩,e,h => by simp [kindF] at e
 | ⟨1,_,_,_,_⟩,e,h => by simp [kindF] at e
 | ⟨2,_,_,_,_⟩,e,h => by simp [kindF] at e
 | ⟨3,_,_,_,_⟩,e,h => h
 | ⟨_ + 4,_,_,_,_⟩,e,h => by simp [kindF] at e
theorem FL.of4 {OK:Nat → Prop} {w:World} {cs:Array Value} {k:Nat}:∀ {f:FV},kindF f = 4 → (∃ A:TA,(cs[k]? = some (.int .i64 f.T.1) ∧ cs[k + 1]? = some (.slice A.pd f.T.2.1.length A.cd) ∧ cs[k + 2]? = some (.slice A.pf f.T.2.2.1.length A.cf) ∧ cs[k + 3]? = some (.slice A.pi f.T.2.2.2.1.length A.ci) ∧ cs[k + 4]? = some (.slice A.pb f.T.2.2.2.2.length A.cb)) ∧ TenL OK w f.T A) → FL OK w cs k f
 | ⟨0,_,_,_,_⟩,e,h => by simp [kindF] at e
 | ⟨1,_,_,_,_⟩,e,h => by simp [kindF] at e
 | ⟨2,_,_,_,_⟩,e,h => by simp [kindF] at e
 | ⟨3,_,_,_,_⟩,e,h => by simp [kindF] at e
 | ⟨_ + 4,_,_,_,_⟩,e,h => h
theorem FL.cells {OK:Nat → Prop} {w:World} {cs cs':Array Value} {k:Nat}:∀ {f:FV},FL OK w cs k f → cs'[k]? = cs[k]? → (kindF f = 4 → cs'[k + 1]? = cs[k + 1]? ∧ cs'[k + 2]? = cs[k + 2]? ∧ cs'[k + 3]? = cs[k + 3]? ∧ cs'[k + 4]? = cs[k + 4]?) → FL OK w cs' k f
 | ⟨0,_,_,_,_⟩,h,e,_ => ⟨e.trans h.1,h.2⟩
 | ⟨1,_,_,_,_⟩,h,e,_ => ⟨e.trans h.1,h.2⟩
 | ⟨2,_,_,_,_⟩,h,e,_ => e.trans h
 | ⟨3,_,_,_,_⟩,⟨p,c,h,l⟩,e,_ => ⟨p,c,e.trans h,l⟩
 | ⟨4,_,_,_,_⟩,⟨A,⟨h0,h1,h2,h3,h4⟩,l⟩,e,q => by
   obtain ⟨q1,q2,q3,q4⟩:=q rfl
   exact ⟨A,⟨e.trans h0,q1.trans h1,q2.trans h2,q3.trans h3,q4.trans h4⟩,l⟩
 | ⟨_ + 5,_,_,_,_⟩,⟨A,⟨h0,h1,h2,h3,h4⟩,l⟩,e,q => by
   obtain ⟨q1,q2,q3,q4⟩:=q rfl
   exact ⟨A,⟨e.trans h0,q1.trans h1,q2.trans h2,q3.trans h3,q4.trans h4⟩,l⟩
theorem ones_set9 {cs:Array Value} (h:Ones cs) {j:Nat} {u:Value} (hu:u.oneCell' = true):Ones (cs.setIfInBounds j u):=by
 intro v hv
 have hv':v ∈ cs.setIfInBounds j u:=Array.mem_toList_iff.1 hv
 rcases Array.mem_or_eq_of_mem_setIfInBounds hv' with g | g
 ·exact h v (by simpa using g)
 ·rw [g]; exact hu
structure SeC (k0 B:Nat) (done:List Nat) (w:World) (cs:Array Value) (D:SeD):Prop where
 sz:cs.size = 36
 ones:Ones cs
 fl:∀ k,k ≤ 31 → FL (fun b => if k ∈ done then B ≤ b else b < k0) w cs k (D k) ∧ kindF (D k) = kindsK.getD k 0
theorem SeC.start {OK:Nat → Prop} {w:World} {cs:Array Value} {D:SeD} {B:Nat} (h:SeL OK w cs D) (h1:Ones cs):SeC w.heap.size B [] w cs D :=
 ⟨h.1,h1,fun k hk => ⟨(h.2 k hk).1.mono (fun b _ hl => by simpa using hl),(h.2 k hk).2⟩⟩
theorem SeC.hold {k0 B:Nat} {done:List Nat} {w w':World} {cs:Array Value} {D:SeD} (h:SeC k0 B done w cs D) (m:Hold (fun b => b < k0 ∨ B ≤ b) w w'):SeC k0 B done w' cs D :=
 ⟨h.sz,h.ones,fun k hk => ⟨(h.fl k hk).1.hold (m.mono (fun b hb => by
  by_cases q:k ∈ done
  ·rw [if_pos q] at hb; exact .inr hb
  ·rw [if_neg q] at hb; exact .inl hb)),(h.fl k hk).2⟩⟩
theorem kinds_at {k:Nat} (hk:k ≤ 31) (e:kindsK.getD k 0 = 4):k = 31:=by
 have:∀ k,k ≤ 31 → kindsK.getD k 0 = 4 → k = 31:=by decide
 exact this k hk e
theorem SeC.list {k0 B:Nat} {done:List Nat} {w:World} {cs:Array Value} {D:SeD} (h:SeC k0 B done w cs D) {j:Nat} (hj:j ≤ 30) (hk:kindsK.getD j 0 = 3):∃ p c,cs[j]? = some (.slice p (D j).xs.length c) ∧ Ints .i64 w p c (D j).xs:=by
 obtain ⟨p,c,e,l⟩:=(h.fl j (by omega)).1.k3 ((h.fl j (by omega)).2.trans hk)
 exact ⟨p,c,e,l.1⟩
theorem SeC.setL {k0 B:Nat} {done:List Nat} {w:World} {cs:Array Value} {D:SeD} (h:SeC k0 B done w cs D) {j:Nat} (hj:j ≤ 30) (hk:kindsK.getD j 0 = 3) {p:Option Addr} {c:Nat} (hl:Li .i64 (fun b => B ≤ b) w p c (D j).xs):SeC k0 B (j :: done) w (cs.setIfInBounds j (.slice p (D j).xs.length c)) D:=by
 refine ⟨by rw [Array.size_setIfInBounds]; exact h.sz,?_,fun k hk2 => ⟨?_,(h.fl k hk2).2⟩⟩
 ·exact ones_set9 h.ones rfl
 ·by_cases e:k = j
  ·subst e
   refine FL.of3 ((h.fl k hk2).2.trans hk) ⟨p,c,?_,hl.mono (fun b hb _ => by simpa using hb)⟩
   rw [Array.getElem?_setIfInBounds_self,if_pos (by rw [h.sz]; omega)]
  ·have e1:∀ i,i ≠ j → (cs.setIfInBounds j (.slice p (D j).xs.length c))[i]? = cs[i]?:=fun i hi => by rw [Array.getElem?_setIfInBounds,if_neg (fun q => hi q.symm)]
   have:=(h.fl k hk2).1.cells (cs':=cs.setIfInBounds j (.slice p (D j).xs.length c)) (e1 k e) (fun q => by
    have:=kinds_at hk2 ((h.fl k hk2).2.symm.trans q)
    exact ⟨e1 _ (by omega),e1 _ (by omega),e1 _ (by omega),e1 _ (by omega)⟩)
   refine this.mono (fun b hb _ => ?_)
   simpa [e] using hb
def setT9 (cs:Array Value) (T:Ten) (A:TA):Array Value:=((((cs.setIfInBounds 31 (.int .i64 T.1)).setIfInBounds 32 (.slice A.pd T.2.1.length A.cd)).setIfInBounds 33 (.slice A.pf T.2.2.1.length A.cf)).setIfInBounds 34 (.slice A.pi T.2.2.2.1.length A.ci)).setIfInBounds 35 (.slice A.pb T.2.2.2.2.length A.cb)
theorem setT_low {cs:Array Value} {T:Ten} {A:TA} {k:Nat} (h:k ≤ 30):(setT9 cs T A)[k]? = cs[k]?:=by
 unfold setT9
 rw [Array.getElem?_setIfInBounds,if_neg (by omega),Array.getElem?_setIfInBounds,if_neg (by omega),Array.getElem?_setIfInBounds,if_neg (by omega),Array.getElem?_setIfInBounds,if_neg (by omega),Array.getElem?_setIfInBounds,if_neg (by omega)]
theorem SeC.setT {k0 B:Nat} {done:List Nat} {w:World} {cs:Array Value} {D:SeD} (h:SeC k0 B done w cs D) {A:TA} (hd:∀ k,k ≤ 30 → kindsK.getD k 0 = 3 → k ∈ done) (hl:TenL (fun b => B ≤ b) w (D 31).T A):SeL (fun b => B ≤ b) w (setT9 cs (D 31).T A) D ∧ Ones (setT9 cs (D 31).T A):=by
 have hs:(setT9 cs (D 31).T A).size = 36:=by unfold setT9; simp only [Array.size_setIfInBounds]; exact h.sz
 refine ⟨⟨hs,fun k hk => ⟨?_,(h.fl k hk).2⟩⟩,?_⟩
 ·by_cases e:k = 31
  ·subst e
   refine FL.of4 ((h.fl 31 (by omega)).2.trans rfl) ⟨A,⟨?_,?_,?_,?_,?_⟩,hl⟩ <;> unfold setT9 <;> simp [Array.getElem?_setIfInBounds,h.sz]
  ·have hk30:k ≤ 30:=by omega
   have hk4:kindF (D k) ≠ 4:=fun q => e (kinds_at hk ((h.fl k hk).2.symm.trans q))
   have h1:=(h.fl k hk).1.cells (cs':=setT9 cs (D 31).T A) (setT_low hk30) (fun q => absurd q hk4)
   by_cases q:k ∈ done
   ·exact h1.mono (fun b hb _ => by simpa [q] using hb)
   ·have h3:kindF (D k) ≠ 3:=fun g => q (hd k hk30 ((h.fl k hk).2.symm.trans g))
    revert h1 h3 hk4
    generalize D k = f
    intro hk4 h1 h3
    match f,hk4,h1,h3 with
    | ⟨0,_,_,_,_⟩,_,h1,_ => exact h1
    | ⟨1,_,_,_,_⟩,_,h1,_ => exact h1
    | ⟨2,_,_,_,_⟩,_,h1,_ => exact h1
    | ⟨3,_,_,_,_⟩,_,h1,h3 => exact absurd rfl h3
    | ⟨4,_,_,_,_⟩,hk4,h1,_ => exact absurd rfl hk4
    | ⟨_ + 5,_,_,_,_⟩,hk4,h1,_ => exact absurd (by simp [kindF]) hk4
 ·unfold setT9
  exact ones_set9 (ones_set9 (ones_set9 (ones_set9 (ones_set9 h.ones rfl) rfl) rfl) rfl) rfl
theorem ccopySe9_any (cs:Array Value) (D:SeD) (OK:Nat → Prop) (w:World) (h:SeL OK w cs D) (h1:Ones cs) (hs:okSe D) :
  Calls Tryz.prog 46 #[.agg cs] w fun e w' => (∃ cs',e = .returned (.agg cs') ∧ SeL (fun b => w.heap.size ≤ b) w' cs' D ∧ Ones cs') ∧ Below w.heap.size w w':=by
 have HS:=hide hs
 have SC:=hide (fun B => SeC.start (B:=B) h h1)
 have hcz:=h.1
 clear h h1 hs
 obtain ⟨W0,hW0⟩:∃ W,(w.alloc (.cells cs 49)).alloc (.cells zeroC 49) = W:=⟨_,rfl⟩
 have X0:Hid (Box W0 w.heap.size cs 49):=hide (by rw [← hW0]; exact (Box.new _ _ _).alloc _)
 have R0:Hid (Box W0 (w.heap.size + 1) zeroC 49):=hide (by rw [← hW0]; have h:=Box.new (w.alloc (.cells cs 49)) zeroC 49; simp only [World.size_alloc] at h; exact h)
 have B0:Hid (Below w.heap.size w W0):=hide (by rw [← hW0]; exact bl_tr (al1p _ _) (al1p _ _))
 have HSZ:Hid (W0.heap.size = w.heap.size + 2):=hide (by rw [← hW0]; simp)
 obtain ⟨k0,hk0⟩:∃ k,w.heap.size = k:=⟨_,rfl⟩
 have HK0:=hide hk0
 replace SC:Hid (SeC k0 W0.heap.size [] W0 cs D):=hide (by have:=(uh SC W0.heap.size).hold (Hold.below (uh B0)); rw [hk0] at this; exact this)
 rw [hk0] at X0 R0 HSZ
 go_enter Tryz.func46,Tryz.ntmps46
 go_upto_region 1 with fail
 unfold zeroC at hW0
 (try rw [hW0])
 (try rw [hk0])
 clear hW0 hk0
 have HBB:Hid (W0.heap.size ≤ W0.heap.size):=hide (Nat.le_refl _)
 obtain ⟨p1,c1,e1,l1⟩:=(uh SC).list (j:=1) (by omega) rfl
 have x0:W0.cell? ⟨k0,1,none⟩ = some (.slice p1 (D 1).xs.length c1):=((uh X0).cell 1).trans e1
 have CC1:=hide (ccopi9_any p1 c1 (D 1).xs W0 l1 (uh HS).1.1)
 have E1:=hide e1
 clear e1 l1
 go_wp2_with fail
 refine (uh CC1).mono ?_
 rintro e v1 ⟨⟨q1,d1,rfl,hL,hF⟩,hb⟩
 have x0':v1.cell? ⟨k0,1,none⟩ = some (.slice p1 (D 1).xs.length c1):=(((uh X0).below hb).cell 1).trans (uh E1)
 have xl0:=((uh X0).below hb).lt
 have xf0:=((uh X0).below hb).frozen
 obtain ⟨W1,hW1⟩:∃ W,v1.setCell ⟨k0,1,none⟩ (.slice q1 (D 1).xs.length d1) = W:=⟨_,rfl⟩
 have X1:Hid (Box W1 k0 (cs.setIfInBounds 1 (.slice q1 (D 1).xs.length d1)) 49):=hide (by rw [← hW1]; exact Box.same ((uh X0).below hb) 1 _)
 have R1:Hid (Box W1 (k0 + 1) zeroC 49):=hide (by rw [← hW1]; exact Box.other ((uh R0).below hb) (by omega) _ _)
 have SC1:Hid (SeC k0 W0.heap.size (1 :: []) W1 (cs.setIfInBounds 1 (.slice q1 (D 1).xs.length d1)) D):=hide (by
  have h1:=((uh SC).hold (Hold.below hb)).setL (j:=1) (by omega) rfl (p:=q1) (c:=d1) ⟨hL,fun b o e hp => Nat.le_trans (uh HBB) (hF b o e hp).1⟩
  rw [← hW1]
  exact h1.hold (Hold.stay (Stay.set8 _) (by rw [uh HSZ]; omega)))
 have B1:Hid (Below w.heap.size w W1):=hide (by rw [← hW1]; exact Below.setCell (bl_tr (uh B0) hb) (Nat.le_of_eq (uh HK0)) _)
 have HBB1:Hid (W0.heap.size ≤ W1.heap.size):=hide (by rw [← hW1]; exact Nat.le_trans (Nat.le_trans (uh HBB) hb.size) (Stay.set8 (g:=k0) _).1.size)
 clear x0 hL hF hb CC1
 go_upto_region 2 with fail
 (try rw [hW1])
 clear hW1 x0' xl0 xf0 X0 R0 SC B0 HBB E1
 obtain ⟨p2,c2,e2,l2⟩:=(uh SC1).list (j:=7) (by omega) rfl
 have x1:W1.cell? ⟨k0,7,none⟩ = some (.slice p2 (D 7).xs.length c2):=((uh X1).cell 7).trans e2
 have CC2:=hide (ccopi9_any p2 c2 (D 7).xs W1 l2 (uh HS).1.2.1)
 have E2:=hide e2
 clear e2 l2
 go_wp2_with fail
 refine (uh CC2).mono ?_
 rintro e v2 ⟨⟨q2,d2,rfl,hL,hF⟩,hb⟩
 have x1':v2.cell? ⟨k0,7,none⟩ = some (.slice p2 (D 7).xs.length c2):=(((uh X1).below hb).cell 7).trans (uh E2)
 have xl1:=((uh X1).below hb).lt
 have xf1:=((uh X1).below hb).frozen
 obtain ⟨W2,hW2⟩:∃ W,v2.setCell ⟨k0,7,none⟩ (.slice q2 (D 7).xs.length d2) = W:=⟨_,rfl⟩
 have X2:Hid (Box W2 k0 ((cs.setIfInBounds 1 (.slice q1 (D 1).xs.length d1)).setIfInBounds 7 (.slice q2 (D 7).xs.length d2)) 49):=hide (by rw [← hW2]; exact Box.same ((uh X1).below hb) 7 _)
 have R2:Hid (Box W2 (k0 + 1) zeroC 49):=hide (by rw [← hW2]; exact Box.other ((uh R1).below hb) (by omega) _ _)
 have SC2:Hid (SeC k0 W0.heap.size (7 :: [1]) W2 ((cs.setIfInBounds 1 (.slice q1 (D 1).xs.length d1)).setIfInBounds 7 (.slice q2 (D 7).xs.length d2)) D):=hide (by
  have h1:=((uh SC1).hold (Hold.below hb)).setL (j:=7) (by omega) rfl (p:=q2) (c:=d2) ⟨hL,fun b o e hp => Nat.le_trans (uh HBB1) (hF b o e hp).1⟩
  rw [← hW2]
  exact h1.hold (Hold.stay (Stay.set8 _) (by rw [uh HSZ]; omega)))
 have B2:Hid (Below w.heap.size w W2):=hide (by rw [← hW2]; exact Below.setCell (bl_tr (uh B1) hb) (Nat.le_of_eq (uh HK0)) _)
 have HBB2:Hid (W0.heap.size ≤ W2.heap.size):=hide (by rw [← hW2]; exact Nat.le_trans (Nat.le_trans (uh HBB1) hb.size) (Stay.set8 (g:=k0) _).1.size)
 clear x1 hL hF hb CC2
 go_upto_region 3 with fail
 (try rw [hW2])
 clear hW2 x1' xl1 xf1 X1 R1 SC1 B1 HBB1 E2
 obtain ⟨p3,c3,e3,l3⟩:=(uh SC2).list (j:=20) (by omega) rfl
 have x2:W2.cell? ⟨k0,20,none⟩ = some (.slice p3 (D 20).xs.length c3):=((uh X2).cell 20).trans e3
 have CC3:=hide (ccopi9_any p3 c3 (D 20).xs W2 l3 (uh HS).1.2.2.1)
 have E3:=hide e3
 clear e3 l3
 go_wp2_with fail
 refine (uh CC3).mono ?_
 rintro e v3 ⟨⟨q3,d3,rfl,hL,hF⟩,hb⟩
 have x2':v3.cell? ⟨k0,20,none⟩ = some (.slice p3 (D 20).xs.length c3):=(((uh X2).below hb).cell 20).trans (uh E3)
 have xl2:=((uh X2).below hb).lt
 have xf2:=((uh X2).below hb).frozen
 obtain ⟨W3,hW3⟩:∃ W,v3.setCell ⟨k0,20,none⟩ (.slice q3 (D 20).xs.length d3) = W:=⟨_,rfl⟩
 have X3:Hid (Box W3 k0 (((cs.setIfInBounds 1 (.slice q1 (D 1).xs.length d1)).setIfInBounds 7 (.slice q2 (D 7).xs.length d2)).setIfInBounds 20 (.slice q3 (D 20).xs.length d3)) 49):=hide (by rw [← hW3]; exact Box.same ((uh X2).below hb) 20 _)
 have R3:Hid (Box W3 (k0 + 1) zeroC 49):=hide (by rw [← hW3]; exact Box.other ((uh R2).below hb) (by omega) _ _)
 have SC3:Hid (SeC k0 W0.heap.size (20 :: 7 :: [1]) W3 (((cs.setIfInBounds 1 (.slice q1 (D 1).xs.length d1)).setIfInBounds 7 (.slice q2 (D 7).xs.length d2)).setIfInBounds 20 (.slice q3 (D 20).xs.length d3)) D):=hide (by
  have h1:=((uh SC2).hold (Hold.below hb)).setL (j:=20) (by omega) rfl (p:=q3) (c:=d3) ⟨hL,fun b o e hp => Nat.le_trans (uh HBB2) (hF b o e hp).1⟩
  rw [← hW3]
  exact h1.hold (Hold.stay (Stay.set8 _) (by rw [uh HSZ]; omega)))
 have B3:Hid (Below w.heap.size w W3):=hide (by rw [← hW3]; exact Below.setCell (bl_tr (uh B2) hb) (Nat.le_of_eq (uh HK0)) _)
 have HBB3:Hid (W0.heap.size ≤ W3.heap.size):=hide (by rw [← hW3]; exact Nat.le_trans (Nat.le_trans (uh HBB2) hb.size) (Stay.set8 (g:=k0) _).1.size)
 clear x2 hL hF hb CC3
 go_upto_region 4 with fail
 (try rw [hW3])
 clear hW3 x2' xl2 xf2 X2 R2 SC2 B2 HBB2 E3
 obtain ⟨p4,c4,e4,l4⟩:=(uh SC3).list (j:=21) (by omega) rfl
 have x3:W3.cell? ⟨k0,21,none⟩ = some (.slice p4 (D 21).xs.length c4):=((uh X3).cell 21).trans e4
 have CC4:=hide (ccopi9_any p4 c4 (D 21).xs W3 l4 (uh HS).1.2.2.2.1)
 have E4:=hide e4
 clear e4 l4
 go_wp2_with fail
 refine (uh CC4).mono ?_
 rintro e v4 ⟨⟨q4,d4,rfl,hL,hF⟩,hb⟩
 have x3':v4.cell? ⟨k0,21,none⟩ = some (.slice p4 (D 21).xs.length c4):=(((uh X3).below hb).cell 21).trans (uh E4)
 have xl3:=((uh X3).below hb).lt
 have xf3:=((uh X3).below hb).frozen
 obtain ⟨W4,hW4⟩:∃ W,v4.setCell ⟨k0,21,none⟩ (.slice q4 (D 21).xs.length d4) = W:=⟨_,rfl⟩
 have X4:Hid (Box W4 k0 ((((cs.setIfInBounds 1 (.slice q1 (D 1).xs.length d1)).setIfInBounds 7 (.slice q2 (D 7).xs.length d2)).setIfInBounds 20 (.slice q3 (D 20).xs.length d3)).setIfInBounds 21 (.slice q4 (D 21).xs.length d4)) 49):=hide (by rw [← hW4]; exact Box.same ((uh X3).below hb) 21 _)
 have R4:Hid (Box W4 (k0 + 1) zeroC 49):=hide (by rw [← hW4]; exact Box.other ((uh R3).below hb) (by omega) _ _)
 have SC4:Hid (SeC k0 W0.heap.size (21 :: 20 :: 7 :: [1]) W4 ((((cs.setIfInBounds 1 (.slice q1 (D 1).xs.length d1)).setIfInBounds 7 (.slice q2 (D 7).xs.length d2)).setIfInBounds 20 (.slice q3 (D 20).xs.length d3)).setIfInBounds 21 (.slice q4 (D 21).xs.length d4)) D):=hide (by
  have h1:=((uh SC3).hold (Hold.below hb)).setL (j:=21) (by omega) rfl (p:=q4) (c:=d4) ⟨hL,fun b o e hp => Nat.le_trans (uh HBB3) (hF b o e hp).1⟩
  rw [← hW4]
  exact h1.hold (Hold.stay (Stay.set8 _) (by rw [uh HSZ]; omega)))
 have B4:Hid (Below w.heap.size w W4):=hide (by rw [← hW4]; exact Below.setCell (bl_tr (uh B3) hb) (Nat.le_of_eq (uh HK0)) _)
 have HBB4:Hid (W0.heap.size ≤ W4.heap.size):=hide (by rw [← hW4]; exact Nat.le_trans (Nat.le_trans (uh HBB3) hb.size) (Stay.set8 (g:=k0) _).1.size)
 clear x3 hL hF hb CC4
 go_upto_region 5 with fail
 (try rw [hW4])
 clear hW4 x3' xl3 xf3 X3 R3 SC3 B3 HBB3 E4
 obtain ⟨p5,c5,e5,l5⟩:=(uh SC4).list (j:=22) (by omega) rfl
 have x4:W4.cell? ⟨k0,22,none⟩ = some (.slice p5 (D 22).xs.length c5):=((uh X4).cell 22).trans e5
 have CC5:=hide (ccopi9_any p5 c5 (D 22).xs W4 l5 (uh HS).1.2.2.2.2.1)
 have E5:=hide e5
 clear e5 l5
 go_wp2_with fail
 refine (uh CC5).mono ?_
 rintro e v5 ⟨⟨q5,d5,rfl,hL,hF⟩,hb⟩
 have x4':v5.cell? ⟨k0,22,none⟩ = some (.slice p5 (D 22).xs.length c5):=(((uh X4).below hb).cell 22).trans (uh E5)
 have xl4:=((uh X4).below hb).lt
 have xf4:=((uh X4).below hb).frozen
 obtain ⟨W5,hW5⟩:∃ W,v5.setCell ⟨k0,22,none⟩ (.slice q5 (D 22).xs.length d5) = W:=⟨_,rfl⟩
 have X5:Hid (Box W5 k0 (((((cs.setIfInBounds 1 (.slice q1 (D 1).xs.length d1)).setIfInBounds 7 (.slice q2 (D 7).xs.length d2)).setIfInBounds 20 (.slice q3 (D 20).xs.length d3)).setIfInBounds 21 (.slice q4 (D 21).xs.length d4)).setIfInBounds 22 (.slice q5 (D 22).xs.length d5)) 49):=hide (by rw [← hW5]; exact Box.same ((uh X4).below hb) 22 _)
 have R5:Hid (Box W5 (k0 + 1) zeroC 49):=hide (by rw [← hW5]; exact Box.other ((uh R4).below hb) (by omega) _ _)
 have SC5:Hid (SeC k0 W0.heap.size (22 :: 21 :: 20 :: 7 :: [1]) W5 (((((cs.setIfInBounds 1 (.slice q1 (D 1).xs.length d1)).setIfInBounds 7 (.slice q2 (D 7).xs.length d2)).setIfInBounds 20 (.slice q3 (D 20).xs.length d3)).setIfInBounds 21 (.slice q4 (D 21).xs.length d4)).setIfInBounds 22 (.slice q5 (D 22).xs.length d5)) D):=hide (by
  have h1:=((uh SC4).hold (Hold.below hb)).setL (j:=22) (by omega) rfl (p:=q5) (c:=d5) ⟨hL,fun b o e hp => Nat.le_trans (uh HBB4) (hF b o e hp).1⟩
  rw [← hW5]
  exact h1.hold (Hold.stay (Stay.set8 _) (by rw [uh HSZ]; omega)))
 have B5:Hid (Below w.heap.size w W5):=hide (by rw [← hW5]; exact Below.setCell (bl_tr (uh B4) hb) (Nat.le_of_eq (uh HK0)) _)
 have HBB5:Hid (W0.heap.size ≤ W5.heap.size):=hide (by rw [← hW5]; exact Nat.le_trans (Nat.le_trans (uh HBB4) hb.size) (Stay.set8 (g:=k0) _).1.size)
 clear x4 hL hF hb CC5
 go_upto_region 6 with fail
 (try rw [hW5])
 clear hW5 x4' xl4 xf4 X4 R4 SC4 B4 HBB4 E5
 obtain ⟨p6,c6,e6,l6⟩:=(uh SC5).list (j:=23) (by omega) rfl
 have x5:W5.cell? ⟨k0,23,none⟩ = some (.slice p6 (D 23).xs.length c6):=((uh X5).cell 23).trans e6
 have CC6:=hide (ccopi9_any p6 c6 (D 23).xs W5 l6 (uh HS).1.2.2.2.2.2)
 have E6:=hide e6
 clear e6 l6
 go_wp2_with fail
 refine (uh CC6).mono ?_
 rintro e v6 ⟨⟨q6,d6,rfl,hL,hF⟩,hb⟩
 have x5':v6.cell? ⟨k0,23,none⟩ = some (.slice p6 (D 23).xs.length c6):=(((uh X5).below hb).cell 23).trans (uh E6)
 have xl5:=((uh X5).below hb).lt
 have xf5:=((uh X5).below hb).frozen
 obtain ⟨W6,hW6⟩:∃ W,v6.setCell ⟨k0,23,none⟩ (.slice q6 (D 23).xs.length d6) = W:=⟨_,rfl⟩
 have X6:Hid (Box W6 k0 ((((((cs.setIfInBounds 1 (.slice q1 (D 1).xs.length d1)).setIfInBounds 7 (.slice q2 (D 7).xs.length d2)).setIfInBounds 20 (.slice q3 (D 20).xs.length d3)).setIfInBounds 21 (.slice q4 (D 21).xs.length d4)).setIfInBounds 22 (.slice q5 (D 22).xs.length d5)).setIfInBounds 23 (.slice q6 (D 23).xs.length d6)) 49):=hide (by rw [← hW6]; exact Box.same ((uh X5).below hb) 23 _)
 have R6:Hid (Box W6 (k0 + 1) zeroC 49):=hide (by rw [← hW6]; exact Box.other ((uh R5).below hb) (by omega) _ _)
 have SC6:Hid (SeC k0 W0.heap.size (23 :: 22 :: 21 :: 20 :: 7 :: [1]) W6 ((((((cs.setIfInBounds 1 (.slice q1 (D 1).xs.length d1)).setIfInBounds 7 (.slice q2 (D 7).xs.length d2)).setIfInBounds 20 (.slice q3 (D 20).xs.length d3)).setIfInBounds 21 (.slice q4 (D 21).xs.length d4)).setIfInBounds 22 (.slice q5 (D 22).xs.length d5)).setIfInBounds 23 (.slice q6 (D 23).xs.length d6)) D):=hide (by
  have h1:=((uh SC5).hold (Hold.below hb)).setL (j:=23) (by omega) rfl (p:=q6) (c:=d6) ⟨hL,fun b o e hp => Nat.le_trans (uh HBB5) (hF b o e hp).1⟩
  rw [← hW6]
  exact h1.hold (Hold.stay (Stay.set8 _) (by rw [uh HSZ]; omega)))
 have B6:Hid (Below w.heap.size w W6):=hide (by rw [← hW6]; exact Below.setCell (bl_tr (uh B5) hb) (Nat.le_of_eq (uh HK0)) _)
 have HBB6:Hid (W0.heap.size ≤ W6.heap.size):=hide (by rw [← hW6]; exact Nat.le_trans (Nat.le_trans (uh HBB5) hb.size) (Stay.set8 (g:=k0) _).1.size)
 clear x5 hL hF hb CC6
 go_upto_region 7 with fail
 (try rw [hW6])
 clear hW6 x5' xl5 xf5 X5 R5 SC5 B5 HBB5 E6
 obtain ⟨cs6,hcs6⟩:∃ c,((((((cs.setIfInBounds 1 (.slice q1 (D 1).xs.length d1)).setIfInBounds 7 (.slice q2 (D 7).xs.length d2)).setIfInBounds 20 (.slice q3 (D 20).xs.length d3)).setIfInBounds 21 (.slice q4 (D 21).xs.length d4)).setIfInBounds 22 (.slice q5 (D 22).xs.length d5)).setIfInBounds 23 (.slice q6 (D 23).xs.length d6)) = c:=⟨_,rfl⟩
 rw [hcs6] at X6 SC6
 clear hcs6
 obtain ⟨A,⟨e0,e1,e2,e3,e4⟩,hT⟩:=((uh SC6).fl 31 (by omega)).1.k4 (((uh SC6).fl 31 (by omega)).2.trans rfl)
 have CT:=hide (tcopy_any (D 31).T A W6 hT.inn (uh HS).2)
 have HST:=hide (fun v (hv:Below W6.heap.size W6 v) (C:TA) (hl:TenL (fun b => W0.heap.size ≤ b) v (D 31).T C) => ((uh SC6).hold (Hold.below hv)).setT (A:=C) (by decide) hl)
 clear hT
 generalize (D 31).T = TT at e0 e1 e2 e3 e4 CT HST
 obtain ⟨ty,ds,fs,is,bs⟩:=TT
 obtain ⟨pd,cd,pf,cf,pi,ci,pb,cb⟩:=A
 unfold tenV tenCells at CT
 simp only at e0 e1 e2 e3 e4 CT
 have g0:=((uh X6).cell 31).trans e0
 have g1:=((uh X6).cell 32).trans e1
 have g2:=((uh X6).cell 33).trans e2
 have g3:=((uh X6).cell 34).trans e3
 have g4:=((uh X6).cell 35).trans e4
 have HE:=hide (⟨e0,e1,e2,e3,e4⟩:_ ∧ _ ∧ _ ∧ _ ∧ _)
 clear e0 e1 e2 e3 e4
 go_wp2_with fail
 refine (uh CT).mono ?_
 rintro e v7 ⟨⟨C,rfl,hO⟩,hb⟩
 obtain ⟨e0,e1,e2,e3,e4⟩:=uh HE
 have h0:=(((uh X6).below hb).cell 31).trans e0
 have h1:=(((uh X6).below hb).cell 32).trans e1
 have h2:=(((uh X6).below hb).cell 33).trans e2
 have h3:=(((uh X6).below hb).cell 34).trans e3
 have h4:=(((uh X6).below hb).cell 35).trans e4
 have hl:=((uh X6).below hb).lt
 have hf:=((uh X6).below hb).frozen
 have HO:=hide hO
 have HB7:=hide hb
 clear e0 e1 e2 e3 e4 g0 g1 g2 g3 g4 hO hb CT HE
 obtain ⟨W7,hW7⟩:∃ W,((((v7.setCell ⟨k0,31,none⟩ (.int .i64 ty)).setCell ⟨k0,32,none⟩ (.slice C.pd ds.length C.cd)).setCell ⟨k0,33,none⟩ (.slice C.pf fs.length C.cf)).setCell ⟨k0,34,none⟩ (.slice C.pi is.length C.ci)).setCell ⟨k0,35,none⟩ (.slice C.pb bs.length C.cb) = W:=⟨_,rfl⟩
 have S7:Hid (Stay k0 v7 W7):=hide (by rw [← hW7]; exact ((((Stay.set8 _).trans (Stay.set8 _)).trans (Stay.set8 _)).trans (Stay.set8 _)).trans (Stay.set8 _))
 have X7:Hid (Box W7 k0 (setT9 cs6 (ty,ds,fs,is,bs) C) 49):=hide (by rw [← hW7]; exact Box.same (Box.same (Box.same (Box.same (Box.same ((uh X6).below (uh HB7)) 31 _) 32 _) 33 _) 34 _) 35 _)
 have R7:Hid (Box W7 (k0 + 1) zeroC 49):=hide (((uh S7).block (by omega) ((uh R6).below (uh HB7)).lt).trans ((uh R6).below (uh HB7)))
 have B7:Hid (Below w.heap.size w W7):=hide (bl_tr7 (bl_tr (uh B6) (uh HB7)) (bl_mono7 (uh S7).1 (Nat.le_of_eq (uh HK0))))
 have HF:Hid (SeL (fun b => W0.heap.size ≤ b) W7 (setT9 cs6 (ty,ds,fs,is,bs) C) D ∧ Ones (setT9 cs6 (ty,ds,fs,is,bs) C)):=hide (by
  have q:=uh HST v7 (uh HB7) C ((uh HO).tenL.mono (fun b hb _ => Nat.le_trans (uh HBB6) hb))
  exact ⟨q.1.hold (Hold.stay (uh S7) (by show ¬ W0.heap.size ≤ k0; rw [uh HSZ]; omega)),q.2⟩)
 go_upto_region 8 with fail
 (try rw [hW7])
 clear hW7 h0 h1 h2 h3 h4 hl hf X6 R6 B6 SC6 HST HO HB7
 obtain ⟨cs7,hcs7⟩:∃ c,setT9 cs6 (ty,ds,fs,is,bs) C = c:=⟨_,rfl⟩
 rw [hcs7] at X7 HF
 clear hcs7
 go_wp2_with (first
  | (refine wpList_load8 rfl _ rfl rfl (uh X7) (uh HF).1.1 ?_)
  | (refine wpList_store8 rfl _ _ rfl rfl rfl (uh R7) (uh HF).1.1 rfl (uh HF).2 ?_; intro w8 b8 s8 z8; have G8:=hide b8; have S8:=hide s8; clear b8 s8 z8))
 refine bodyPost_ret (results_se1 rfl rfl (uh G8) (uh HF).1.1) rfl ⟨⟨cs7,rfl,?_,(uh HF).2⟩,bl_tr7 (uh B7) (bl_mono7 (uh S8).1 (by have:=uh HK0; omega))⟩
 exact ((uh HF).1.hold (Hold.stay (uh S8) (by show ¬ W0.heap.size ≤ k0 + 1; rw [uh HSZ]; omega))).mono (fun b hb _ => by
  have h2:W0.heap.size ≤ b:=hb
  have h3:=uh HSZ
  have h4:=uh HK0
  show w.heap.size ≤ b
  omega)
end Go.Proofs.YtbmmcbagdomonaaGreat
