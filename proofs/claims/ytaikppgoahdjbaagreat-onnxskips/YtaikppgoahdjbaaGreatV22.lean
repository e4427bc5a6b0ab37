import Derived.Laws.BytesArg
import Derived.Lib.SlBytesConst
import Derived.Laws.BytesString
import Derived.Test.YtaikppgoahdjbaaGreatV06
import Derived.Test.YtaikppgoahdjbaaGreatV15
import Derived.Test.YtaikppgoahdjbaaGreatV16
import Derived.Test.YtaikppgoahdjbaaGreatV18
import Derived.Test.YtaikppgoahdjbaaGreatV20
import Derived.Test.YtaikppgoahdjbaaGreatV21
set_option maxRecDepth 100000
set_option maxHeartbeats 8000000
namespace Go.Proofs.YtaikppgoahdjbaaGreat
open Go.RowKit
set_option linter.unusedVariables false
theorem box_ints {u:World} {k:Nat} {cs:Array Value} {t:TypeId} (h:Box u k cs t) (xs:List Int) (hc:cs = (xs.map (Value.int .u8)).toArray) (hx:∀ x ∈ xs,(Lit.int .u8 x).wf = true) (hn:xs.length ≤ 1000):Ints .u8 u (some ⟨k,0,none⟩) xs.length xs:=by
 refine ⟨Nat.le_refl _,by omega,hx,fun _ => ⟨k,0,rfl,h.lt,fun i hi => ?_⟩,fun h => by cases h⟩
 rw [h.cell,hc,Nat.zero_add]
 simp [List.getElem?_eq_getElem hi]
theorem readV_err (b:List Int) (h:¬ (readV b).2 = 0):(readV b).1 = []:=by
 unfold readV at h ⊢
 split
 ·rfl
 ·rename_i h1
  rw [if_neg h1] at h
  cases hl:readL b with
  | none => rfl
  | some l => rw [hl] at h; exact absurd rfl h
theorem readV_code (b:List Int) (h:b.length ≤ 4194304):(readV b).2 = 0 ∨ (readV b).2 = 6:=by
 unfold readV
 rw [if_neg (by omega)]
 cases readL b with
 | none => exact .inr rfl
 | some l => exact .inl rfl
theorem map_nil_of {L:List FA} (h:L.map FA.f = []):L = []:=by
 cases L with
 | nil => rfl
 | cons a r => cases h
theorem msg_sum:∀ {L:List FA},(∀ f ∈ L.map FA.f,mayF f) → sumD L + L.length ≤ (msgB (L.map FA.f)).length
 | [],_ => by simp [sumD]
 | a :: r,h => by
   have ih:=msg_sum (L:=r) (fun f hf => h f (by simp only [List.map_cons,List.mem_cons]; exact .inr hf))
   have e:msgB ((a :: r).map FA.f) = fieldB a.f ++ msgB (r.map FA.f):=by simp [msgB]
   have e2:sumD (a :: r) = a.d.length + sumD r:=by simp [sumD]
   have h1:=headB_data (h a.f (by simp))
   have h2:1 ≤ (headB a.f).length:=by
    unfold headB
    have:=(varV_len (a.f.1 * 8 + a.f.2.1)).1
    rw [List.length_append]; omega
   rw [e,e2,List.length_append,h1,List.length_append,List.length_cons]
   have:a.f.2.2.2.length = a.d.length:=rfl
   omega
theorem read_sum {b:List Int} {L:List FA} (hb:isB b) (hs:b.length ≤ 4194304) (h:L.map FA.f = (readV b).1):sumD L + L.length ≤ 4194304:=by
 by_cases h0:(readV b).2 = 0
 ·unfold readV at h h0
  rw [if_neg (by omega)] at h h0
  cases hl:readL b with
  | none => rw [hl] at h0; cases h0
  | some l =>
    rw [hl] at h
    simp only at h
    obtain ⟨m1,m2⟩:=readF_may _ b l hb hl
    have:=msg_sum (L:=L) (fun f hf => by rw [h] at hf; exact (m1 f hf).1)
    rw [h] at this
    omega
 ·rw [readV_err b h0] at h
  rw [map_nil_of h]
  simp [sumD]
theorem fold_push:∀ (l:List Int) (s:ByteArray),l.foldl (fun r n => r.push (UInt8.ofNat n.toNat)) s = ⟨s.data ++ (l.map fun n => UInt8.ofNat n.toNat).toArray⟩
 | [],s => by simp
 | x :: r,s => by
   rw [List.foldl_cons,fold_push r]
   congr 1
   apply Array.toList_inj.1
   simp [ByteArray.push]
theorem conv_str {src dst e:TypeId} {w:World} {p:Option Addr} {c:Nat} {l:List Int} (hs:Tryz.prog.underlying src = some (.slice e)) (he:Tryz.prog.underlying e = some (.int .u8)) (hd:Tryz.prog.underlying dst = some .string) (h:Ls (Value.int .u8) w p c l) :
  (convert src dst (.slice p l.length c)).run Tryz.prog w = .ok (.string (strOfNums l)) w:=by
 rw [run_convert_bytes_string w src dst e p l.length c hs he hd]
 cases p with
 | none =>
   have hx0:l = []:=by
    rcases Nat.eq_zero_or_pos l.length with g | g
    ·exact List.eq_nil_of_length_eq_zero g
    ·obtain ⟨b,o,e,_⟩:=h.lies g; cases e
   subst hx0
   simp [Conv.bytesToString]
   rfl
 | some ad =>
   rw [run_bytesToString w ad l.length c l (by
    have h1:=run_loadCells_list (P:=Tryz.prog) (w:=w) ad (l.map (Value.int .u8)) (ls_cells h)
    simpa using h1),fold_push]
   simp [strOfNums,ByteArray.empty,ByteArray.emptyWithCapacity]
   rfl
theorem bad3_if (b:Bool) (k:Int) (hk:0 ≤ k):max k (lev (bad3 b)) = if b = true then max k 3 else k:=by cases b <;> simp [bad3,lev]; omega
theorem odd3_if (b:Bool) (k:Int) (hk:0 ≤ k):max k (lev (odd3 b)) = if b = true then max k 2 else k:=by cases b <;> simp [odd3,lev]; omega
theorem big3_if (b:Bool) (k:Int) (hk:0 ≤ k):max k (lev (big3 b)) = if b = true then max k 1 else k:=by cases b <;> simp [big3,lev]; omega
def NEnd (g:Nat) (f:F3) (w:World) (e:Ending) (w':World):Prop:=e = .returned (.tuple #[]) ∧ RE g f w w'
theorem cnote_bad (g:Nat) (q:Option Addr) (n d:Nat) (is:Bool) (w:World) (hw:WstE g w) :
  Calls Tryz.prog 58 #[msV q n d g,.bool is,.int .i64 3] w fun e w' => NEnd g (bad3 is) w e w' :=
 (cnote_any g q n d is 3 w hw).mono fun e w' h => ⟨h.1,h.2.1,fun j hj hb => by rw [bad3_if is j hj]; exact h.2.2 j hb⟩
theorem cnote_odd (g:Nat) (q:Option Addr) (n d:Nat) (is:Bool) (w:World) (hw:WstE g w) :
  Calls Tryz.prog 58 #[msV q n d g,.bool is,.int .i64 2] w fun e w' => NEnd g (odd3 is) w e w' :=
 (cnote_any g q n d is 2 w hw).mono fun e w' h => ⟨h.1,h.2.1,fun j hj hb => by rw [odd3_if is j hj]; exact h.2.2 j hb⟩
theorem cnote_big (g:Nat) (q:Option Addr) (n d:Nat) (is:Bool) (w:World) (hw:WstE g w) :
  Calls Tryz.prog 58 #[msV q n d g,.bool is,.int .i64 1] w fun e w' => NEnd g (big3 is) w e w' :=
 (cnote_any g q n d is 1 w hw).mono fun e w' h => ⟨h.1,h.2.1,fun j hj hb => by rw [big3_if is j hj]; exact h.2.2 j hb⟩
theorem climit_any (g:Nat) (q:Option Addr) (n d:Nat) (size most:Int) (w:World) (hw:WstE g w) :
  Calls Tryz.prog 124 #[msV q n d g,.int .i64 size,.int .i64 most] w fun e w' => NEnd g (big3 (decide (most < size))) w e w':=by
 have C1:=hide (fun v (hv:WstE g v) => cnote_big g q n d (decide (most < size)) v hv)
 have HW:=hide hw
 clear hw
 generalize hD:decide (most < size) = D at C1 ⊢
 unfold msV at C1 ⊢
 go_enter Tryz.func124,Tryz.ntmps124
 go_wp2_with fail
 try rw [hD]
 refine (uh C1 _ ((uh HW).below (al1p _ _))).mono ?_
 rintro e v ⟨rfl,hv⟩
 have H1:=hide ((RE.below (al1p _ _) (uh HW)).trans hv)
 clear hv
 rw [no_f3] at H1
 go_wp2_with fail
 go_end0
 exact ⟨rfl,uh H1⟩
theorem MsIn.sw {g r:Nat} {w w0:World} {q:Option Addr} {d:Nat} {L:List FA} (h:MsIn g w q d L) (hr:MsIn r w0 q d L):MsIn r w q d L:=⟨h.1,hr.2.1,hr.2.2.1,h.2.2.2⟩
theorem Stay.set (r:Nat) (w:World) (j:Nat) (u:Value):Stay r w (w.setCell ⟨r,j,none⟩ u):=⟨(Below.refl r w).setCell (p:=⟨r,j,none⟩) (Nat.le_refl r) u,fun k hk _ => Below.heap_setCell _ _ _ _ (by simp only; omega)⟩
theorem RE.setNew {g r:Nat} {f:F3} {w w':World} (h:RE g f w w') (hr:w.heap.size ≤ r) (hg:g < w.heap.size) (j:Nat) (u:Value):RE g f w (w'.setCell ⟨r,j,none⟩ u) :=
 ⟨⟨h.1.1.setCell (p:=⟨r,j,none⟩) (by simp only; omega) u,fun k h1 h2 => (Below.heap_setCell _ _ _ _ (by simp only; omega)).trans (h.1.2 k h1 h2)⟩,fun k hk hb => Box.other (h.2 k hk hb) (by omega) j u⟩
def FrM (B:Nat) (q:Option Addr) (L:List FA):Prop:=∀ r,r < B → Off r q L.length ∧ ∀ a ∈ L,Off r a.q a.d.length
theorem ownL_ms {g:Nat} {w w':World} {v:Value} {L:List FA} (h:OwnL w w' v L) (hg:g < w.heap.size) (hs:sumD L + L.length ≤ 4194304):∃ q d,v = .slice q L.length d ∧ MsIn g w' q d L:=by
 obtain ⟨q,d,hv,hc,hf⟩:=h.1.form
 refine ⟨q,d,hv,⟨hc,fun a ha => (h.2 a ha).1⟩,fun b o e hp => ?_,fun a ha b o e hp => ?_,hs⟩
 ·have:=(hf b o e (by omega)).1; omega
 ·rcases (h.2 a ha).2.2 with ⟨hv2,h0⟩ | ⟨k,cap,cur,hv2,hb,_⟩
  ·simp only [Value.slice.injEq] at hv2
   rw [hv2.1] at e; cases e
  ·simp only [Value.slice.injEq] at hv2
   rw [hv2.1] at e
   simp only [Option.some.injEq,Addr.mk.injEq] at e
   omega
theorem copened_any (g:Nat) (q:Option Addr) (n d:Nat) (p:Option Addr) (c:Nat) (b:List Int) (w:World) (hw:WstE g w) (hb:Ints .u8 w p c b) (hl:b.length ≤ 4194304) :
  Calls Tryz.prog 27 #[msV q n d g,.slice p b.length c] w fun e w' => ∃ q' d' L,e = .returned (msV q' L.length d' g) ∧ Hid (L.map FA.f = (fieldsP b).1 ∧ MsIn g w' q' d' L ∧ RE g (fieldsP b).2 w w' ∧ FrM w.heap.size q' L):=by
 have C1:=hide (fun v (hv:Below w.heap.size w v) => cread_any p c b v (hb.below hv))
 have HS:=hide (fun L => read_sum (L:=L) (wf_isB hb.2.2.1) hl)
 have HF:Hid (fieldsP b = ((readV b).1,bad3 ((readV b).2 != 0))):=hide rfl
 generalize readV b = R at C1 HS HF
 obtain ⟨R1,R2⟩:=R
 simp only at C1 HS HF
 rw [uh HF]
 have C2:=hide (fun v (hv:WstE g v) => cnote_bad g q n d (R2 != 0) v hv)
 obtain ⟨D,hD⟩:∃ D,(R2 != 0) = D:=⟨_,rfl⟩
 rw [hD] at C2 ⊢
 have HW:=hide hw
 have gl:=hw.lt
 clear hw hb HF
 unfold msV at C2 ⊢
 go_enter Tryz.func27,Tryz.ntmps27
 go_wp2_with fail
 refine (uh C1 _ (al2p _ _ _)).mono ?_
 rintro e w1 ⟨v1,L,rfl,hL,hO⟩
 obtain ⟨q',d',rfl,hm⟩:=ownL_ms (g:=g) (uh hO) (by simp; omega) (uh HS L (uh hL))
 have HFr:Hid (FrM w.heap.size q' L):=hide (fun r hr => by
  obtain ⟨q2,d2,e2,h2⟩:=ownL_ms (g:=r) (uh hO) (by simp; omega) (uh HS L (uh hL))
  simp only [Value.slice.injEq] at e2
  obtain ⟨rfl,_,rfl⟩:=e2
  exact ⟨h2.2.1,h2.2.2.1⟩)
 have HMr:Hid (MsIn (w.heap.size + 1) w1 q' d' L):=hide (by
  obtain ⟨q2,d2,e2,h2⟩:=ownL_ms (g:=w.heap.size + 1) (uh hO) (by simp) (uh HS L (uh hL))
  simp only [Value.slice.injEq] at e2
  obtain ⟨rfl,_,rfl⟩:=e2
  exact h2)
 have B1:=hide (bl_tr (al2p w _ _) (uh hO).1.2)
 have HM:=hide hm
 have X1:=hide (Box.below (Box.alloc (Box.new w #[.slice q n d,.pointer (some ⟨g,0,none⟩)] 58) _) (uh hO).1.2)
 have Y1:=hide (Box.below (Box.new (w.alloc (Obj.cells #[.slice q n d,.pointer (some ⟨g,0,none⟩)] 58)) #[.slice none 0 0,.pointer none] 58) (uh hO).1.2)
 simp only [alloc_size6] at Y1
 have x1:=(uh X1).cell
 have y1:=(uh Y1).cell
 have z1:=(uh Y1).frozen
 clear hO hm C1
 go_wp2_with fail
 try rw [hD]
 refine (uh C2 _ ((uh HW).below (uh B1))).mono ?_
 rintro e w2 ⟨rfl,hr⟩
 have R1':=hide ((RE.below (uh B1) (uh HW)).trans hr)
 rw [no_f3] at R1'
 have HM2:=hide ((uh HM).stay hr.1)
 have x2:∀ j,w2.cell? ⟨w.heap.size,j,none⟩ = (#[.slice q n d,.pointer (some ⟨g,0,none⟩)]:Array Value)[j]?:=fun j => (World.cell?_of_block (w:=w1) (hr.1.block (by simp only; omega) (uh X1).lt)).trans ((uh X1).cell j)
 have Y2:Hid (Box w2 (w.heap.size + 1) #[.slice none 0 0,.pointer none] 58):=hide ((hr.1.block (by omega) (uh Y1).lt).trans (uh Y1))
 have y2:=(uh Y2).cell
 have z2:=(uh Y2).frozen
 clear hr y1 z1
 go_wp2_with fail
 have Y3:=hide ((uh Y2).set2 (.slice q' L.length d') (.pointer (some ⟨g,0,none⟩)))
 refine bodyPost_ret ?_ rfl ⟨q',d',L,rfl,hide ⟨uh hL,((((uh HM2).sw (uh HMr)).stay ((Stay.set _ _ _ _).trans (Stay.set _ _ _ _))).sw (uh HM)),((uh R1').setNew (by omega) (by omega) _ _).setNew (by omega) (by omega) _ _,uh HFr⟩⟩
 simp [results,Tryz.results27,go_sem,(uh Y3).cell]
theorem ownD_off {B g:Nat} {w:World} {a:FA} (h:OwnD B w a) (hg:g < B):Off g a.q a.d.length:=fun b o e hp => by
 rcases h.2 with ⟨hv2,h0⟩ | ⟨k,cap,cur,hv2,hb,_⟩
 ·simp only [Value.slice.injEq] at hv2
  rw [hv2.1] at e; cases e
 ·simp only [Value.slice.injEq] at hv2
  rw [hv2.1] at e
  simp only [Option.some.injEq,Addr.mk.injEq] at e
  omega
theorem FaIn.stay {g:Nat} {w w':World} {a:FA} (h:FaIn w a) (ho:Off g a.q a.d.length) (s:Stay g w w'):FaIn w' a:=⟨h.1,h.2.1,h.2.2.1,h.2.2.2.stay7 ho s⟩
theorem Stay.box {g k:Nat} {w w':World} {cs:Array Value} {t:TypeId} (s:Stay g w w') (h:Box w k cs t) (hk:k ≠ g):Box w' k cs t:=(s.block hk h.lt).trans h
theorem clastm_any (g:Nat) (q:Option Addr) (d:Nat) (L:List FA) (num wire:Int) (w:World) (hw:WstE g w) (h:MsIn g w q d L) :
  Calls Tryz.prog 111 #[msV q L.length d g,.int .i64 num,.int .i64 wire] w fun e w' => ∃ a,e = .returned (.tuple #[faV a,.bool (lastV (L.map FA.f) num wire).2.1]) ∧ Hid (a.f = (lastV (L.map FA.f) num wire).1 ∧ FaIn w' a ∧ (∀ r,r < w.heap.size → Off r a.q a.d.length) ∧ RE g (bad3 ((lastV (L.map FA.f) num wire).2.2 != 0)) w w'):=by
 obtain ⟨s1,s2,s3⟩:=h.small
 have C1:=hide (fun v (hv:Below w.heap.size w v) => clast_any q d L num wire v (h.1.below hv) (by omega) (fun a ha => by have:=s3 a ha; omega))
 generalize lastV (L.map FA.f) num wire = R at C1 ⊢
 obtain ⟨R1,R2,R3⟩:=R
 simp only at C1 ⊢
 have C2:=hide (fun v (hv:WstE g v) => cnote_bad g q L.length d (R3 != 0) v hv)
 obtain ⟨D,hD⟩:∃ D,(R3 != 0) = D:=⟨_,rfl⟩
 rw [hD] at C2 ⊢
 have HW:=hide hw
 have gl:=hw.lt
 clear hw h s3
 unfold msV at C2 ⊢
 go_enter Tryz.func111,Tryz.ntmps111
 go_wp2_with fail
 refine (uh C1 _ (al2p _ _ _)).mono ?_
 rintro e w1 ⟨a,rfl,hq⟩
 obtain ⟨h1,h2,h3,h4⟩:=uh hq
 have H1:=hide h1
 have H2:=hide h2
 have H3:=hide (fun r (hr:r < w.heap.size) => ownD_off (g:=r) h3 (by simp; omega))
 have H4:=hide (ownD_off (g:=w.heap.size + 1) h3 (by simp))
 have B1:=hide (fun o => bl_tr (bl_tr (al2p w _ _) h4) (al1p w1 o))
 have X1:=hide (Box.below (Box.alloc (Box.new w #[.slice q L.length d,.pointer (some ⟨g,0,none⟩)] 58) _) h4)
 have Y1:=hide (Box.below (Box.new (w.alloc (Obj.cells #[.slice q L.length d,.pointer (some ⟨g,0,none⟩)] 58)) #[.int .i64 0,.int .i64 0,.int .u64 0,.slice none 0 0] 148) h4)
 simp only [alloc_size6] at Y1
 have l1:=(uh Y1).lt
 have x1:=fun o => ((uh X1).alloc o).cell
 clear hq h1 h2 h3 h4 C1
 obtain ⟨an,awr,ax,ad,aq,ac⟩:=a
 unfold faV
 simp only
 go_wp2_with fail
 try rw [hD]
 refine (uh C2 _ ((uh HW).below (uh B1 _))).mono ?_
 rintro e w2 ⟨rfl,hr⟩
 have R1':=hide ((RE.below (uh B1 _) (uh HW)).trans hr)
 rw [no_f3] at R1'
 have Y2:=hide (hr.1.box ((uh Y1).alloc _) (by omega))
 have y2:=(uh Y2).cell
 have z2:=(uh Y2).frozen
 have F2:=hide (hr.1.box (Box.new w1 #[.int .i64 an,.int .i64 awr,.int .u64 ax,.slice aq ad.length ac] 148) (by omega))
 have f2:=(uh F2).cell
 have H5:=hide (((uh H2).below (al1p w1 _)).stay (uh H3 g gl) hr.1)
 clear hr
 go_wp2_with fail
 have Y3:=hide ((uh Y2).set4 (.int .i64 an) (.int .i64 awr) (.int .u64 ax) (.slice aq ad.length ac))
 refine bodyPost_ret ?_ rfl ⟨⟨an,awr,ax,ad,aq,ac⟩,rfl,hide ⟨uh H1,(uh H5).stay (uh H4) ((((Stay.set _ _ _ _).trans (Stay.set _ _ _ _)).trans (Stay.set _ _ _ _)).trans (Stay.set _ _ _ _)),uh H3,((((uh R1').setNew (by omega) (by omega) _ _).setNew (by omega) (by omega) _ _).setNew (by omega) (by omega) _ _).setNew (by omega) (by omega) _ _⟩⟩
 simp [results,Tryz.results111,go_sem,(uh Y3).cell,faV]
theorem cnum_any (g:Nat) (q:Option Addr) (d:Nat) (L:List FA) (num:Int) (w:World) (hw:WstE g w) (h:MsIn g w q d L) :
  Calls Tryz.prog 57 #[msV q L.length d g,.int .i64 num] w fun e w' => e = .returned (.int .i64 (wholeP (L.map FA.f) num).1) ∧ RE g ((wholeP (L.map FA.f) num).2) w w':=by
 have C1:=hide (fun v (hv:Below w.heap.size w v) => clastm_any g q d L num 0 v (hw.below hv) (h.stay (Stay.below hv (Nat.le_of_lt hw.lt))))
 rw [show (wholeP (L.map FA.f) num).2 = bad3 ((lastV (L.map FA.f) num 0).2.2 != 0) from rfl]
 unfold wholeP i64w
 generalize lastV (L.map FA.f) num 0 = R at C1 ⊢
 obtain ⟨R1,R2,R3⟩:=R
 simp only at C1 ⊢
 generalize (R3 != 0) = D at C1 ⊢
 have HW:=hide hw
 clear hw h
 unfold msV at C1 ⊢
 go_enter Tryz.func57,Tryz.ntmps57
 go_wp2_with fail
 refine (uh C1 _ (al1p _ _)).mono ?_
 rintro e w1 ⟨a,rfl,hq⟩
 obtain ⟨h1,h2,h3,h4⟩:=uh hq
 have r1:=(RE.below (al1p w _) (uh HW)).trans h4
 rw [no_f3] at r1
 have R1':=hide (fun o => r1.trans (RE.below (al1p w1 o) (r1.wst (uh HW))))
 subst h1
 have H2:=hide h2
 clear hq h4 C1 r1
 obtain ⟨an,awr,ax,ad,aq,ac⟩:=a
 unfold faV
 simp only
 go_wp2_with fail
 go_ret
 exact ⟨by first | rfl | (show _ = Ending.returned (.int .i64 (IntKind.i64.wrap ax)); rw [IntKind.wrap_i64]; rfl) | (show _ = Ending.returned (.int .i64 (IntKind.i64.wrap ax)); simp [wrap64,IntKind.wrap_i64]),RE.eq (uh R1' _) (by rw [f3_no])⟩
theorem cflt_any (g:Nat) (q:Option Addr) (d:Nat) (L:List FA) (num:Int) (w:World) (hw:WstE g w) (h:MsIn g w q d L) :
  Calls Tryz.prog 228 #[msV q L.length d g,.int .i64 num] w fun e w' => e = .returned (.int .u32 ((lastF (L.map FA.f) num 5).1.2.2.1 % 4294967296)) ∧ RE g ((lastF (L.map FA.f) num 5).2) w w':=by
 have C1:=hide (fun v (hv:Below w.heap.size w v) => clastm_any g q d L num 5 v (hw.below hv) (h.stay (Stay.below hv (Nat.le_of_lt hw.lt))))
 rw [show (lastF (L.map FA.f) num 5).2 = bad3 ((lastV (L.map FA.f) num 5).2.2 != 0) from rfl]
 unfold lastF
 generalize lastV (L.map FA.f) num 5 = R at C1 ⊢
 obtain ⟨R1,R2,R3⟩:=R
 simp only at C1 ⊢
 generalize (R3 != 0) = D at C1 ⊢
 have HW:=hide hw
 clear hw h
 unfold msV at C1 ⊢
 go_enter Tryz.func228,Tryz.ntmps228
 go_wp2_with fail
 refine (uh C1 _ (al1p _ _)).mono ?_
 rintro e w1 ⟨a,rfl,hq⟩
 obtain ⟨h1,h2,h3,h4⟩:=uh hq
 have r1:=(RE.below (al1p w _) (uh HW)).trans h4
 rw [no_f3] at r1
 have R1':=hide (fun o => r1.trans (RE.below (al1p w1 o) (r1.wst (uh HW))))
 subst h1
 have H2:=hide h2
 clear hq h4 C1 r1
 obtain ⟨an,awr,ax,ad,aq,ac⟩:=a
 unfold faV
 simp only
 go_wp2_with fail
 go_ret
 exact ⟨rfl,RE.eq (uh R1' _) (by rw [f3_no])⟩
theorem ctxt_any (g:Nat) (q:Option Addr) (d:Nat) (L:List FA) (num:Int) (w:World) (hw:WstE g w) (h:MsIn g w q d L) :
  Calls Tryz.prog 115 #[msV q L.length d g,.int .i64 num] w fun e w' => e = .returned (strV (textP (L.map FA.f) num).1) ∧ RE g ((textP (L.map FA.f) num).2) w w':=by
 have C1:=hide (fun v (hv:Below w.heap.size w v) => clastm_any g q d L num 2 v (hw.below hv) (h.stay (Stay.below hv (Nat.le_of_lt hw.lt))))
 rw [show (textP (L.map FA.f) num).2 = bad3 ((lastV (L.map FA.f) num 2).2.2 != 0) from rfl]
 unfold textP strV
 generalize lastV (L.map FA.f) num 2 = R at C1 ⊢
 obtain ⟨R1,R2,R3⟩:=R
 simp only at C1 ⊢
 generalize (R3 != 0) = D at C1 ⊢
 have HW:=hide hw
 clear hw h
 unfold msV at C1 ⊢
 go_enter Tryz.func115,Tryz.ntmps115
 go_wp2_with fail
 refine (uh C1 _ (al1p _ _)).mono ?_
 rintro e w1 ⟨a,rfl,hq⟩
 obtain ⟨h1,h2,h3,h4⟩:=uh hq
 have r1:=(RE.below (al1p w _) (uh HW)).trans h4
 rw [no_f3] at r1
 have R1':=hide (fun o => r1.trans (RE.below (al1p w1 o) (r1.wst (uh HW))))
 subst h1
 have H2:=hide h2
 clear hq h4 C1 r1
 obtain ⟨an,awr,ax,ad,aq,ac⟩:=a
 unfold faV
 simp only
 have kc:=fun o => conv_str (dst:=9) Tryz.underlying22 Tryz.underlying5 Tryz.underlying9 (((uh H2).below (al1p w1 o)).2.2.2.ls)
 simp only at kc
 go_wp2_with fail
 go_ret
 exact ⟨rfl,RE.eq (uh R1' _) (by rw [f3_no])⟩
end Go.Proofs.YtaikppgoahdjbaaGreat
