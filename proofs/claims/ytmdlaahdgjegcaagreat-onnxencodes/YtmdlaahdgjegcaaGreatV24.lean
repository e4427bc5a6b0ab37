import Derived.Laws.BytesArg
import Derived.Lib.SlBytesConst
import Derived.Laws.BytesString
import Derived.Test.YtmdlaahdgjegcaaGreatV05
import Derived.Test.YtmdlaahdgjegcaaGreatV07
import Derived.Test.YtmdlaahdgjegcaaGreatV10
import Derived.Test.YtmdlaahdgjegcaaGreatV11
import Derived.Test.YtmdlaahdgjegcaaGreatV14
import Derived.Test.YtmdlaahdgjegcaaGreatV15
import Derived.Test.YtmdlaahdgjegcaaGreatV18
import Derived.Test.YtmdlaahdgjegcaaGreatV19
import Derived.Test.YtmdlaahdgjegcaaGreatV23
set_option maxRecDepth 100000
set_option maxHeartbeats 8000000
namespace Go.Proofs.YtmdlaahdgjegcaaGreat
open Go.RowKit
set_option linter.unusedVariables false
theorem box_ints {u:World} {k:Nat} {cs:Array Value} {t:TypeId} (h:Box u k cs t) (xs:List Int) (hc:cs = (xs.map (Value.int .u8)).toArray) (hx:∀ x ∈ xs,(Lit.int .u8 x).wf = true) (hn:xs.length ≤ 1000):Ints .u8 u (some ⟨k,0,none⟩) xs.length xs:=by
 refine ⟨Nat.le_refl _,by omega,hx,fun _ => ⟨k,0,rfl,h.lt,fun i hi => ?_⟩,fun h => by cases h⟩
 rw [h.cell,hc,Nat.zero_add]
 simp [List.getElem?_eq_getElem hi]
theorem readV_err (b:List Int) (h:¬ (readV b).2 = 0):(readV b).1 = []:=by
 unfold readV at h ⊢
 split
 ·rfl
 ·rename_i h1
  rw [if_neg h1] at h
  cases hl:readL b with
  | none => rfl
  | some l => rw [hl] at h; exact absurd rfl h
theorem readV_code (b:List Int) (h:b.length ≤ 4194304):(readV b).2 = 0 ∨ (readV b).2 = 6:=by
 unfold readV
 rw [if_neg (by omega)]
 cases readL b with
 | none => exact .inr rfl
 | some l => exact .inl rfl
theorem map_nil_of {L:List FA} (h:L.map FA.f = []):L = []:=by
 cases L with
 | nil => rfl
 | cons a r => cases h
theorem msg_sum:∀ {L:List FA},(∀ f ∈ L.map FA.f,mayF f) → sumD L + L.length ≤ (msgB (L.map FA.f)).length
 | [],_ => by simp [sumD]
 | a :: r,h => by
   have ih:=msg_sum (L:=r) (fun f hf => h f (by simp only [List.map_cons,List.mem_cons]; exact .inr hf))
   have e:msgB ((a :: r).map FA.f) = fieldB a.f ++ msgB (r.map FA.f):=by simp [msgB]
   have e2:sumD (a :: r) = a.d.length + sumD r:=by simp [sumD]
   have h1:=headB_data (h a.f (by simp))
   have h2:1 ≤ (headB a.f).length:=by
    unfold headB
    have:=(varV_len (a.f.1 * 8 + a.f.2.1)).1
    rw [List.length_append]; omega
   rw [e,e2,List.length_append,h1,List.length_append,List.length_cons]
   have:a.f.2.2.2.length = a.d.length:=rfl
   omega
theorem read_sum {b:List Int} {L:List FA} (hb:isB b) (hs:b.length ≤ 4194304) (h:L.map FA.f = (readV b).1):sumD L + L.length ≤ 4194304:=by
 by_cases h0:(readV b).2 = 0
 ·unfold readV at h h0
  rw [if_neg (by omega)] at h h0
  cases hl:readL b with
  | none => rw [hl] at h0; cases h0
  | some l =>
    rw [hl] at h
    simp only at h
    obtain ⟨m1,m2⟩:=readF_may _ b l hb hl
    have:=msg_sum (L:=L) (fun f hf => by rw [h] at hf; exact (m1 f hf).1)
    rw [h] at this
    omega
 ·rw [readV_err b h0] at h
  rw [map_nil_of h]
  simp [sumD]
theorem fold_push:∀ (l:List Int) (s:ByteArray),l.foldl (fun r n => r.push (UInt8.ofNat n.toNat)) s = ⟨s.data ++ (l.map fun n => UInt8.ofNat n.toNat).toArray⟩
 | [],s => by simp
 | x :: r,s => by
   rw [List.foldl_cons,fold_push r]
   congr 1
   apply Array.toList_inj.1
   simp [ByteArray.push]
theorem conv_str {src dst e:TypeId} {w:World} {p:Option Addr} {c:Nat} {l:List Int} (hs:Tryz.prog.underlying src = some (.slice e)) (he:Tryz.prog.underlying e = some (.int .u8)) (hd:Tryz.prog.underlying dst = some .string) (h:Ls (Value.int .u8) w p c l) :
  (convert src dst (.slice p l.length c)).run Tryz.prog w = .ok (.string (strOfNums l)) w:=by
 rw [run_convert_bytes_string w src dst e p l.length c hs he hd]
 cases p with
 | none =>
   have hx0:l = []:=by
    rcases Nat.eq_zero_or_pos l.length with g | g
    ·exact List.eq_nil_of_length_eq_zero g
    ·obtain ⟨b,o,e,_⟩:=h.lies g; cases e
   subst hx0
   simp [Conv.bytesToString]
   rfl
 | some ad =>
   rw [run_bytesToString w ad l.length c l (by
    have h1:=run_loadCells_list (P:=Tryz.prog) (w:=w) ad (l.map (Value.int .u8)) (ls_cells h)
    simpa using h1),fold_push]
   simp [strOfNums,ByteArray.empty,ByteArray.emptyWithCapacity]
   rfl
theorem bad3_if (b:Bool) (k:Int) (hk:0 ≤ k):max k (lev (bad3 b)) = if b = true then max k 3 else k:=by cases b <;> simp [bad3,lev]; omega
theorem odd3_if (b:Bool) (k:Int) (hk:0 ≤ k):max k (lev (odd3 b)) = if b = true then max k 2 else k:=by cases b <;> simp [odd3,lev]; omega
theorem big3_if (b:Bool) (k:Int) (hk:0 ≤ k):max k (lev (big3 b)) = if b = true then max k 1 else k:=by cases b <;> simp [big3,lev]; omega
def NEnd (g:Nat) (f:F3) (w:World) (e:Ending) (w':World):Prop:=e = .returned (.tuple #[]) ∧ RE g f w w'
theorem cnote_bad (g:Nat) (q:Option Addr) (n d:Nat) (is:Bool) (w:World) (hw:WstE g w) :
  Calls Tryz.prog 58 #[msV q n d g,.bool is,.int .i64 3] w fun e w' => NEnd g (bad3 is) w e w' :=
 (cnote_any g q n d is 3 w hw).mono fun e w' h => ⟨h.1,h.2.1,fun j hj hb => by rw [bad3_if is j hj]; exact h.2.2 j hb⟩
theorem cnote_odd (g:Nat) (q:Option Addr) (n d:Nat) (is:Bool) (w:World) (hw:WstE g w) :
  Calls Tryz.prog 58 #[msV q n d g,.bool is,.int .i64 2] w fun e w' => NEnd g (odd3 is) w e w' :=
 (cnote_any g q n d is 2 w hw).mono fun e w' h => ⟨h.1,h.2.1,fun j hj hb => by rw [odd3_if is j hj]; exact h.2.2 j hb⟩
theorem cnote_big (g:Nat) (q:Option Addr) (n d:Nat) (is:Bool) (w:World) (hw:WstE g w) :
  Calls Tryz.prog 58 #[msV q n d g,.bool is,.int .i64 1] w fun e w' => NEnd g (big3 is) w e w' :=
 (cnote_any g q n d is 1 w hw).mono fun e w' h => ⟨h.1,h.2.1,fun j hj hb => by rw [big3_if is j hj]; exact h.2.2 j hb⟩
theorem climit_any (g:Nat) (q:Option Addr) (n d:Nat) (size most:Int) (w:World) (hw:WstE g w) :
  Calls Tryz.prog 124 #[msV q n d g,.int .i64 size,.int .i64 most] w fun e w' => NEnd g (big3 (decide (most < size))) w e w':=by
 have C1:=hide (fun v (hv:WstE g v) => cnote_big g q n d (decide (most < size)) v hv)
 have HW:=hide hw
 clear hw
 generalize hD:decide (most < size) = D at C1 ⊢
 unfold msV at C1 ⊢
 go_enter Tryz.func124,Tryz.ntmps124
 go_wp2_with fail
 try rw [hD]
 refine (uh C1 _ ((uh HW).below (al1p _ _))).mono ?_
 rintro e v ⟨rfl,hv⟩
 have H1:=hide ((RE.below (al1p _ _) (uh HW)).trans hv)
 clear hv
 rw [no_f3] at H1
 go_wp2_with fail
 go_end0
 exact ⟨rfl,uh H1⟩
theorem MsIn.sw {g r:Nat} {w w0:World} {q:Option Addr} {d:Nat} {L:List FA} (h:MsIn g w q d L) (hr:MsIn r w0 q d L):MsIn r w q d L:=⟨h.1,hr.2.1,hr.2.2.1,h.2.2.2⟩
theorem Stay.set (r:Nat) (w:World) (j:Nat) (u:Value):Stay r w (w.setCell ⟨r,j,none⟩ u):=⟨(Below.refl r w).setCell (p:=⟨r,j,none⟩) (Nat.le_refl r) u,fun k hk _ => Below.heap_setCell _ _ _ _ (by simp only; omega)⟩
theorem RE.setNew {g r:Nat} {f:F3} {w w':World} (h:RE g f w w') (hr:w.heap.size ≤ r) (hg:g < w.heap.size) (j:Nat) (u:Value):RE g f w (w'.setCell ⟨r,j,none⟩ u) :=
 ⟨⟨h.1.1.setCell (p:=⟨r,j,none⟩) (by simp only; omega) u,fun k h1 h2 => (Below.heap_setCell _ _ _ _ (by simp only; omega)).trans (h.1.2 k h1 h2)⟩,fun k hk hb => Box.other (h.2 k hk hb) (by omega) j u⟩
def FrM (B:Nat) (q:Option Addr) (L:List FA):Prop:=∀ r,r < B → Off r q L.length ∧ ∀ a ∈ L,Off r a.q a.d.length
theorem ownL_ms {g:Nat} {w w':World} {v:Value} {L:List FA} (h:OwnL w w' v L) (hg:g < w.heap.size) (hs:sumD L + L.length ≤ 4194304):∃ q d,v = .slice q L.length d ∧ MsIn g w' q d L:=by
 obtain ⟨q,d,hv,hc,hf⟩:=h.1.form
 refine ⟨q,d,hv,⟨hc,fun a ha => (h.2 a ha).1⟩,fun b o e hp => ?_,fun a ha b o e hp => ?_,hs⟩
 ·have:=(hf b o e (by omega)).1; omega
 ·rcases (h.2 a ha).2.2 with ⟨hv2,h0⟩ | ⟨k,cap,cur,hv2,hb,_⟩
  ·simp only [Value.slice.injEq] at hv2
   rw [hv2.1] at e; cases e
  ·simp only [Value.slice.injEq] at hv2
   rw [hv2.1] at e
   simp only [Option.some.injEq,Addr.mk.injEq] at e
   omega
theorem copened_any (g:Nat) (q:Option Addr) (n d:Nat) (p:Option Addr) (c:Nat) (b:List Int) (w:World) (hw:WstE g w) (hb:Ints .u8 w p c b) (hl:b.length ≤ 4194304) :
  Calls Tryz.prog 27 #[msV q n d g,.slice p b.length c] w fun e w' => ∃ q' d' L,e = .returned (msV q' L.length d' g) ∧ Hid (L.map FA.f = (fieldsP b).1 ∧ MsIn g w' q' d' L ∧ RE g (fieldsP b).2 w w' ∧ FrM w.heap.size q' L):=by
 have C1:=hide (fun v (hv:Below w.heap.size w v) => cread_any p c b v (hb.below hv))
 have HS:=hide (fun L => read_sum (L:=L) (wf_isB hb.2.2.1) hl)
 have HF:Hid (fieldsP b = ((readV b).1,bad3 ((readV b).2 != 0))):=hide rfl
 generalize readV b = R at C1 HS HF
 obtain ⟨R1,R2⟩:=R
 simp only at C1 HS HF
 rw [uh HF]
 have C2:=hide (fun v (hv:WstE g v) => cnote_bad g q n d (R2 != 0) v hv)
 obtain ⟨D,hD⟩:∃ D,(R2 != 0) = D:=⟨_,rfl⟩
 rw [hD] at C2 ⊢
 have HW:=hide hw
 have gl:=hw.lt
 clear hw hb HF
 unfold msV at C2 ⊢
 go_enter Tryz.func27,Tryz.ntmps27
 go_wp2_with fail
 refine (uh C1 _ (al2p _ _ _)).mono ?_
 rintro e w1 ⟨v1,L,rfl,hL,hO⟩
 obtain ⟨q',d',rfl,hm⟩:=ownL_ms (g:=g) (uh hO) (by simp; omega) (uh HS L (uh hL))
 have HFr:Hid (FrM w.heap.size q' L):=hide (fun r hr => by
  obtain ⟨q2,d2,e2,h2⟩:=ownL_ms (g:=r) (uh hO) (by simp; omega) (uh HS L (uh hL))
  simp only [Value.slice.injEq] at e2
  obtain ⟨rfl,_,rfl⟩:=e2
  exact ⟨h2.2.1,h2.2.2.1⟩)
 have HMr:Hid (MsIn (w.heap.size + 1) w1 q' d' L):=hide (by
  obtain ⟨q2,d2,e2,h2⟩:=ownL_ms (g:=w.heap.size + 1) (uh hO) (by simp) (uh HS L (uh hL))
  simp only [Value.slice.injEq] at e2
  obtain ⟨rfl,_,rfl⟩:=e2
  exact h2)
 have B1:=hide (bl_tr (al2p w _ _) (uh hO).1.2)
 have HM:=hide hm
 have X1:=hide (Box.below (Box.alloc (Box.new w #[.slice q n d,.pointer (some ⟨g,0,none⟩)] 58) _) (uh hO).1.2)
 have Y1:=hide (Box.below (Box.new (w.alloc (Obj.cells #[.slice q n d,.pointer (some ⟨g,0,none⟩)] 58)) #[.slice none 0 0,.pointer none] 58) (uh hO).1.2)
 simp only [alloc_size6] at Y1
 have x1:=(uh X1).cell
 have y1:=(uh Y1).cell
 have z1:=(uh Y1).frozen
 clear hO hm C1
 go_wp2_with fail
 try rw [hD]
 refine (uh C2 _ ((uh HW).below (uh B1))).mono ?_
 rintro e w2 ⟨rfl,hr⟩
 have R1':=hide ((RE.below (uh B1) (uh HW)).trans hr)
 rw [no_f3] at R1'
 have HM2:=hide ((uh HM).stay hr.1)
 have x2:∀ j,w2.cell? ⟨w.heap.size,j,none⟩ = (#[.slice q n d,.pointer (some ⟨g,0,none⟩)]:Array Value)[j]?:=fun j => (World.cell?_of_block (w:=w1) (hr.1.block (by simp only; omega) (uh X1).lt)).trans ((uh X1).cell j)
 have Y2:Hid (Box w2 (w.heap.size + 1) #[.slice none 0 0,.pointer none] 58):=hide ((hr.1.block (by omega) (uh Y1).lt).trans (uh Y1))
 have y2:=(uh Y2).cell
 have z2:=(uh Y2).frozen
 clear hr y1 z1
 go_wp2_with fail
 have Y3:=hide ((uh Y2).set2 (.slice q' L.length d') (.pointer (some ⟨g,0,none⟩)))
 refine bodyPost_ret ?_ rfl ⟨q',d',L,rfl,hide ⟨uh hL,((((uh HM2).sw (uh HMr)).stay ((Stay.set _ _ _ _).trans (Stay.set _ _ _ _))).sw (uh HM)),((uh R1').setNew (by omega) (by omega) _ _).setNew (by omega) (by omega) _ _,uh HFr⟩⟩
 simp [results,Tryz.results27,go_sem,(uh Y3).cell]
theorem ownD_off {B g:Nat} {w:World} {a:FA} (h:OwnD B w a) (hg:g < B):Off g a.q a.d.length:=fun b o e hp => by
 rcases h.2 with ⟨hv2,h0⟩ | ⟨k,cap,cur,hv2,hb,_⟩
 ·simp only [Value.slice.injEq] at hv2
  rw [hv2.1] at e; cases e
 ·simp only [Value.slice.injEq] at hv2
  rw [hv2.1] at e
  simp only [Option.some.injEq,Addr.mk.injEq] at e
  omega
theorem FaIn.stay {g:Nat} {w w':World} {a:FA} (h:FaIn w a) (ho:Off g a.q a.d.length) (s:Stay g w w'):FaIn w' a:=⟨h.1,h.2.1,h.2.2.1,h.2.2.2.stay7 ho s⟩
theorem Stay.box {g k:Nat} {w w':World} {cs:Array Value} {t:TypeId} (s:Stay g w w') (h:Box w k cs t) (hk:k ≠ g):Box w' k cs t:=(s.block hk h.lt).trans h
theorem clastm_any (g:Nat) (q:Option Addr) (d:Nat) (L:List FA) (num wire:Int) (w:World) (hw:WstE g w) (h:MsIn g w q d L) :
  Calls Tryz.prog 111 #[msV q L.length d g,.int .i64 num,.int .i64 wire] w fun e w' => ∃ a,e = .returned (.tuple #[faV a,.bool (lastV (L.map FA.f) num wire).2.1]) ∧ Hid (a.f = (lastV (L.map FA.f) num wire).1 ∧ FaIn w' a ∧ (∀ r,r < w.heap.size → Off r a.q a.d.length) ∧ RE g (bad3 ((lastV (L.map FA.f) num wire).2.2 != 0)) w w'):=by
 obtain ⟨s1,s2,s3⟩:=h.small
 have C1:=hide (fun v (hv:Below w.heap.size w v) => clast_any q d L num wire v (h.1.below hv) (by omega) (fun a ha => by have:=s3 a ha; omega))
 generalize lastV (L.map FA.f) num wire = R at C1 ⊢
 obtain ⟨R1,R2,R3⟩:=R
 simp only at C1 ⊢
 have C2:=hide (fun v (hv:WstE g v) => cnote_bad g q L.length d (R3 != 0) v hv)
 obtain ⟨D,hD⟩:∃ D,(R3 != 0) = D:=⟨_,rfl⟩
 rw [hD] at C2 ⊢
 have HW:=hide hw
 have gl:=hw.lt
 clear hw h s3
 unfold msV at C2 ⊢
 go_enter Tryz.func111,Tryz.ntmps111
 go_wp2_with fail
 refine (uh C1 _ (al2p _ _ _)).mono ?_
 rintro e w1 ⟨a,rfl,hq⟩
 obtain ⟨h1,h2,h3,h4⟩:=uh hq
 have H1:=hide h1
 have H2:=hide h2
 have H3:=hide (fun r (hr:r < w.heap.size) => ownD_off (g:=r) h3 (by simp; omega))
 have H4:=hide (ownD_off (g:=w.heap.size + 1) h3 (by simp))
 have B1:=hide (fun o => bl_tr (bl_tr (al2p w _ _) h4) (al1p w1 o))
 have X1:=hide (Box.below (Box.alloc (Box.new w #[.slice q L.length d,.pointer (some ⟨g,0,none⟩)] 58) _) h4)
 have Y1:=hide (Box.below (Box.new (w.alloc (Obj.cells #[.slice q L.length d,.pointer (some ⟨g,0,none⟩)] 58)) #[.int .i64 0,.int .i64 0,.int .u64 0,.slice none 0 0] 148) h4)
 simp only [alloc_size6] at Y1
 have l1:=(uh Y1).lt
 have x1:=fun o => ((uh X1).alloc o).cell
 clear hq h1 h2 h3 h4 C1
 obtain ⟨an,awr,ax,ad,aq,ac⟩:=a
 unfold faV
 simp only
 go_wp2_with fail
 try rw [hD]
 refine (uh C2 _ ((uh HW).below (uh B1 _))).mono ?_
 rintro e w2 ⟨rfl,hr⟩
 have R1':=hide ((RE.below (uh B1 _) (uh HW)).trans hr)
 rw [no_f3] at R1'
 have Y2:=hide (hr.1.box ((uh Y1).alloc _) (by omega))
 have y2:=(uh Y2).cell
 have z2:=(uh Y2).frozen
 have F2:=hide (hr.1.box (Box.new w1 #[.int .i64 an,.int .i64 awr,.int .u64 ax,.slice aq ad.length ac] 148) (by omega))
 have f2:=(uh F2).cell
 have H5:=hide (((uh H2).below (al1p w1 _)).stay (uh H3 g gl) hr.1)
 clear hr
 go_wp2_with fail
 have Y3:=hide ((uh Y2).set4 (.int .i64 an) (.int .i64 awr) (.int .u64 ax) (.slice aq ad.length ac))
 refine bodyPost_ret ?_ rfl ⟨⟨an,awr,ax,ad,aq,ac⟩,rfl,hide ⟨uh H1,(uh H5).stay (uh H4) ((((Stay.set _ _ _ _).trans (Stay.set _ _ _ _)).trans (Stay.set _ _ _ _)).trans (Stay.set _ _ _ _)),uh H3,((((uh R1').setNew (by omega) (by omega) _ _).setNew (by omega) (by omega) _ _).setNew (by omega) (by omega) _ _).setNew (by omega) (by omega) _ _⟩⟩
 simp [results,Tryz.results111,go_sem,(uh Y3).cell,faV]
theorem cnum_any (g:Nat) (q:Option Addr) (d:Nat) (L:List FA) (num:Int) (w:World) (hw:WstE g w) (h:MsIn g w q d L) :
  Calls Tryz.prog 57 #[msV q L.length d g,.int .i64 num] w fun e w' => e = .returned (.int .i64 (wholeP (L.map FA.f) num).1) ∧ RE g ((wholeP (L.map FA.f) num).2) w w':=by
 have C1:=hide (fun v (hv:Below w.heap.size w v) => clastm_any g q d L num 0 v (hw.below hv) (h.stay (Stay.below hv (Nat.le_of_lt hw.lt))))
 rw [show (wholeP (L.map FA.f) num).2 = bad3 ((lastV (L.map FA.f) num 0).2.2 != 0) from rfl]
 unfold wholeP i64w
 generalize lastV (L.map FA.f) num 0 = R at C1 ⊢
 obtain ⟨R1,R2,R3⟩:=R
 simp only at C1 ⊢
 generalize (R3 != 0) = D at C1 ⊢
 have HW:=hide hw
 clear hw h
 unfold msV at C1 ⊢
 go_enter Tryz.func57,Tryz.ntmps57
 go_wp2_with fail
 refine (uh C1 _ (al1p _ _)).mono ?_
 rintro e w1 ⟨a,rfl,hq⟩
 obtain ⟨h1,h2,h3,h4⟩:=uh hq
 have r1:=(RE.below (al1p w _) (uh HW)).trans h4
 rw [no_f3] at r1
 have R1':=hide (fun o => r1.trans (RE.below (al1p w1 o) (r1.wst (uh HW))))
 subst h1
 have H2:=hide h2
 clear hq h4 C1 r1
 obtain ⟨an,awr,ax,ad,aq,ac⟩:=a
 unfold faV
 simp only
 go_wp2_with fail
 go_ret
 exact ⟨by first | rfl | (show _ = Ending.returned (.int .i64 (IntKind.i64.wrap ax)); rw [IntKind.wrap_i64]; rfl) | (show _ = Ending.returned (.int .i64 (IntKind.i64.wrap ax)); simp [wrap64,IntKind.wrap_i64]),RE.eq (uh R1' _) (by rw [f3_no])⟩
theorem cflt_any (g:Nat) (q:Option Addr) (d:Nat) (L:List FA) (num:Int) (w:World) (hw:WstE g w) (h:MsIn g w q d L) :
  Calls Tryz.prog 228 #[msV q L.length d g,.int .i64 num] w fun e w' => e = .returned (.int .u32 ((lastF (L.map FA.f) num 5).1.2.2.1 % 4294967296)) ∧ RE g ((lastF (L.map FA.f) num 5).2) w w':=by
 have C1:=hide (fun v (hv:Below w.heap.size w v) => clastm_any g q d L num 5 v (hw.below hv) (h.stay (Stay.below hv (Nat.le_of_lt hw.lt))))
 rw [show (lastF (L.map FA.f) num 5).2 = bad3 ((lastV (L.map FA.f) num 5).2.2 != 0) from rfl]
 unfold lastF
 generalize lastV (L.map FA.f) num 5 = R at C1 ⊢
 obtain ⟨R1,R2,R3⟩:=R
 simp only at C1 ⊢
 generalize (R3 != 0) = D at C1 ⊢
 have HW:=hide hw
 clear hw h
 unfold msV at C1 ⊢
 go_enter Tryz.func228,Tryz.ntmps228
 go_wp2_with fail
 refine (uh C1 _ (al1p _ _)).mono ?_
 rintro e w1 ⟨a,rfl,hq⟩
 obtain ⟨h1,h2,h3,h4⟩:=uh hq
 have r1:=(RE.below (al1p w _) (uh HW)).trans h4
 rw [no_f3] at r1
 have R1':=hide (fun o => r1.trans (RE.below (al1p w1 o) (r1.wst (uh HW))))
 subst h1
 have H2:=hide h2
 clear hq h4 C1 r1
 obtain ⟨an,awr,ax,ad,aq,ac⟩:=a
 unfold faV
 simp only
 go_wp2_with fail
 go_ret
 exact ⟨rfl,RE.eq (uh R1' _) (by rw [f3_no])⟩
theorem ctxt_any (g:Nat) (q:Option Addr) (d:Nat) (L:List FA) (num:Int) (w:World) (hw:WstE g w) (h:MsIn g w q d L) :
  Calls Tryz.prog 115 #[msV q L.length d g,.int .i64 num] w fun e w' => e = .returned (strV (textP (L.map FA.f) num).1) ∧ RE g ((textP (L.map FA.f) num).2) w w':=by
 have C1:=hide (fun v (hv:Below w.heap.size w v) => clastm_any g q d L num 2 v (hw.below hv) (h.stay (Stay.below hv (Nat.le_of_lt hw.lt))))
 rw [show (textP (L.map FA.f) num).2 = bad3 ((lastV (L.map FA.f) num 2).2.2 != 0) from rfl]
 unfold textP strV
 generalize lastV (L.map FA.f) num 2 = R at C1 ⊢
 obtain ⟨R1,R2,R3⟩:=R
 simp only at C1 ⊢
 generalize (R3 != 0) = D at C1 ⊢
 have HW:=hide hw
 clear hw h
 unfold msV at C1 ⊢
 go_enter Tryz.func115,Tryz.ntmps115
 go_wp2_with fail
 refine (uh C1 _ (al1p _ _)).mono ?_
 rintro e w1 ⟨a,rfl,hq⟩
 obtain ⟨h1,h2,h3,h4⟩:=uh hq
 have r1:=(RE.below (al1p w _) (uh HW)).trans h4
 rw [no_f3] at r1
 have R1':=hide (fun o => r1.trans (RE.below (al1p w1 o) (r1.wst (uh HW))))
 subst h1
 have H2:=hide h2
 clear hq h4 C1 r1
 obtain ⟨an,awr,ax,ad,aq,ac⟩:=a
 unfold faV
 simp only
 have kc:=fun o => conv_str (dst:=9) Tryz.underlying22 Tryz.underlying5 Tryz.underlying9 (((uh H2).below (al1p w1 o)).2.2.2.ls)
 simp only at kc
 go_wp2_with fail
 go_ret
 exact ⟨rfl,RE.eq (uh R1' _) (by rw [f3_no])⟩
def NoSm (a:NoA):Prop:=a.op ≠ [] ∧ a.op.length ≤ 100000 ∧ a.nm.length ≤ 100000 ∧ (∀ s ∈ a.ins,s.length ≤ 100000) ∧ (∀ s ∈ a.outs,s.length ≤ 100000) ∧ ∀ x ∈ a.at',AtSm x ∧ kindB x.kd = true
theorem cnode_any (g:Nat) (fs0:List Fld) (a:NoA) {B:Nat} (w:World) (hW:WrIn g w fs0) (h:NoIn B w a) (hB:B ≤ g) (hm:NoSm a) :
  Calls Tryz.prog 97 #[.pointer (some ⟨g,0,none⟩),.agg (noCells a).toArray] w fun e w' => WEnd g w (fs0 ++ nodeF a.d) e w':=by
 have kc:=fun (w:World) (b:ByteArray) => Go.Lib.run_convert_string_bytes (P:=Tryz.prog) w 9 22 5 b Tryz.underlying9 Tryz.underlying22 Tryz.underlying5
 have HI:=hide (fun v (hv:KeptW g w v) => h.kept nodeTS_in (hv.model hB))
 have HW:=hide hW
 have gl:=hW.lt
 have A1:=hide (fun v (hv:KeptW g w v) => (uh HI v hv).2.2.1.2.1)
 have A2:=hide (fun v (hv:KeptW g w v) => (uh HI v hv).2.2.2.1.2.1)
 have S1:Hid (∀ s ∈ a.ins,isB s ∧ s.length ≤ 100000):=hide (fun s hs => ⟨h.2.2.1.1 s hs,hm.2.2.2.1 s hs⟩)
 have S2:Hid (∀ s ∈ a.outs,isB s ∧ s.length ≤ 100000):=hide (fun s hs => ⟨h.2.2.2.1.1 s hs,hm.2.2.2.2.1 s hs⟩)
 have n1:=h.2.2.1.2.1.len
 have n2:=h.2.2.2.1.2.1.len
 have C3:=hide (fun v fs (hv:WrIn g v fs) => cname_any g fs 3 a.nm v hv h.2.1 (by decide) (by decide) (by have:=hm.2.2.1; omega))
 have C4:=hide (fun v fs (hv:WrIn g v fs) => cname_any g fs 4 a.op v hv h.1 (by decide) (by decide) (by have:=hm.2.1; omega))
 rw [show wordF 4 a.op = [blkF 4 a.op] from by unfold wordF; rw [if_neg hm.1]] at C4
 have C5:=hide (fun v fs (hk:KeptW g w v) (hv:WrIn g v fs) => ceachAttr_any g B fs 5 152 (ent_of Tryz.func152 (by kernel_rfl) rfl) (fun x => attrF x.d) a.qa a.ca a.at' v hv (uh HI v hk).2.2.2.2.2.1 (uh HI v hk).2.2.2.2.2.2 hB (by decide) (by decide) (fun u gi hu hgg hwi x hx => by
  have hx2:=cattr_any gi [] x u hwi ((((uh HI v hk).2.2.2.2.1 x hx).kept tenTS_in (hu.model hB))) (B:=B) (Nat.le_trans hB hgg) (hm.2.2.2.2.2 x hx).1 (hm.2.2.2.2.2 x hx).2
  rw [List.nil_append] at hx2
  exact hx2))
 have HV:Hid (fs0 ++ nodeF a.d = fs0 ++ a.ins.map (blkF 1) ++ a.outs.map (blkF 2) ++ wordF 3 a.nm ++ [blkF 4 a.op] ++ a.at'.map fun x => blkF 5 (msgB (attrF x.d))):=hide (by unfold nodeF NoA.d; simp only [List.append_assoc,List.map_map]; rfl)
 rw [uh HV]
 clear HV hW h hm HI
 obtain ⟨op,nm,ins,qi,ci,outs,qo,co,at',qa,ca⟩:=a
 simp only at A1 A2 S1 S2 n1 n2 C3 C4 C5 ⊢
 generalize wordF 3 nm = F3' at C3 ⊢
 generalize blkF 4 op = F4 at C4 ⊢
 obtain ⟨F5,hF5⟩:∃ F,(at'.map fun x => blkF 5 (msgB (attrF x.d))) = F:=⟨_,rfl⟩
 rw [hF5] at C5 ⊢
 unfold strV at C3 C4
 unfold noCells strV
 simp only
 clear hF5
 go_enter Tryz.func97,Tryz.ntmps97
 go_wp2_with fail
 obtain ⟨W,hWe⟩:∃ W,(w.alloc (Obj.cells #[.string (strOfNums op),.string (strOfNums nm),.slice qi ins.length ci,.slice qo outs.length co,.slice qa at'.length ca] 75)) = W:=⟨_,rfl⟩
 have BX:Hid (Box W w.heap.size #[.string (strOfNums op),.string (strOfNums nm),.slice qi ins.length ci,.slice qo outs.length co,.slice qa at'.length ca] 75):=hide (by rw [← hWe]; exact Box.new w _ _)
 have K0:Hid (KeptW g w W):=hide (by rw [← hWe]; exact KeptW.below (al1p _ _) (by omega))
 have V0:Hid (WrIn g W fs0):=hide (by rw [← hWe]; exact (uh HW).below (al1p _ _))
 have X0:Hid (KeptW g W W):=hide (KeptW.refl _ _)
 rw [hWe]
 clear hWe HW
 have x0:=(uh BX).cell
 go_loopw [11] (fun iv wr => ∃ n:Nat,iv = .int .i64 n ∧ n ≤ ins.length ∧ Hid (WrIn g wr (fs0 ++ (ins.take n).map (blkF 1))) ∧ Hid (KeptW g W wr)) (fun iv _ => ins.length - (intOf iv).toNat)
 case atStart => exact ⟨0,rfl,by omega,hide (by rw [List.take_zero,List.map_nil,List.append_nil]; exact uh V0),X0⟩
 case round =>
  obtain ⟨n,rfl,hn,HN,HB⟩:=hrel
  by_cases hlt:n < ins.length
  ·have hi:(n:Int) < (ins.length:Int):=by omega
   have xr:=((uh HB).box (by decide) (by decide) (uh BX)).cell
   obtain ⟨b,o,rfl,hb,hc⟩:=(uh A1 _ ((uh K0).trans (uh HB))).lies (by omega)
   have k1:wr.cell? ⟨b,o + n,none⟩ = some (strV (ins.getD n default)):=hc n hlt
   have hmem:=getD_mem7 (z:=default) hlt
   have CD:=hide (fun v p c hv hb => cdata_any g (fs0 ++ (ins.take n).map (blkF 1)) 1 p c (ins.getD n default) v hv (Ls.ints hb (isB_wf ((uh S1 _ hmem).1))) (by decide) (by decide) (by have:=(uh S1 _ hmem).2; omega))
   have hBb:=hide (fun v => below_bytes v 5 (strOfNums (ins.getD n default)))
   have HL:=hide (fun v => ls_bytes (w:=v) (e:=5) ((uh S1 _ hmem).1) (by have:=(uh S1 _ hmem).2; omega))
   have hlen:=str_len (ins.getD n default)
   have HT:=hide (map_take7 (blkF 1) default ins n hlt)
   generalize ins.getD n default = s at k1 CD hBb HL hlen HT
   unfold strV at k1
   clear hc hmem
   have V2:=hide ((uh HN).below (uh hBb wr))
   have X2:=hide ((uh HB).trans (KeptW.below (uh hBb wr) (Nat.le_of_lt (uh HN).lt)))
   go_wp2_with fail
   refine (uh CD _ _ _ (uh V2) (uh HL wr)).mono ?_
   rintro e w3 ⟨rfl,hv1,hv2⟩
   rw [List.append_assoc,← uh HT] at hv1
   have H1:=hide hv1
   have H2:=hide ((uh X2).trans hv2)
   clear hv1 hv2 CD
   go_wp2_with fail
   go_roundw
   case rel => exact ⟨n + 1,by go_num,by omega,H1,H2⟩
   case measure => simp [intOf]; omega
  ·have hi:¬ (n:Int) < (ins.length:Int):=by omega
   rw [List.take_of_length_le (by omega)] at HN
   have xr:=((uh HB).box (by decide) (by decide) (uh BX)).cell
   have V1:=HN
   have X1:=HB
   clear HN HB
   go_wp2_with fail
   go_loopw [23] (fun iv wr => ∃ n:Nat,iv = .int .i64 n ∧ n ≤ outs.length ∧ Hid (WrIn g wr (fs0 ++ ins.map (blkF 1) ++ (outs.take n).map (blkF 2))) ∧ Hid (KeptW g W wr)) (fun iv _ => outs.length - (intOf iv).toNat)
   case atStart => exact ⟨0,rfl,by omega,hide (by rw [List.take_zero,List.map_nil,List.append_nil]; exact uh V1),X1⟩
   case round =>
    obtain ⟨n,rfl,hn,HN,HB⟩:=hrel
    by_cases hlt:n < outs.length
    ·have hi:(n:Int) < (outs.length:Int):=by omega
     have xr:=((uh HB).box (by decide) (by decide) (uh BX)).cell
     obtain ⟨b,o,rfl,hb,hc⟩:=(uh A2 _ ((uh K0).trans (uh HB))).lies (by omega)
     have k1:wr.cell? ⟨b,o + n,none⟩ = some (strV (outs.getD n default)):=hc n hlt
     have hmem:=getD_mem7 (z:=default) hlt
     have CD:=hide (fun v p c hv hb => cdata_any g (fs0 ++ ins.map (blkF 1) ++ (outs.take n).map (blkF 2)) 2 p c (outs.getD n default) v hv (Ls.ints hb (isB_wf ((uh S2 _ hmem).1))) (by decide) (by decide) (by have:=(uh S2 _ hmem).2; omega))
     have hBb:=hide (fun v => below_bytes v 5 (strOfNums (outs.getD n default)))
     have HL:=hide (fun v => ls_bytes (w:=v) (e:=5) ((uh S2 _ hmem).1) (by have:=(uh S2 _ hmem).2; omega))
     have hlen:=str_len (outs.getD n default)
     have HT:=hide (map_take7 (blkF 2) default outs n hlt)
     generalize outs.getD n default = s at k1 CD hBb HL hlen HT
     unfold strV at k1
     clear hc hmem
     have V2:=hide ((uh HN).below (uh hBb wr))
     have X2:=hide ((uh HB).trans (KeptW.below (uh hBb wr) (Nat.le_of_lt (uh HN).lt)))
     go_wp2_with fail
     refine (uh CD _ _ _ (uh V2) (uh HL wr)).mono ?_
     rintro e w3 ⟨rfl,hv1,hv2⟩
     rw [List.append_assoc,← uh HT] at hv1
     have H1:=hide hv1
     have H2:=hide ((uh X2).trans hv2)
     clear hv1 hv2 CD
     go_wp2_with fail
     go_roundw
     case rel => exact ⟨n + 1,by go_num,by omega,H1,H2⟩
     case measure => simp [intOf]; omega
    ·have hi:¬ (n:Int) < (outs.length:Int):=by omega
     rw [List.take_of_length_le (by omega)] at HN
     have xr:=((uh HB).box (by decide) (by decide) (uh BX)).cell
     have V2:=HN
     have X2:=HB
     have K2:=hide ((uh K0).trans (uh X2))
     clear HN HB
     go_wp2_with fail
     refine (uh C3 _ _ (uh V2)).mono ?_
     rintro e w3 ⟨rfl,hv1,hv2⟩
     have V3:=hide hv1
     have X3:=hide ((uh X2).trans hv2)
     have K3:=hide ((uh K0).trans (uh X3))
     have x3:=((uh X3).box (by decide) (by decide) (uh BX)).cell
     clear hv1 hv2
     go_wp2_with fail
     refine (uh C4 _ _ (uh V3)).mono ?_
     rintro e w4 ⟨rfl,hv1,hv2⟩
     have V4:=hide hv1
     have X4:=hide ((uh X3).trans hv2)
     have K4:=hide ((uh K0).trans (uh X4))
     have x4:=((uh X4).box (by decide) (by decide) (uh BX)).cell
     clear hv1 hv2
     go_wp2_with fail
     refine (uh C5 _ _ (uh K4) (uh V4)).mono ?_
     rintro e w5 ⟨rfl,hv1,hv2⟩
     have V5:=hide hv1
     have X5:=hide ((uh X4).trans hv2)
     have K5:=hide ((uh K0).trans (uh X5))
     have x5:=((uh X5).box (by decide) (by decide) (uh BX)).cell
     clear hv1 hv2
     go_wp2_with fail
     go_end0
     exact ⟨rfl,uh V5,uh K5⟩
def MoSm (a:MoA):Prop:=a.nm.length ≤ 100000 ∧ (∀ x ∈ a.nodes,NoSm x) ∧ (∀ x ∈ a.inits,x.nm.length ≤ 100000 ∧ TenWr x.T) ∧ (∀ x ∈ a.inp,x.nm.length ≤ 100000) ∧ ∀ x ∈ a.out,x.nm.length ≤ 100000
theorem cgraph_any (g:Nat) (fs0:List Fld) (a:MoA) {B:Nat} (w:World) (hW:WrIn g w fs0) (h:MoIn B w a) (hB:B ≤ g) (hm:MoSm a) :
  Calls Tryz.prog 47 #[.pointer (some ⟨g,0,none⟩),moV a] w fun e w' => WEnd g w (fs0 ++ graphF a.d) e w':=by
 have HI:=hide (fun v (hv:KeptW g w v) => h.kept (hv.model hB))
 have HW:=hide hW
 have gl:=hW.lt
 have C1:=hide (fun v fs (hk:KeptW g w v) (hv:WrIn g v fs) => ceachNode_any g B fs 1 97 (ent_of Tryz.func97 (by kernel_rfl) rfl) (fun x => nodeF x.d) a.qn a.cn a.nodes v hv (uh HI v hk).2.2.1.2.1 (uh HI v hk).2.2.1.2.2 hB (by decide) (by decide) (fun u gi hu hgg hwi x hx => by
  have hx2:=cnode_any gi [] x u hwi ((((uh HI v hk).2.2.1.1 x hx).kept nodeTS_in (hu.model hB))) (B:=B) (Nat.le_trans hB hgg) (hm.2.1 x hx)
  rw [List.nil_append] at hx2
  exact hx2))
 have C2:=hide (fun v fs (hv:WrIn g v fs) => cname_any g fs 2 a.nm v hv h.2.1 (by decide) (by decide) (by have:=hm.1; omega))
 have C3:=hide (fun v fs (hk:KeptW g w v) (hv:WrIn g v fs) => ceachInit_any g B fs 5 100 (ent_of Tryz.func100 (by kernel_rfl) rfl) (fun x => tensF x.nm x.T) a.qi a.ci a.inits v hv (uh HI v hk).2.2.2.1.2.1 (uh HI v hk).2.2.2.1.2.2 hB (by decide) (by decide) (fun u gi hu hgg hwi x hx => by
  have hx2:=cinit_any gi [] x u hwi ((((uh HI v hk).2.2.2.1.1 x hx).kept tenTS_in (hu.model hB))) (B:=B) (Nat.le_trans hB hgg) (hm.2.2.1 x hx).1 (hm.2.2.1 x hx).2
  rw [List.nil_append] at hx2
  exact hx2))
 have C4:=hide (fun v fs (hk:KeptW g w v) (hv:WrIn g v fs) => ceachValue_any g B fs 11 102 (ent_of Tryz.func102 (by kernel_rfl) rfl) (fun x => valF x.d) a.qp a.cp a.inp v hv (uh HI v hk).2.2.2.2.1.2.1 (uh HI v hk).2.2.2.2.1.2.2 hB (by decide) (by decide) (fun u gi hu hgg hwi x hx => by
  have hx2:=cvalue_any gi [] x u hwi ((((uh HI v hk).2.2.2.2.1.1 x hx).kept (by decide) (hu.model hB))) (B:=B) (Nat.le_trans hB hgg) (hm.2.2.2.1 x hx)
  rw [List.nil_append] at hx2
  exact hx2))
 have C5:=hide (fun v fs (hk:KeptW g w v) (hv:WrIn g v fs) => ceachValue_any g B fs 12 102 (ent_of Tryz.func102 (by kernel_rfl) rfl) (fun x => valF x.d) a.qo a.co a.out v hv (uh HI v hk).2.2.2.2.2.2.1 (uh HI v hk).2.2.2.2.2.2.2 hB (by decide) (by decide) (fun u gi hu hgg hwi x hx => by
  have hx2:=cvalue_any gi [] x u hwi ((((uh HI v hk).2.2.2.2.2.1 x hx).kept (by decide) (hu.model hB))) (B:=B) (Nat.le_trans hB hgg) (hm.2.2.2.2 x hx)
  rw [List.nil_append] at hx2
  exact hx2))
 have HV:Hid (fs0 ++ graphF a.d = fs0 ++ (a.nodes.map fun x => blkF 1 (msgB (nodeF x.d))) ++ wordF 2 a.nm ++ (a.inits.map fun x => blkF 5 (msgB (tensF x.nm x.T))) ++ (a.inp.map fun x => blkF 11 (msgB (valF x.d))) ++ a.out.map fun x => blkF 12 (msgB (valF x.d))):=hide (by unfold graphF MoA.d; simp only [List.append_assoc,List.map_map]; rfl)
 rw [uh HV]
 clear HV hW h hm HI
 obtain ⟨ops,nm,nodes,qn,cn,inits,qi,ci,inp,qp,cp,out,qo,co⟩:=a
 simp only at C1 C2 C3 C4 C5 ⊢
 obtain ⟨F1,hF1⟩:∃ F,(nodes.map fun x => blkF 1 (msgB (nodeF x.d))) = F:=⟨_,rfl⟩
 rw [hF1] at C1 ⊢
 obtain ⟨F3',hF3⟩:∃ F,(inits.map fun x => blkF 5 (msgB (tensF x.nm x.T))) = F:=⟨_,rfl⟩
 rw [hF3] at C3 ⊢
 obtain ⟨F4,hF4⟩:∃ F,(inp.map fun x => blkF 11 (msgB (valF x.d))) = F:=⟨_,rfl⟩
 rw [hF4] at C4 ⊢
 obtain ⟨F5,hF5⟩:∃ F,(out.map fun x => blkF 12 (msgB (valF x.d))) = F:=⟨_,rfl⟩
 rw [hF5] at C5 ⊢
 generalize wordF 2 nm = F2 at C2 ⊢
 clear hF1 hF3 hF4 hF5
 unfold strV at C2
 unfold moV moCells strV
 simp only
 go_enter Tryz.func47,Tryz.ntmps47
 go_wp2_with fail
 obtain ⟨W,hWe⟩:∃ W,(w.alloc (Obj.cells #[.int .i64 ops,.string (strOfNums nm),.slice qn nodes.length cn,.slice qi inits.length ci,.slice qp inp.length cp,.slice qo out.length co] 29)) = W:=⟨_,rfl⟩
 have BX:Hid (Box W w.heap.size #[.int .i64 ops,.string (strOfNums nm),.slice qn nodes.length cn,.slice qi inits.length ci,.slice qp inp.length cp,.slice qo out.length co] 29):=hide (by rw [← hWe]; exact Box.new w _ _)
 have K0:Hid (KeptW g w W):=hide (by rw [← hWe]; exact KeptW.below (al1p _ _) (by omega))
 have V0:Hid (WrIn g W fs0):=hide (by rw [← hWe]; exact (uh HW).below (al1p _ _))
 have X0:Hid (KeptW g W W):=hide (KeptW.refl _ _)
 rw [hWe]
 clear hWe HW
 refine (uh C1 _ _ (uh K0) (uh V0)).mono ?_
 rintro e w1 ⟨rfl,hv1,hv2⟩
 have V1:=hide hv1
 have X1:=hide ((uh X0).trans hv2)
 have K1:=hide ((uh K0).trans (uh X1))
 have x1:=((uh X1).box (by decide) (by decide) (uh BX)).cell
 clear hv1 hv2
 go_wp2_with fail
 refine (uh C2 _ _ (uh V1)).mono ?_
 rintro e w2 ⟨rfl,hv1,hv2⟩
 have V2:=hide hv1
 have X2:=hide ((uh X1).trans hv2)
 have K2:=hide ((uh K0).trans (uh X2))
 have x2:=((uh X2).box (by decide) (by decide) (uh BX)).cell
 clear hv1 hv2
 go_wp2_with fail
 refine (uh C3 _ _ (uh K2) (uh V2)).mono ?_
 rintro e w3 ⟨rfl,hv1,hv2⟩
 have V3:=hide hv1
 have X3:=hide ((uh X2).trans hv2)
 have K3:=hide ((uh K0).trans (uh X3))
 have x3:=((uh X3).box (by decide) (by decide) (uh BX)).cell
 clear hv1 hv2
 go_wp2_with fail
 refine (uh C4 _ _ (uh K3) (uh V3)).mono ?_
 rintro e w4 ⟨rfl,hv1,hv2⟩
 have V4:=hide hv1
 have X4:=hide ((uh X3).trans hv2)
 have K4:=hide ((uh K0).trans (uh X4))
 have x4:=((uh X4).box (by decide) (by decide) (uh BX)).cell
 clear hv1 hv2
 go_wp2_with fail
 refine (uh C5 _ _ (uh K4) (uh V4)).mono ?_
 rintro e w5 ⟨rfl,hv1,hv2⟩
 have V5:=hide hv1
 have X5:=hide ((uh X4).trans hv2)
 have K5:=hide ((uh K0).trans (uh X5))
 have x5:=((uh X5).box (by decide) (by decide) (uh BX)).cell
 clear hv1 hv2
 go_wp2_with fail
 go_end0
 exact ⟨rfl,uh V5,uh K5⟩
theorem cenc1_any (gin gm:Nat) (a:MoA) {B:Nat} (w:World) (hW:WrIn gin w []) (hb:Box w gm (moCells a) 29) (h:MoIn B w a) (hB:B ≤ gin) (hm:MoSm a) :
  Calls Tryz.prog 46 #[.pointer (some ⟨gin,0,none⟩),.pointer (some ⟨gm,0,none⟩)] w fun e w' => WEnd gin w (graphF a.d) e w':=by
 have C1:=hide (cgraph_any gin [] a w hW h hB hm)
 rw [List.nil_append] at C1
 generalize graphF a.d = F at C1 ⊢
 have x0:=hb.cell
 clear hW hb h hm
 unfold moV moCells strV at C1
 unfold moCells strV at x0
 go_enter Tryz.func46,Tryz.ntmps46
 go_wp2_with fail
 refine (uh C1).mono ?_
 rintro e v ⟨rfl,hv1,hv2⟩
 have H1:=hide hv1
 have H2:=hide hv2
 clear hv1 hv2
 go_wp2_with fail
 go_end0
 exact ⟨rfl,uh H1,uh H2⟩
theorem cenc2_any (gin:Nat) (w:World) (hW:WrIn gin w []) :
  Calls Tryz.prog 48 #[.pointer (some ⟨gin,0,none⟩)] w fun e w' => WEnd gin w [numF 2 17] e w':=by
 have C1:=hide (cnumber_any gin [] 2 17 w hW (by decide) (by decide))
 rw [List.nil_append,show u64w 17 = 17 from rfl] at C1
 generalize numF 2 17 = F at C1 ⊢
 clear hW
 go_enter Tryz.func48,Tryz.ntmps48
 go_wp2_with fail
 refine (uh C1).mono ?_
 rintro e v ⟨rfl,hv1,hv2⟩
 have H1:=hide hv1
 have H2:=hide hv2
 clear hv1 hv2
 go_wp2_with fail
 go_end0
 exact ⟨rfl,uh H1,uh H2⟩
theorem ownsRow_base {b c k n:Nat} {e:TypeId} {w:World} {v:Value} {xs:List Value} (h:w.ownsRow b e k v n xs) (hc:c ≤ b):w.ownsRow c e k v n xs:=by
 obtain ⟨l1,h1⟩:=h
 refine ⟨l1,?_⟩
 rcases h1 with g | ⟨g,cap,cur,hv,hg,rest⟩
 ·exact .inl g
 ·exact .inr ⟨g,cap,cur,hv,Nat.le_trans hc hg,rest⟩
theorem countF_le:∀ (l:List Int) (n:Int),0 ≤ n → n ≤ 4096 → (∀ x ∈ l,0 ≤ x) → 0 ≤ (countF n l).1 ∧ (countF n l).1 ≤ 4096
 | [],n,h0,h1,_ => ⟨h0,h1⟩
 | x :: r,n,h0,h1,hp => by
   rw [countF]
   split
   ·exact ⟨by decide,by decide⟩
   ·split
    ·exact ⟨by decide,by decide⟩
    ·exact countF_le r _ (Int.mul_nonneg h0 (hp x (by simp))) (by omega) (fun y hy => hp y (by simp [hy]))
theorem count_le (d:List Int):0 ≤ (countV d).1 ∧ (countV d).1 ≤ 4096:=by
 unfold countV
 split
 ·exact ⟨by decide,by decide⟩
 ·rename_i h
  split
  ·exact ⟨by decide,by decide⟩
  ·split
   ·exact ⟨by decide,by decide⟩
   ·exact countF_le d 1 (by decide) (by decide) (fun x hx => by
     have h1:(d.any fun x => decide (x < 0)) = false:=by simpa using h
     rw [List.any_eq_false] at h1
     have:=h1 x hx
     simp at this
     exact this)
theorem count_dims {d:List Int} (h:(countV d).2 = 0):d.length ≤ 8:=by
 unfold countV at h
 split at h
 ·cases h
 ·split at h
  ·cases h
  ·omega
theorem mayT_small {t:TenD} (h:mayT t = true) (hd:muchD t.2.1 = false):TenWr t:=by
 unfold mayT at h
 unfold muchD at hd
 simp only [Bool.and_eq_true,Bool.or_eq_true,bne_iff_ne,beq_iff_eq] at h
 have hd2:(countV t.2.1).2 ≠ 8:=by simpa using hd
 obtain ⟨_,h1,h2⟩:=h
 have h0:(countV t.2.1).2 = 0:=by
  rcases count_cases t.2.1 with g | g | g
  ·exact g
  ·exact absurd g h1
  ·exact absurd g hd2
 have hl:=count_dims h0
 obtain ⟨c0,c1⟩:=count_le t.2.1
 rcases h2 with g | ⟨_,g⟩
 ·exact absurd h0 g
 ·unfold elemsN at g
  exact ⟨by omega,by omega,by omega,by omega⟩
theorem muchN_le {s:Str} (h:muchN s = false):s.length ≤ 256:=by
 unfold muchN at h
 have:=of_decide_eq_false h
 omega
theorem mayA_small {a:AtA} (h:mayA a.d = true) (hm:muchA a.d = false):AtSm a ∧ kindB a.kd = true:=by
 obtain ⟨nm,kd,f,i,s,T,A,fl,qf,cf,is,qi,ci⟩:=a
 unfold muchA AtA.d at hm
 unfold mayA zeroR AtA.d at h
 simp only [Bool.or_eq_false_iff] at hm
 obtain ⟨m1,m2,m3,m4,m5⟩:=hm
 have l1:=muchN_le m1
 have l2:=of_decide_eq_false m2
 have l4:=of_decide_eq_false m4
 have l5:=of_decide_eq_false m5
 simp only [Bool.and_eq_true] at h
 obtain ⟨h1,_,_,_,h5,_,_⟩:=h
 have ht:TenWr T:=by
  by_cases h4:kd = 4
  ·rw [if_pos h4] at h1
   exact mayT_small h1 m3
  ·have:emptyT T = true:=by simpa [h4] using h5
   unfold emptyT at this
   simp only [Bool.and_eq_true,beq_iff_eq] at this
   exact ⟨by omega,by omega,by omega,by omega⟩
 refine ⟨⟨by simp only; omega,by simp only; omega,by simp only; omega,by simp only; omega,ht.1,ht.2.1,ht.2.2.1,ht.2.2.2⟩,?_⟩
 simp only
 by_cases h4:kd = 4
 ·subst h4; rfl
 ·rw [if_neg h4] at h1; exact h1
theorem any_no {α:Type} {P:α → Bool} {l:List α} (h:l.any P = false):∀ x ∈ l,P x = false:=fun x hx => by
 rw [List.any_eq_false] at h
 simpa using h x hx
theorem mayNo_small {a:NoA} (h:mayNo a.d = true) (hm:muchNo a.d = false):NoSm a:=by
 unfold mayNo NoA.d at h
 unfold muchNo NoA.d at hm
 simp only [Bool.and_eq_true,List.all_eq_true,List.mem_map,forall_exists_index,and_imp,forall_apply_eq_imp_iff₂,Bool.not_eq_true',decide_eq_false_iff_not] at h
 simp only [Bool.or_eq_false_iff] at hm
 obtain ⟨m1,m2,_,m4,_,m6,_,m8⟩:=hm
 refine ⟨h.1,by have:=muchN_le m1; omega,by have:=muchN_le m2; omega,fun s hs => by have:=muchN_le (any_no m4 s hs); omega,fun s hs => by have:=muchN_le (any_no m6 s hs); omega,fun x hx => mayA_small (h.2 x hx) (any_no m8 _ (List.mem_map.2 ⟨x,hx,rfl⟩))⟩
theorem check_small {a:MoA} (h:checkM a.d = 0):MoSm a:=by
 rw [← check_code] at h
 have h1:mayM a.d = true:=by
  cases hm:mayM a.d
  ·rw [hm] at h; cases h
  ·rfl
 rw [h1] at h
 have h2:muchM a.d = false:=by
  cases hm:muchM a.d
  ·rfl
  ·rw [hm] at h; cases h
 unfold mayM MoA.d at h1
 unfold muchM MoA.d at h2
 simp only [Bool.and_eq_true,List.all_eq_true,List.mem_map,forall_exists_index,and_imp,forall_apply_eq_imp_iff₂] at h1
 simp only [Bool.or_eq_false_iff] at h2
 obtain ⟨_,a1,a2,a3,a4⟩:=h1
 obtain ⟨b0,_,b1,_,b2,_,b3,_,b4⟩:=h2
 have key:∀ (x:VaA),muchV x.d = false → x.nm.length ≤ 100000:=fun x hx => by
  unfold muchV VaA.d at hx
  simp only [Bool.or_eq_false_iff] at hx
  have:=muchN_le hx.1; omega
 refine ⟨by have:=muchN_le b0; omega,fun x hx => mayNo_small (a1 x hx) (any_no b1 _ (List.mem_map.2 ⟨x,hx,rfl⟩)),fun x hx => ?_,fun x hx => key x (any_no b3 _ (List.mem_map.2 ⟨x,hx,rfl⟩)),fun x hx => key x (any_no b4 _ (List.mem_map.2 ⟨x,hx,rfl⟩))⟩
 have hm:=any_no b2 _ (List.mem_map.2 ⟨x,hx,rfl⟩)
 unfold muchI InA.d at hm
 simp only [Bool.or_eq_false_iff] at hm
 exact ⟨by have:=muchN_le hm.1; omega,mayT_small (a2 x hx) hm.2⟩
theorem cencode_any (a:MoA) {B:Nat} (w:World) (h:MoIn B w a) (hs:MoLt a) (hB:B ≤ w.heap.size) :
  Calls Tryz.prog 18 #[moV a] w fun e w' => ∃ v,e = .returned (.tuple #[v,.int .i64 (encodeV a.d).2]) ∧ OwnG 5 (Value.int .u8) w w' v (encodeV a.d).1:=by
 have C1:=hide (fun v (hv:Below w.heap.size w v) => ccheck_any a v (h.below hv) hs)
 have HR:Hid (encodeV a.d = if checkM a.d = 0 then (if 4194304 < (msgB (modelF a.d)).length then ([],8) else (msgB (modelF a.d),0)) else ([],checkM a.d)):=hide rfl
 have HSm:=hide (check_small (a:=a))
 have C2:=hide (fun g v (hv:WrIn g v []) => cnumber_any g [] 1 8 v hv (by decide) (by decide))
 have C3:=hide (fun g v fs gm (hw:WrIn g v fs) (hb:Box v gm (moCells a) 29) (hi:MoIn B v a) (hg:B ≤ g) (hm:MoSm a) => cinner_any g fs (graphF a.d) 7 46 (ent_of Tryz.func46 (by kernel_rfl) rfl) #[.pointer (some ⟨gm,0,none⟩)] v hw (fun u gi hu hgi hwi => cenc1_any gi gm a u hwi (hb.below hu) (hi.below hu) (by have:=hw.lt; omega) hm) (by decide) (by decide))
 have C4:=hide (fun g v fs (hw:WrIn g v fs) => cinner_any g fs [numF 2 17] 8 48 (ent_of Tryz.func48 (by kernel_rfl) rfl) #[] v hw (fun u gi hu hgi hwi => cenc2_any gi u hwi) (by decide) (by decide))
 have HI:=hide (fun v (hv:Below w.heap.size w v) => h.below hv)
 have HV:Hid (modelF a.d = [numF 1 8] ++ [blkF 7 (msgB (graphF a.d))] ++ [blkF 8 (msgB [numF 2 17])]):=hide rfl
 obtain ⟨E,hE⟩:∃ E,encodeV a.d = E:=⟨_,rfl⟩
 rw [hE] at HR ⊢
 clear h hs hE
 generalize modelF a.d = MF at HR HV
 generalize graphF a.d = GF at C3 HV
 generalize checkM a.d = CK at C1 HR HSm
 obtain ⟨E1,E2⟩:=E
 obtain ⟨ops,nm,nodes,qn,cn,inits,qi,ci,inp,qp,cp,out,qo,co⟩:=a
 unfold moV moCells strV at C1 ⊢
 unfold moCells strV at C3
 simp only at C1 C3 ⊢
 rw [show u64w 8 = 8 from rfl,List.nil_append] at C2
 go_enter Tryz.func18,Tryz.ntmps18
 go_wp2_with fail
 obtain ⟨W,hWe⟩:∃ W,(w.alloc (Obj.cells #[.int .i64 ops,.string (strOfNums nm),.slice qn nodes.length cn,.slice qi inits.length ci,.slice qp inp.length cp,.slice qo out.length co] 29)) = W:=⟨_,rfl⟩
 have BX:Hid (Box W w.heap.size #[.int .i64 ops,.string (strOfNums nm),.slice qn nodes.length cn,.slice qi inits.length ci,.slice qp inp.length cp,.slice qo out.length co] 29):=hide (by rw [← hWe]; exact Box.new w _ _)
 have BW:Hid (Below w.heap.size w W):=hide (by rw [← hWe]; exact al1p _ _)
 rw [hWe]
 clear hWe
 refine (uh C1 _ (uh BW)).mono ?_
 rintro e w1 ⟨rfl,hv⟩
 have B1:=hide (bl_tr (uh BW) hv)
 have BX1:=hide ((uh BX).below hv)
 clear hv C1
 by_cases hck:CK = 0
 rotate_left
 ·have tck:(CK != 0) = true:=by simp [hck]
  have HE:(E1,E2) = ([],CK):=by have:=uh HR; rw [if_neg hck] at this; exact this
  simp only [Prod.mk.injEq] at HE
  obtain ⟨rfl,rfl⟩:=HE
  clear HR
  go_wp2_with fail
  go_ret2
  exact ⟨_,rfl,OwnG.nil _ _ _ (uh B1)⟩
 ·subst hck
  have HM:=hide (uh HSm rfl)
  have HR2:Hid ((E1,E2) = if 4194304 < (msgB MF).length then ([],8) else (msgB MF,0)):=hide (by have:=uh HR; rw [if_pos rfl] at this; exact this)
  clear HR HSm
  go_wp2_with fail
  refine (uh C2 w1.heap.size _ (WrIn.new w1)).mono ?_
  rintro e w2 ⟨rfl,hv1,hv2⟩
  have s1:=(uh B1).size
  have V2:=hide hv1
  have B2:Hid (Below w1.heap.size w1 w2):=hide (bl_tr7 (al1p w1 _) hv2.1)
  clear hv1 hv2 C2
  go_wp2_with fail
  refine (uh C3 w1.heap.size w2 _ w.heap.size (uh V2) ((uh BX1).below (uh B2)) (uh HI _ (bl_tr (uh B1) (uh B2))) (by omega) (uh HM)).mono ?_
  rintro e w3 ⟨rfl,hv1,hv2⟩
  have V3:=hide hv1
  have B3:Hid (Below w1.heap.size w1 w3):=hide (bl_tr7 (uh B2) hv2.1)
  clear hv1 hv2 C3
  go_wp2_with fail
  refine (uh C4 w1.heap.size w3 _ (uh V3)).mono ?_
  rintro e w4 ⟨rfl,hv1,hv2⟩
  rw [← uh HV] at hv1
  have B4:Hid (Below w1.heap.size w1 w4):=hide (bl_tr7 (uh B3) hv2.1)
  obtain ⟨vw,bs,full,x1,x2,x3,x4,x5⟩:=hv1
  obtain ⟨pv,cv,rfl⟩:=own_slice x2
  have y1:=x1.cell
  have HO:Hid (OwnG 5 (Value.int .u8) w w4 (.slice pv bs.length cv) bs):=hide ⟨ownsRow_base x2 (by omega),bl_tr (uh B1) (uh B4)⟩
  clear hv2 C4 x1 x2 x5
  cases full
  ·obtain ⟨g1,g2⟩:=x3.has
   have HE:(E1,E2) = (msgB MF,0):=by have:=uh HR2; rw [if_neg (by omega)] at this; exact this
   simp only [Prod.mk.injEq] at HE
   obtain ⟨rfl,rfl⟩:=HE
   have G1:=hide g1
   clear HR2 x3 g1 g2
   go_wp2_with fail
   go_ret2
   exact ⟨_,rfl,by rw [← uh G1]; exact uh HO⟩
  ·have g1:=x3.isFull
   have HE:(E1,E2) = ([],8):=by have:=uh HR2; rw [if_pos g1] at this; exact this
   simp only [Prod.mk.injEq] at HE
   obtain ⟨rfl,rfl⟩:=HE
   have BB:=hide (uh HO).2
   clear HR2 x3 g1
   go_wp2_with fail
   go_ret2
   exact ⟨_,rfl,OwnG.nil _ _ _ (uh BB)⟩
def FlB (g:Nat) (w:World) (f:F3):Prop:=Box w g #[.bool f.1,.bool f.2.1,.bool f.2.2] 62
def FE (g:Nat) (f:F3) (w w':World):Prop:=Stay g w w' ∧ ∀ k,FlB g w k → FlB g w' (f3 k f)
theorem FE.trans {g:Nat} {f f':F3} {a b c:World} (h:FE g f a b) (k:FE g f' b c):FE g (f3 f f') a c:=⟨h.1.trans k.1,fun n hn => by rw [← f3_assoc]; exact k.2 _ (h.2 n hn)⟩
theorem FlB.lt {g:Nat} {w:World} {f:F3} (h:FlB g w f):g < w.heap.size:=Box.lt h
theorem FE.below {g:Nat} {w w':World} (h:Below w.heap.size w w') (hg:g < w.heap.size):FE g no3 w w':=⟨Stay.below h (Nat.le_of_lt hg),fun k hk => by rw [f3_no]; exact Box.below hk h⟩
theorem FE.refl (g:Nat) (w:World):FE g no3 w w:=⟨Stay.refl _ _,fun k hk => by rw [f3_no]; exact hk⟩
theorem FE.bad (g:Nat) (w:World):FE g (bad3 true) w (w.setCell ⟨g,0,none⟩ (.bool true)):=⟨Stay.set _ _ _ _,fun k hk => by
 have h:=Box.same hk 0 (.bool true)
 unfold FlB
 simpa [f3,bad3] using h⟩
theorem FE.big (g:Nat) (w:World):FE g (big3 true) w (w.setCell ⟨g,2,none⟩ (.bool true)):=⟨Stay.set _ _ _ _,fun k hk => by
 have h:=Box.same hk 2 (.bool true)
 unfold FlB
 simpa [f3,big3] using h⟩
theorem FE.eq {g:Nat} {f f':F3} {w w':World} (h:FE g f w w') (e:f = f'):FE g f' w w':=e ▸ h
theorem FE.al {g:Nat} {f:F3} {w w':World} (o:Obj) (hg:g < w.heap.size) (h:FE g f (w.alloc o) w'):FE g f w w':=((FE.below (al1p w o) hg).trans h).eq (no_f3 f)
theorem rknown7_any (t:Int) (w:World) (ht:(Lit.int .i64 t).wf = true):Calls Tryz.prog 104 #[.int .i64 t] w fun e w' => e = .returned (.bool (knownB t)) ∧ w' = w:=by
 have HK:Hid (knownB t = (t == 1 || t == 7 || t == 9)):=hide rfl
 by_cases h1:t = 1
 ·subst h1
  go_enter Tryz.func104,Tryz.ntmps104
  go_wp2_with fail
  go_ret
  exact ⟨rfl,rfl⟩
 ·have t1:(t == 1) = false:=by simp [h1]
  by_cases h7:t = 7
  ·subst h7
   go_enter Tryz.func104,Tryz.ntmps104
   go_wp2_with fail
   go_ret
   exact ⟨rfl,rfl⟩
  ·have t7:(t == 7) = false:=by simp [h7]
   obtain ⟨D,hD⟩:∃ D,(t == 9) = D:=⟨_,rfl⟩
   have HE:Hid (knownB t = D):=hide (by rw [uh HK,t1,t7,hD]; rfl)
   rw [uh HE]
   clear HK HE
   go_enter Tryz.func104,Tryz.ntmps104
   go_wp2_with fail
   go_ret
   exact ⟨rfl,rfl⟩
theorem rlong_any (g:Nat) (s:Str) (k:F3) (w:World) (hw:FlB g w k) :
  Calls Tryz.prog 49 #[.pointer (some ⟨g,0,none⟩),strV s] w fun e w' => e = .returned (.tuple #[]) ∧ FE g (longW s) w w':=by
 unfold longW strV
 have hl:=str_len s
 have x1:=Box.cell hw
 have f1:=Box.frozen hw
 have z1:=Box.lt hw
 have HW:=hide hw
 clear hw
 by_cases hc:256 < s.length
 ·have hi:(256:Int) < (s.length:Int):=by omega
  rw [decide_eq_true hc]
  clear hc
  go_enter Tryz.func49,Tryz.ntmps49
  go_wp2_with fail
  go_end0
  exact ⟨rfl,FE.big g w⟩
 ·have hi:¬ (256:Int) < (s.length:Int):=by omega
  rw [decide_eq_false hc,big3_no]
  clear hc
  go_enter Tryz.func49,Tryz.ntmps49
  go_wp2_with fail
  go_end0
  exact ⟨rfl,FE.refl g w⟩
def dimsN (d:List Int):Int:=if (countV d).2 = 0 then (countV d).1 else -1
theorem rdimsOf_any (g:Nat) (p:Option Addr) (c:Nat) (d:List Int) (k:F3) (w:World) (hw:FlB g w k) (hd:Ints .i64 w p c d) :
  Calls Tryz.prog 105 #[.pointer (some ⟨g,0,none⟩),.slice p d.length c] w fun e w' => e = .returned (.int .i64 (dimsN d)) ∧ FE g (dimsW d) w w':=by
 have C:=hide (rcount7_any p c d w hd)
 have hcs:=count_cases d
 unfold dimsN dimsW
 generalize countV d = R at C hcs ⊢
 obtain ⟨R1,R2⟩:=R
 simp only at C hcs ⊢
 have x1:=Box.cell hw
 have f1:=Box.frozen hw
 have z1:=Box.lt hw
 clear hd
 rcases hcs with h | h | h
 ·subst h
  rw [if_pos rfl]
  go_enter Tryz.func105,Tryz.ntmps105
  go_wp2_with fail
  refine (uh C).mono ?_
  rintro e v ⟨rfl,hv⟩
  replace hv:=hv.symm
  subst hv
  go_wp2_with fail
  go_ret
  exact ⟨rfl,FE.refl g w⟩
 ·subst h
  rw [if_neg (by decide)]
  go_enter Tryz.func105,Tryz.ntmps105
  go_wp2_with fail
  refine (uh C).mono ?_
  rintro e v ⟨rfl,hv⟩
  replace hv:=hv.symm
  subst hv
  go_wp2_with fail
  go_ret
  exact ⟨rfl,(FE.bad g w).eq (by decide)⟩
 ·subst h
  rw [if_neg (by decide)]
  go_enter Tryz.func105,Tryz.ntmps105
  go_wp2_with fail
  refine (uh C).mono ?_
  rintro e v ⟨rfl,hv⟩
  replace hv:=hv.symm
  subst hv
  go_wp2_with fail
  go_ret
  exact ⟨rfl,(FE.big g w).eq (by decide)⟩
theorem rhas_any (T:Ten) (A:TA) (w:World) (h:TenSm T) :
  Calls Tryz.prog 106 #[tenV T A] w fun e w' => e = .returned (.tuple #[.int .i64 (hasT T).1,.int .i64 (hasT T).2]) ∧ Below w.heap.size w w':=by
 obtain ⟨ty,ds,fs,is,bs⟩:=T
 obtain ⟨pd,cd,pf,cf,pi,ci,pb,cb⟩:=A
 obtain ⟨h1,h2,h3,h4⟩:=h
 simp only at h1 h2 h3 h4
 unfold tenV tenCells hasT
 simp only
 have HB:=hide (bl_tr (al1p w (Obj.cells #[.int .i64 ty,.slice pd ds.length cd,.slice pf fs.length cf,.slice pi is.length ci,.slice pb bs.length cb] 80)) (bdrewp _))
 obtain ⟨N,hN⟩:∃ N,fs.length + is.length + bs.length = N:=⟨_,rfl⟩
 have hNi:(fs.length:Int) + (is.length:Int) + (bs.length:Int) = (N:Int):=by omega
 have hNb:N ≤ 422212465065984:=by omega
 rw [hN]
 by_cases t1:ty = 1
 ·subst t1
  rw [if_pos rfl]
  obtain ⟨M,hM⟩:∃ M,N - fs.length = M:=⟨_,rfl⟩
  have hMi:(N:Int) - (fs.length:Int) = (M:Int):=by omega
  simp only
  rw [hM]
  clear hM hN
  go_enter Tryz.func106,Tryz.ntmps106
  go_wp2_with fail
  go_region
  go_wp2_with fail
  go_ret2
  exact ⟨rfl,uh HB⟩
 ·have tn:(ty == 1) = false:=by simp [t1]
  rw [if_neg t1]
  by_cases t7:ty = 7
  ·subst t7
   rw [if_pos rfl]
   obtain ⟨M,hM⟩:∃ M,N - is.length = M:=⟨_,rfl⟩
   have hMi:(N:Int) - (is.length:Int) = (M:Int):=by omega
   simp only
   rw [hM]
   clear hM hN
   go_enter Tryz.func106,Tryz.ntmps106
   go_wp2_with fail
   go_region
   go_wp2_with fail
   go_ret2
   exact ⟨rfl,uh HB⟩
  ·have tm:(ty == 7) = false:=by simp [t7]
   rw [if_neg t7]
   obtain ⟨M,hM⟩:∃ M,N - bs.length = M:=⟨_,rfl⟩
   have hMi:(N:Int) - (bs.length:Int) = (M:Int):=by omega
   simp only
   rw [hM]
   clear hM hN t1 t7
   go_enter Tryz.func106,Tryz.ntmps106
   go_wp2_with fail
   go_region
   go_wp2_with fail
   go_ret2
   exact ⟨rfl,uh HB⟩
theorem rwrong_any (g:Nat) (T:Ten) (A:TA) (k:F3) (w:World) (hw:FlB g w k) (hT:TenIn w T A) (hs:TenSm T) :
  Calls Tryz.prog 51 #[.pointer (some ⟨g,0,none⟩),tenV T A] w fun e w' => e = .returned (.tuple #[]) ∧ FE g (tensW T) w w':=by
 have C1:=hide (fun v => rknown7_any T.1 v hT.1)
 have C2:=hide (fun v (hv:Below w.heap.size w v) => rdimsOf_any g A.pd A.cd T.2.1 k v (Box.below hw hv) (hT.2.1.below hv))
 have C3:=hide (fun v => rhas_any T A v hs)
 have HW:Hid (tensW T = if knownB T.1 = false then bad3 true else f3 (dimsW T.2.1) (bad3 ((countV T.2.1).2 == 0 && decide (((hasT T).1:Int) ≠ (countV T.2.1).1 ∨ 0 < (hasT T).2)))):=hide rfl
 have HD:Hid (dimsN T.2.1 = if (countV T.2.1).2 = 0 then (countV T.2.1).1 else -1):=hide rfl
 have hcl:=count_le T.2.1
 have hcs:=count_cases T.2.1
 obtain ⟨F,hF⟩:∃ F,tensW T = F:=⟨_,rfl⟩
 rw [hF] at HW ⊢
 clear hF
 generalize knownB T.1 = K at C1 HW
 generalize dimsW T.2.1 = FD at C2 HW
 generalize dimsN T.2.1 = DN at C2 HD
 generalize countV T.2.1 = R at HW HD hcl hcs
 obtain ⟨R1,R2⟩:=R
 generalize hasT T = HH at C3 HW
 obtain ⟨O1,O2⟩:=HH
 obtain ⟨ty,ds,fs,is,bs⟩:=T
 obtain ⟨pd,cd,pf,cf,pi,ci,pb,cb⟩:=A
 simp only at C1 C2 C3 HW HD hcl hcs
 unfold tenV tenCells at C3 ⊢
 simp only at C3 ⊢
 have x1:=(Box.alloc hw (Obj.cells #[.int .i64 ty,.slice pd ds.length cd,.slice pf fs.length cf,.slice pi is.length ci,.slice pb bs.length cb] 80)).cell
 have f1:=(Box.alloc hw (Obj.cells #[.int .i64 ty,.slice pd ds.length cd,.slice pf fs.length cf,.slice pi is.length ci,.slice pb bs.length cb] 80)).frozen
 have z1:=Box.lt hw
 have HWB:=hide hw
 clear hT hs hw
 cases K
 ·have HE:=uh HW
  rw [if_pos rfl] at HE
  subst HE
  go_enter Tryz.func51,Tryz.ntmps51
  go_wp2_with fail
  refine (uh C1 _).mono ?_
  rintro e v ⟨rfl,hv⟩
  replace hv:=hv.symm
  subst hv
  go_wp2_with fail
  refine bodyPost_ret (v:=.tuple #[]) (results_none rfl _ _ _) rfl ?_
  exact ⟨rfl,((FE.bad g w).trans (FE.below (al1p _ _) (by simpa using z1))).eq (f3_no _)⟩
 ·have HE:=uh HW
  rw [if_neg (by decide)] at HE
  clear HW
  have X3:=hide (Box.new w #[.int .i64 ty,.slice pd ds.length cd,.slice pf fs.length cf,.slice pi is.length ci,.slice pb bs.length cb] 80)
  have hD:(DN = R1 ∧ R2 = 0 ∧ ((O1:Int) ≠ R1 ∨ (O1:Int) = R1 ∧ 0 < O2) ∧ F = f3 FD (bad3 true)) ∨ (DN = R1 ∧ R2 = 0 ∧ (O1:Int) = R1 ∧ O2 = 0 ∧ F = FD) ∨ (DN = -1 ∧ F = FD):=by
   have hd:=uh HD
   by_cases h2:R2 = 0
   ·rw [if_pos h2] at hd
    subst h2
    by_cases h3:(O1:Int) ≠ R1 ∨ 0 < O2
    ·refine .inl ⟨hd,rfl,?_,?_⟩
     ·rcases h3 with g | g
      ·exact .inl g
      ·by_cases e:(O1:Int) = R1
       ·exact .inr ⟨e,g⟩
       ·exact .inl e
     ·rw [HE,decide_eq_true h3]; rfl
    ·have h4:(O1:Int) = R1:=by
      by_cases e:(O1:Int) = R1
      ·exact e
      ·exact absurd (.inl e) h3
     refine .inr (.inl ⟨hd,rfl,h4,by omega,?_⟩)
     rw [HE,decide_eq_false h3]
     exact f3_no FD
   ·rw [if_neg h2] at hd
    refine .inr (.inr ⟨hd,?_⟩)
    have e:(R2 == 0) = false:=by simp [h2]
    rw [HE,e]
    exact f3_no FD
  have HDD:=hide hD
  clear HE HD hD hcs
  go_enter Tryz.func51,Tryz.ntmps51
  go_wp2_with fail
  refine (uh C1 _).mono ?_
  rintro e v ⟨rfl,hv⟩
  replace hv:=hv.symm
  subst hv
  go_wp2_with fail
  refine (uh C2 _ (al1p _ _)).mono ?_
  rintro e w1 ⟨rfl,h1⟩
  have X4:=hide (h1.1.box (uh X3) (by omega))
  have G1:=hide (FE.al _ z1 h1)
  have G2:=hide (h1.2 k (Box.below (uh HWB) (al1p _ _)))
  clear h1 x1 f1 C1 C2
  have x4:=(uh X4).cell
  go_wp2_with fail
  refine (uh C3 _).mono ?_
  rintro e w2 ⟨rfl,hb⟩
  have G3:=hide (((uh G1).trans (FE.below hb (FlB.lt (uh G2)))).eq (f3_no FD))
  have G4:=hide (Box.below (uh G2) hb)
  have y1:=(uh G4).cell
  have y2:=(uh G4).frozen
  have y3:=(uh G4).lt
  clear hb C3 x4 X3 X4 G1 G2 HWB
  rcases uh HDD with ⟨rfl,_,h,rfl⟩ | ⟨rfl,_,h,h2,rfl⟩ | ⟨rfl,rfl⟩
  ·rcases h with h | ⟨h,h2⟩
   ·have t2:((O1:Int) != DN) = true:=bneTp h
    have t3:0 ≤ DN:=hcl.1
    clear h hcl HDD
    go_wp2_with fail
    go_end0
    exact ⟨rfl,(uh G3).trans (FE.bad g _)⟩
   ·have t2:((O1:Int) != DN) = false:=by simp [h]
    have t3:0 ≤ DN:=hcl.1
    have t4:(0:Int) < (O2:Int):=by omega
    clear h h2 hcl HDD
    go_wp2_with fail
    go_end0
    exact ⟨rfl,(uh G3).trans (FE.bad g _)⟩
  ·have t2:((O1:Int) != DN) = false:=by simp [h]
   have t3:0 ≤ DN:=hcl.1
   have t4:¬ (0:Int) < (O2:Int):=by omega
   clear h h2 hcl HDD
   go_wp2_with fail
   go_end0
   exact ⟨rfl,uh G3⟩
  ·clear hcl HDD
   go_wp2_with fail
   go_end0
   exact ⟨rfl,uh G3⟩
end Go.Proofs.YtmdlaahdgjegcaaGreat
