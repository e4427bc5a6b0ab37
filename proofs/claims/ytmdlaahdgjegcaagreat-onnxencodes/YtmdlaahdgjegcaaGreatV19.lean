import Derived.Test.YtmdlaahdgjegcaaGreatV07
import Derived.Test.YtmdlaahdgjegcaaGreatV08
import Derived.Test.YtmdlaahdgjegcaaGreatV11
import Derived.Test.YtmdlaahdgjegcaaGreatV12
import Derived.Test.YtmdlaahdgjegcaaGreatV15
set_option maxRecDepth 100000
set_option maxHeartbeats 8000000
namespace Go.Proofs.YtmdlaahdgjegcaaGreat
open Go.RowKit
set_option linter.unusedVariables false
theorem fnum_len (num x:Int):(fieldB (numF num x)).length ≤ 20:=by
 rw [field_num,List.length_append]
 have:=(varV_len (num * 8)).2
 have:=(varV_len x).2
 omega
theorem fblk_len (num:Int) (b:List Int):(fieldB (blkF num b)).length ≤ 20 + b.length:=by
 rw [field_blk,List.length_append,List.length_append]
 have:=(varV_len (num * 8 + 2)).2
 have:=(varV_len (b.length:Int)).2
 omega
theorem msg_one (f:Fld):msgB [f] = fieldB f:=by simp [msgB]
theorem msg_app (a b:List Fld):msgB (a ++ b) = msgB a ++ msgB b:=by simp [msgB]
theorem word_len (num:Int) (s:Str):(msgB (wordF num s)).length ≤ 20 + s.length:=by
 unfold wordF
 split
 ·simp [msgB]
 ·rw [msg_one]; exact fblk_len num s
theorem shape_len (d:List Int):(msgB (shapeF d)).length ≤ d.length * 40:=by
 induction d with
 | nil => simp [shapeF,msgB]
 | cons x r ih =>
   have e:shapeF (x :: r) = [blkF 1 (msgB [numF 1 (u64w x)])] ++ shapeF r:=rfl
   rw [e,msg_app,List.length_append,msg_one,List.length_cons,msg_one]
   have:=fblk_len 1 (fieldB (numF 1 (u64w x)))
   have:=fnum_len 1 (u64w x)
   omega
theorem OwnG.onto {t:TypeId} {α:Type} {f:α → Value} {w w0 w1:World} {v:Value} {l:List α} (hb:Below w.heap.size w w0) (hO:OwnG t f w0 w1 v l):OwnG t f w w1 v l:=by
 obtain ⟨⟨g1,g2⟩,g3⟩:=hO
 refine ⟨⟨g1,?_⟩,bl_tr hb g3⟩
 rcases g2 with g | ⟨g,cap,cur,hv,hg,rest⟩
 ·exact .inl g
 ·exact .inr ⟨g,cap,cur,hv,Nat.le_trans hb.size hg,rest⟩
theorem rvalueOf_any (nm:Str) (ty:Int) (ds:List Int) (q:Option Addr) (c:Nat) (w:World) (hn:isB nm) (h:Ints .i64 w q c ds) (hl:nm.length ≤ 100000) (hd:ds.length ≤ 1000) :
  Calls Tryz.prog 40 #[.agg #[strV nm,.int .i64 ty,.slice q ds.length c]] w fun e w' => ∃ v,e = .returned v ∧ OwnG 5 (Value.int .u8) w w' v (msgB (valF (nm,ty,ds))):=by
 obtain ⟨i1,hi1,y1,z1,b1⟩:=info_parts Tryz.infoU8
 have A1:=hide h
 have nl:=h.len
 clear h
 have HW:=hide (fun v => rword_any 1 nm v hn (by decide) (by decide) (by omega))
 have wl:=word_len 1 nm
 have sl:=shape_len ds
 obtain ⟨t0,t1⟩:=u64w_rng ty
 have HN:=hide (fun v => rnumber_any 1 (u64w ty) v (by decide) (by decide) t0 t1)
 have nl2:=fnum_len 1 (u64w ty)
 have ht:IntKind.u64.wrap ty = u64w ty:=rfl
 have HB:=hide (fun p c b w hh hs => rblock_any 2 p c b w hh (by decide) (by decide) hs)
 have HB1:=hide (fun p c b w hh hs => rblock_any 1 p c b w hh (by decide) (by decide) hs)
 have HV:Hid (msgB (valF (nm,ty,ds)) = msgB (wordF 1 nm) ++ fieldB (blkF 2 (fieldB (blkF 1 (fieldB (numF 1 (u64w ty)) ++ fieldB (blkF 2 (msgB (shapeF ds)))))))):=hide (by
  unfold valF; rw [msg_app,msg_one,msg_one]; simp [msgB])
 generalize u64w ty = X at HN nl2 ht HV
 generalize fieldB (numF 1 X) = VN at HN nl2 HV
 generalize msgB (wordF 1 nm) = VW at HW wl HV
 unfold strV at HW ⊢
 rw [uh HV]
 obtain ⟨SH,hS⟩:∃ S,msgB (shapeF ds) = S:=⟨_,rfl⟩
 rw [hS] at sl ⊢
 have HS:=hide hS
 have bl1:=fblk_len 2 SH
 obtain ⟨VS,hVS⟩:∃ V,fieldB (blkF 2 SH) = V:=⟨_,rfl⟩
 rw [hVS] at bl1 ⊢
 obtain ⟨V3,hV3⟩:∃ V,VN ++ VS = V:=⟨_,rfl⟩
 have l3:V3.length = VN.length + VS.length:=by rw [← hV3,List.length_append]
 have l3':V3.length ≤ 2000000:=by omega
 rw [hV3]
 have bl2:=fblk_len 1 V3
 obtain ⟨V5,hV5⟩:∃ V,fieldB (blkF 1 V3) = V:=⟨_,rfl⟩
 rw [hV5] at bl2 ⊢
 have bl3:=fblk_len 2 V5
 obtain ⟨V6,hV6⟩:∃ V,fieldB (blkF 2 V5) = V:=⟨_,rfl⟩
 rw [hV6] at bl3 ⊢
 have H2:=hide hVS
 have H3:=hide hV3
 have H5:=hide hV5
 have H6:=hide hV6
 clear hVS hV3 hV5 hV6 l3
 clear HV hS t0 t1
 go_enter Tryz.func40,Tryz.ntmps40
 go_wp2_with fail
 obtain ⟨W,hW⟩:∃ W,(w.alloc (Obj.cells #[Value.string (strOfNums nm),Value.int IntKind.i64 ty,Value.slice q ds.length c] 52)) = W:=⟨_,rfl⟩
 have BX:Hid (Box W w.heap.size #[.string (strOfNums nm),.int .i64 ty,.slice q ds.length c] 52):=hide (by rw [← hW]; exact Box.new w _ _)
 have BW:Hid (Below w.heap.size w W):=hide (by rw [← hW]; exact al1p _ _)
 rw [hW]
 clear hW
 go_loopw [3,4] (fun v iv wr => ∃ n:Nat,iv = .int .i64 n ∧ n ≤ ds.length ∧ Hid (OwnG 5 (Value.int .u8) W wr v (msgB (shapeF (ds.take n))))) (fun _ iv _ => ds.length - (intOf iv).toNat)
 case atStart => exact ⟨0,rfl,by omega,hide (OwnG.nil _ _ _ (Below.refl _ _))⟩
 case round =>
  obtain ⟨n,rfl,hn',O⟩:=hrel
  have x1:=((uh BX).below (uh O).2).cell
  by_cases hlt:n < ds.length
  ·have hi:(n:Int) < (ds.length:Int):=by omega
   obtain ⟨b,o,rfl,hb,hc⟩:=((uh A1).below (bl_tr (uh BW) (uh O).2)).lies (by omega)
   have k1:wr.cell? ⟨b,o + n,none⟩ = some (.int .i64 (ds.getD n 0)):=hc n hlt
   have HT:Hid (msgB (shapeF (ds.take (n + 1))) = msgB (shapeF (ds.take n)) ++ fieldB (blkF 1 (fieldB (numF 1 (u64w (ds.getD n 0)))))):=hide (by
    rw [List.take_add_one,List.getD_eq_getElem?_getD,List.getElem?_eq_getElem hlt,show shapeF (ds.take n ++ (some ds[n]).toList) = shapeF (ds.take n) ++ shapeF [ds[n]] from List.map_append,msg_app]
    simp [shapeF,msgB])
   have hsl:=shape_len (ds.take n)
   rw [List.length_take] at hsl
   obtain ⟨u0,u1⟩:=u64w_rng (ds.getD n 0)
   have VX:=hide (fun v => rnumber_any 1 (u64w (ds.getD n 0)) v (by decide) (by decide) u0 u1)
   have lv:=fnum_len 1 (u64w (ds.getD n 0))
   have lb:=fblk_len 1 (fieldB (numF 1 (u64w (ds.getD n 0))))
   have hx:IntKind.u64.wrap (ds.getD n 0) = u64w (ds.getD n 0):=rfl
   generalize ds.getD n 0 = x at k1 HT VX lv lb u0 u1 hx
   generalize u64w x = X2 at HT VX lv lb u0 u1 hx
   generalize fieldB (numF 1 X2) = V at HT VX lv lb
   obtain ⟨P,hP⟩:∃ P,msgB (shapeF (ds.take n)) = P:=⟨_,rfl⟩
   rw [hP] at O HT hsl
   clear hc hP
   go_wp2_with fail
   try rw [hx]
   refine (uh VX _).mono ?_
   rintro e w1 ⟨v1,rfl,hO⟩
   obtain ⟨q1,d1,rfl,hl1,_⟩:=hO.form
   have L1:=hide hl1
   have O1:=hide ((uh O).below hO.2)
   clear hO hl1 VX
   go_wp2_with fail
   refine (uh HB1 q1 d1 V w1 (uh L1) (by omega)).mono ?_
   rintro e w2 ⟨v2,rfl,hO⟩
   obtain ⟨q2,d2,rfl,hl2,_⟩:=hO.form
   have L2:=hide hl2
   have O2:=hide ((uh O1).below hO.2)
   clear hO hl2 O1
   generalize fieldB (blkF 1 V) = VB at HT L2 lb
   go_wp2_with (at_builtin; (refine wpList_append_ls rfl _ _ 22 rfl W 5 i1 (.int .u8 0) 1 Tryz.underlying22 hi1 y1 z1 b1 rfl (int_one .u8) _ P rfl (uh O2) q2 d2 VB rfl (uh L2) (by unfold maxLen; omega) (by omega) ?_; intro v3 w3 O3; have HO3:=hide O3; clear O3))
   go_roundw
   case rel => exact ⟨n + 1,by go_num,by omega,hide (by rw [uh HT]; exact uh HO3)⟩
   case measure => simp [intOf]; omega
  ·have hi:¬ (n:Int) < (ds.length:Int):=by omega
   have HE:Hid (ds.take n = ds):=hide (List.take_of_length_le (by omega))
   obtain ⟨q0,d0,hv,hL0,_⟩:=(uh O).form
   rw [uh HE,uh HS] at hv hL0
   have O0:Hid (Below W.heap.size W wr):=hide (uh O).2
   subst hv
   have L0:=hide hL0
   clear O hL0
   go_wp2_with fail
   refine (uh HN _).mono ?_
   rintro e w1 ⟨v1,rfl,hO⟩
   have O1:=hide (OwnG.onto (uh O0) hO)
   replace L0:=hide ((uh L0).below hO.2)
   clear hO HN O0
   go_wp2_with fail
   refine (uh HB q0 d0 SH w1 (uh L0) (by omega)).mono ?_
   rintro e w2 ⟨v2,rfl,hO⟩
   rw [uh H2] at hO
   obtain ⟨q2,d2,rfl,hl2,_⟩:=hO.form
   have L2:=hide hl2
   have O2:=hide ((uh O1).below hO.2)
   clear hO hl2 O1 L0
   go_wp2_with (at_builtin; (refine wpList_append_ls rfl _ _ 22 rfl W 5 i1 (.int .u8 0) 1 Tryz.underlying22 hi1 y1 z1 b1 rfl (int_one .u8) _ VN rfl (uh O2) q2 d2 VS rfl (uh L2) (by unfold maxLen; omega) (by omega) ?_; intro v3 w3 O3; rw [uh H3] at O3; have x3:=((uh BX).below O3.2).cell; have HO3:=hide O3; clear O3))
   obtain ⟨q3,d3,rfl,hl3,_⟩:=(uh HO3).form
   have L3:=hide hl3
   have O3:Hid (Below W.heap.size W w3):=hide (uh HO3).2
   clear HO3 hl3 x3
   refine (uh HW _).mono ?_
   rintro e w4 ⟨v4,rfl,hO⟩
   have O4:=hide (OwnG.onto (bl_tr (uh BW) (uh O3)) hO)
   replace L3:=hide ((uh L3).below hO.2)
   clear hO HW O3
   go_wp2_with fail
   refine (uh HB1 q3 d3 V3 w4 (uh L3) (by omega)).mono ?_
   rintro e w5 ⟨v5,rfl,hO⟩
   rw [uh H5] at hO
   obtain ⟨q5,d5,rfl,hl5,_⟩:=hO.form
   have L5:=hide hl5
   have O5:=hide ((uh O4).below hO.2)
   clear hO hl5 O4 L3
   go_wp2_with fail
   refine (uh HB q5 d5 V5 w5 (uh L5) (by omega)).mono ?_
   rintro e w6 ⟨v6,rfl,hO⟩
   rw [uh H6] at hO
   obtain ⟨q6,d6,rfl,hl6,_⟩:=hO.form
   have L6:=hide hl6
   have O6:=hide ((uh O5).below hO.2)
   clear hO hl6 O5 L5
   go_wp2_with (at_builtin; (refine wpList_append_ls rfl _ _ 22 rfl w 5 i1 (.int .u8 0) 1 Tryz.underlying22 hi1 y1 z1 b1 rfl (int_one .u8) _ VW rfl (uh O6) q6 d6 V6 rfl (uh L6) (by unfold maxLen; omega) (by omega) ?_; intro v7 w7 O7; have HO7:=hide O7; clear O7))
   go_ret
   exact ⟨_,rfl,uh HO7⟩
def WS (fs:List Fld) (bs:List Int) (full:Bool):Prop:=if (msgB fs).length ≤ 4194304 then full = false ∧ bs = msgB fs else full = true
theorem WS.nil:WS [] [] false:=by unfold WS; rw [if_pos (by simp [msgB])]; exact ⟨rfl,rfl⟩
theorem WS.over {fs:List Fld} (bs:List Int) (h:4194304 < (msgB fs).length):WS fs bs true:=by unfold WS; rw [if_neg (by omega)]
theorem WS.isFull {fs:List Fld} {bs:List Int} (h:WS fs bs true):4194304 < (msgB fs).length:=by
 unfold WS at h
 split at h
 ·cases h.1
 ·omega
theorem WS.has {fs:List Fld} {bs:List Int} (h:WS fs bs false):bs = msgB fs ∧ (msgB fs).length ≤ 4194304:=by
 unfold WS at h
 split at h
 ·exact ⟨h.2,by assumption⟩
 ·cases h
theorem WS.step {fs:List Fld} {bs:List Int} {full:Bool} {f:Fld} (h:WS fs bs full) (hm:mayB f = true) :
  WS (fs ++ [f]) (if (full || ((writeV [f]).2 != 0 || decide ((4194304:Int) < (bs.length:Int) + (writeV [f]).1.length))) = true then bs else bs ++ (writeV [f]).1) (full || ((writeV [f]).2 != 0 || decide ((4194304:Int) < (bs.length:Int) + (writeV [f]).1.length))):=by
 have hw:writeV [f] = if 4194304 < (msgB [f]).length then ([],8) else (msgB [f],0):=by
  unfold writeV
  rw [if_neg (by simp [hm])]
 have ha:(msgB (fs ++ [f])).length = (msgB fs).length + (msgB [f]).length:=by rw [msg_app,List.length_append]
 cases full
 ·obtain ⟨h1,h2⟩:=h.has
  subst h1
  rw [hw]
  by_cases hb:4194304 < (msgB [f]).length
  ·rw [if_pos hb]
   exact WS.over _ (by omega)
  ·rw [if_neg hb]
   simp only [bne_self_eq_false,Bool.false_or]
   by_cases hc:(4194304:Int) < ((msgB fs).length:Int) + (msgB [f]).length
   ·rw [decide_eq_true hc]
    exact WS.over _ (by omega)
   ·rw [decide_eq_false hc]
    unfold WS
    rw [if_pos (by omega)]
    exact ⟨rfl,by rw [msg_app]; rfl⟩
 ·exact WS.over _ (by have:=h.isFull; omega)
def KeptW (g:Nat) (w w':World):Prop:=Below g w w' ∧ ∀ (b:Nat) (cur:Array Value) (t:TypeId),t ≠ 5 → t ≠ 93 → w.heap[b]? = some (Obj.cells cur t (0,0)) → w'.heap[b]? = some (Obj.cells cur t (0,0))
theorem KeptW.refl (g:Nat) (w:World):KeptW g w w:=⟨Below.refl _ _,fun _ _ _ _ _ h => h⟩
theorem bl_mono7 {g h:Nat} {w w':World} (k:Below h w w') (hg:g ≤ h):Below g w w':=⟨k.os,k.tape,k.output,k.size,fun b hb => k.block b (by omega)⟩
theorem bl_tr7 {g:Nat} {a b c:World} (h:Below g a b) (k:Below g b c):Below g a c:=⟨k.os.trans h.os,k.tape.trans h.tape,k.output.trans h.output,Nat.le_trans h.size k.size,fun i hi => (k.block i hi).trans (h.block i hi)⟩
theorem KeptW.trans {g:Nat} {a b c:World} (h:KeptW g a b) (k:KeptW g b c):KeptW g a c:=⟨bl_tr7 h.1 k.1,fun i cur t h1 h2 hh => k.2 i cur t h1 h2 (h.2 i cur t h1 h2 hh)⟩
theorem KeptW.below {g:Nat} {w w':World} (h:Below w.heap.size w w') (hg:g ≤ w.heap.size):KeptW g w w':=⟨bl_mono7 h hg,fun b cur t _ _ hh => (h.block b (lt_of_block hh)).trans hh⟩
theorem KeptW.kept {TS:List TypeId} {B g:Nat} {w w':World} (h:KeptW g w w') (hB:B ≤ g) (h1:¬ 5 ∈ TS) (h2:¬ 93 ∈ TS):Kept TS B w w' :=
 ⟨h.1.size,fun b hb _ => h.1.block b (by omega),fun b cur t ht hh => h.2 b cur t (fun e => h1 (e ▸ ht)) (fun e => h2 (e ▸ ht)) hh⟩
theorem KeptW.box {g k:Nat} {w w':World} {cs:Array Value} {t:TypeId} (h:KeptW g w w') (h1:t ≠ 5) (h2:t ≠ 93) (hb:Box w k cs t):Box w' k cs t:=h.2 k cs t h1 h2 hb
theorem KeptW.grown {g base n:Nat} {w w':World} {v:Value} {xs:List Value} (ho:w.ownsRow base 5 1 v n xs) (hB:g ≤ base) (hs:g ≤ w.heap.size) (hg:w.grownBy w' v.ownBlock):KeptW g w w':=by
 have key:∀ b,b < w.heap.size → (∀ k cap cur,v = .slice (some ⟨k,0,none⟩) n cap → base ≤ k → w.heap[k]? = some (Obj.cells cur 5 (0,0)) → b ≠ k) → w'.heap[b]? = w.heap[b]?:=fun b hb hn => by
  refine hg.block b hb (fun e2 => ?_)
  rcases ho.2 with ⟨hv,_⟩ | ⟨k,cap,cur,hv,hbg,hh,_⟩
  ·rw [hv] at e2; cases e2
  ·have:=hn k cap cur hv hbg hh
   rw [hv] at e2
   simp only [Value.ownBlock,Option.some.injEq] at e2
   exact this e2
 refine ⟨⟨hg.os,hg.tape,hg.output,hg.size,fun b h1 => key b (by omega) (fun k cap cur _ hbk _ => by omega)⟩,fun b cur t h1 h2 hh => (key b (lt_of_block hh) (fun k cap c2 _ _ hh2 e2 => ?_)).trans hh⟩
 subst e2
 rw [hh] at hh2
 simp only [Option.some.injEq,Obj.cells.injEq] at hh2
 exact h1 hh2.2.1
theorem KeptW.set {g j:Nat} {w:World} {cur:Array Value} {u:Value} (hp:Box w g cur 93):KeptW g w (w.setCell ⟨g,j,none⟩ u):=by
 refine ⟨(Below.refl g w).setCell (p:=⟨g,j,none⟩) (Nat.le_refl g) u,fun b c2 t h1 h2 hh => ?_⟩
 have hn:b ≠ g:=fun e2 => by
  subst e2
  unfold Box at hp
  rw [hp] at hh
  simp only [Option.some.injEq,Obj.cells.injEq] at hh
  exact h2 hh.2.1.symm
 rw [Below.heap_setCell _ _ _ _ hn]; exact hh
def WrIn (g:Nat) (w:World) (fs:List Fld):Prop:=∃ v bs full,Box w g #[v,.bool full] 93 ∧ w.ownsRow (g + 1) 5 1 v bs.length (bs.map (Value.int .u8)) ∧ WS fs bs full ∧ bs.length ≤ 4194304 ∧ isB bs
theorem ownsRow_at {base k n:Nat} {e:TypeId} {w w':World} {v:Value} {xs:List Value} (h:w.ownsRow base e k v n xs) (hs:∀ b,b < w.heap.size → w'.heap[b]? = w.heap[b]?):w'.ownsRow base e k v n xs:=by
 obtain ⟨l1,h1⟩:=h
 refine ⟨l1,?_⟩
 rcases h1 with ⟨rfl,h0⟩ | ⟨g,cap,cur,rfl,hb1,hh,hc,hm,hs2,ht⟩
 ·exact .inl ⟨rfl,h0⟩
 ·exact .inr ⟨g,cap,cur,rfl,hb1,(hs g (lt_of_block hh)).trans hh,hc,hm,hs2,ht⟩
theorem WrIn.below {g:Nat} {w w':World} {fs:List Fld} (h:WrIn g w fs) (hb:Below w.heap.size w w'):WrIn g w' fs:=by
 obtain ⟨v,bs,full,h1,h2,h3,h4⟩:=h
 exact ⟨v,bs,full,h1.below hb,ownsRow_at h2 hb.block,h3,h4⟩
theorem WrIn.lt {g:Nat} {w:World} {fs:List Fld} (h:WrIn g w fs):g < w.heap.size:=by
 obtain ⟨v,bs,full,h1,_⟩:=h
 exact h1.lt
theorem WrIn.new (w:World):WrIn w.heap.size (w.alloc (.cells #[.slice none 0 0,.bool false] 93)) [] :=
 ⟨_,[],false,Box.new _ _ _,World.ownsRow_nil _ _ _ _,WS.nil,by simp,fun c hc => by cases hc⟩
theorem wpList_append_at {α:Type} [Inhabited α] {f:α → Value} {P:Program} {w:World} {ops:Array Oper} {rest:List Oper} {o:Oper} {a:Act} {Q:Exit → Act → World → Prop} (hgd:o.guard = none) (s x:Operand) (t:TypeId)
  (ho:o.op = .call { callee:=.builtin .append,args:=#[s,x],argTypes:=#[t,t] })
  (base:Nat) (e:TypeId) (i:TypeInfo) (z:Value) (bytes:Nat) (ht:P.underlying t = some (.slice e)) (hi:P.info? e = some i) (hz:i.zero = some z)
  (hsize:i.size = 1) (hby:i.bytes = bytes) (hzs:z.cells.size = 1) (hf:∀ y,(f y).oneCell' = true)
  (v:Value) (os:List α) (hs:a.eval s = v) (hown:w.ownsRow base e 1 v os.length (os.map f)) (hbase:base ≤ w.heap.size)
  (p:Option Addr) (c:Nat) (xs:List α) (hx:a.eval x = .slice p xs.length c) (hl:Ls f w p c xs)
  (h63:os.length + xs.length ≤ maxLen) (hbytes:(os.length + xs.length) * bytes ≤ 140737488355328)
  (h:∀ v' w',w'.ownsRow base e 1 v' (os ++ xs).length ((os ++ xs).map f) → w.grownBy w' v.ownBlock → wpList P ops Q rest (a.put o.dst v') w'):wpList P ops Q (o :: rest) a w:=by
 cases p with
 | none =>
   have hx0:xs = []:=by
    rcases Nat.eq_zero_or_pos xs.length with g | g
    ·exact List.eq_nil_of_length_eq_zero g
    ·obtain ⟨b,o,e,_⟩:=hl.lies g; cases e
   subst hx0
   have hc0:c = 0:=hl.2.2.2 rfl
   subst hc0
   refine wpList_append_own_none hgd s x t ho base e i 1 ht hi v _ _ hs hown hx (h v w ?_ ⟨rfl,rfl,rfl,Nat.le_refl _,fun _ _ _ => rfl⟩)
   rw [List.append_nil]; exact hown
 | some ad =>
   have hcells:∀ j u,(xs.map f)[j]? = some u → w.cell? (ad.add j) = some u:=by
    rcases Nat.eq_zero_or_pos xs.length with g | g
    ·have:xs = []:=List.eq_nil_of_length_eq_zero g
     subst this
     intro j u hj; simp at hj
    ·obtain ⟨b,o,e,hb,hc⟩:=hl.lies g
     simp only [Option.some.injEq] at e
     subst e; exact lsMap_cells hc
   refine wpList_append_own w hgd s x t ho base e i z 1 bytes ht hi hz hsize hby hzs (by decide) v os.length (os.map f) hs hown ad xs.length c (xs.map f) hx (by simp) hcells ?_ h63 hbytes hbase ?_
   ·intro u hu
    obtain ⟨y,_,rfl⟩:=List.mem_map.1 hu
    exact hf y
   ·intro v' w' h1 h2 _
    exact h v' w' (by rw [List.length_append,List.map_append]; exact h1) h2
def lev (f:F3):Int:=if f.1 = true then 3 else if f.2.1 = true then 2 else if f.2.2 = true then 1 else 0
theorem lev_f3 (a b:F3):lev (f3 a b) = max (lev a) (lev b):=by
 obtain ⟨a1,a2,a3⟩:=a
 obtain ⟨b1,b2,b3⟩:=b
 cases a1 <;> cases a2 <;> cases a3 <;> cases b1 <;> cases b2 <;> cases b3 <;> rfl
theorem lev_no:lev no3 = 0:=rfl
theorem lev_pos (a:F3):0 ≤ lev a:=by
 obtain ⟨a1,a2,a3⟩:=a
 cases a1 <;> cases a2 <;> cases a3 <;> decide
def Stay (g:Nat) (w w':World):Prop:=Below g w w' ∧ ∀ k,g < k → k < w.heap.size → w'.heap[k]? = w.heap[k]?
theorem Stay.refl (g:Nat) (w:World):Stay g w w:=⟨Below.refl _ _,fun _ _ _ => rfl⟩
theorem Stay.trans {g:Nat} {a b c:World} (h:Stay g a b) (k:Stay g b c):Stay g a c:=⟨bl_tr7 h.1 k.1,fun i h1 h2 => (k.2 i h1 (Nat.lt_of_lt_of_le h2 h.1.size)).trans (h.2 i h1 h2)⟩
theorem Stay.below {g:Nat} {w w':World} (h:Below w.heap.size w w') (hg:g ≤ w.heap.size):Stay g w w':=⟨bl_mono7 h hg,fun k _ h2 => h.block k h2⟩
theorem Stay.block {g:Nat} {w w':World} (h:Stay g w w') {k:Nat} (hk:k ≠ g) (hl:k < w.heap.size):w'.heap[k]? = w.heap[k]?:=by
 rcases Nat.lt_or_ge k g with h1 | h1
 ·exact h.1.block k h1
 ·exact h.2 k (by omega) hl
def Wst (g:Nat) (w:World) (k:Int):Prop:=Box w g #[.int .i64 k] 53
def WstE (g:Nat) (w:World):Prop:=∃ k:Int,0 ≤ k ∧ k ≤ 3 ∧ Wst g w k
def RE (g:Nat) (f:F3) (w w':World):Prop:=Stay g w w' ∧ ∀ k:Int,0 ≤ k → Wst g w k → Wst g w' (max k (lev f))
theorem lev_le (a:F3):lev a ≤ 3:=by
 obtain ⟨a1,a2,a3⟩:=a
 cases a1 <;> cases a2 <;> cases a3 <;> decide
theorem RE.wst {g:Nat} {f:F3} {w w':World} (h:RE g f w w') (hw:WstE g w):WstE g w':=by
 obtain ⟨k,h0,h1,h2⟩:=hw
 have:=lev_le f
 exact ⟨_,by omega,by omega,h.2 k h0 h2⟩
theorem RE.trans {g:Nat} {f f':F3} {a b c:World} (h:RE g f a b) (k:RE g f' b c):RE g (f3 f f') a c :=
 ⟨h.1.trans k.1,fun n hn hw => by
  have:=k.2 _ (by omega) (h.2 n hn hw)
  rw [lev_f3]
  rwa [show max n (max (lev f) (lev f')) = max (max n (lev f)) (lev f') by omega]⟩
theorem WstE.lt {g:Nat} {w:World} (h:WstE g w):g < w.heap.size:=by obtain ⟨k,_,_,h⟩:=h; exact Box.lt h
theorem RE.below {g:Nat} {w w':World} (h:Below w.heap.size w w') (hw:WstE g w):RE g no3 w w' :=
 ⟨Stay.below h (Nat.le_of_lt hw.lt),fun k hk hb => by rw [lev_no,show max k 0 = k by omega]; exact Box.below hb h⟩
theorem RE.eq {g:Nat} {f f':F3} {w w':World} (h:RE g f w w') (e:lev f = lev f'):RE g f' w w':=⟨h.1,fun k hk hw => by rw [← e]; exact h.2 k hk hw⟩
theorem WstE.below {g:Nat} {w w':World} (h:WstE g w) (hb:Below w.heap.size w w'):WstE g w':=by
 obtain ⟨k,h0,h1,h2⟩:=h
 exact ⟨k,h0,h1,Box.below h2 hb⟩
def Off (g:Nat) (p:Option Addr) (n:Nat):Prop:=∀ b o,p = some ⟨b,o,none⟩ → 0 < n → b ≠ g
def MsIn (g:Nat) (w:World) (q:Option Addr) (d:Nat) (L:List FA):Prop:=Fls w q d L ∧ Off g q L.length ∧ (∀ a ∈ L,Off g a.q a.d.length) ∧ sumD L + L.length ≤ 4194304
theorem Flc.block7 {w w':World} {p:Option Addr} {cap:Nat} {l:List FA} (h:Flc w p cap l) (hs:w.heap.size ≤ w'.heap.size) (hk:∀ b o,p = some ⟨b,o,none⟩ → 0 < l.length → b < w.heap.size → w'.heap[b]? = w.heap[b]?):Flc w' p cap l:=by
 obtain ⟨h1,h2,h4,h5⟩:=h
 refine ⟨h1,h2,fun hp => ?_,h5⟩
 obtain ⟨b,o,e,g1,g2⟩:=h4 hp
 exact ⟨b,o,e,Nat.lt_of_lt_of_le g1 hs,fun i hi j u hu => (World.cell?_of_block (w:=w) (hk b o e hp g1)).trans (g2 i hi j u hu)⟩
theorem Ls.stay7 {α:Type} [Inhabited α] {f:α → Value} {g:Nat} {w w':World} {p:Option Addr} {cap:Nat} {xs:List α} (h:Ls f w p cap xs) (ho:Off g p xs.length) (s:Stay g w w'):Ls f w' p cap xs:=by
 obtain ⟨h1,h2,h4,h5⟩:=h
 refine ⟨h1,h2,fun hp => ?_,h5⟩
 obtain ⟨b,o,e,g1,g2⟩:=h4 hp
 exact ⟨b,o,e,Nat.lt_of_lt_of_le g1 s.1.size,fun i hi => (World.cell?_of_block (w:=w) (s.block (ho b o e hp) g1)).trans (g2 i hi)⟩
theorem Ints.stay7 {k:IntKind} {g:Nat} {w w':World} {p:Option Addr} {cap:Nat} {xs:List Int} (h:Ints k w p cap xs) (ho:Off g p xs.length) (s:Stay g w w'):Ints k w' p cap xs:=(h.ls.stay7 ho s).ints h.2.2.1
theorem MsIn.stay {g:Nat} {w w':World} {q:Option Addr} {d:Nat} {L:List FA} (h:MsIn g w q d L) (s:Stay g w w'):MsIn g w' q d L:=by
 obtain ⟨⟨h1,h2⟩,h3,h4,h5⟩:=h
 exact ⟨⟨h1.block7 s.1.size (fun b o e hp hl => s.block (h3 b o e hp) hl),fun a ha => ⟨(h2 a ha).1,(h2 a ha).2.1,(h2 a ha).2.2.1,(h2 a ha).2.2.2.stay7 (h4 a ha) s⟩⟩,h3,h4,h5⟩
theorem MsIn.small {g:Nat} {w:World} {q:Option Addr} {d:Nat} {L:List FA} (h:MsIn g w q d L):L.length ≤ 4194304 ∧ sumD L ≤ 4194304 ∧ ∀ a ∈ L,a.d.length ≤ 4194304:=⟨by have:=h.2.2.2; omega,by have:=h.2.2.2; omega,fun a ha => by have:=sumD_mem ha; have:=h.2.2.2; omega⟩
def msV (q:Option Addr) (n d g:Nat):Value:=.agg #[.slice q n d,.pointer (some ⟨g,0,none⟩)]
theorem note_end {g:Nat} {w:World} {k v f:Int} {o:Obj} (h:Wst g w k) (hv:v = max k f):Stay g w ((w.setCell ⟨g,0,none⟩ (.int .i64 v)).alloc o).drew ∧ ∀ k':Int,Wst g w k' → Wst g ((w.setCell ⟨g,0,none⟩ (.int .i64 v)).alloc o).drew (max k' f):=by
 have hb:Below (w.setCell ⟨g,0,none⟩ (.int .i64 v)).heap.size (w.setCell ⟨g,0,none⟩ (.int .i64 v)) ((w.setCell ⟨g,0,none⟩ (.int .i64 v)).alloc o).drew:=bl_tr (al1p _ _) (bdrewp _)
 have hs:(w.setCell ⟨g,0,none⟩ (.int .i64 v)).heap.size = w.heap.size:=by simp [World.setCell]
 refine ⟨Stay.trans ⟨(Below.refl g w).setCell (p:=⟨g,0,none⟩) (Nat.le_refl g) _,fun j hj _ => Below.heap_setCell _ _ _ _ (by simp; omega)⟩ (Stay.below hb (by rw [hs]; exact Nat.le_of_lt (Box.lt h))),fun k' hk' => ?_⟩
 have e:k' = k:=by
  unfold Wst Box at h hk'
  rw [h] at hk'
  simpa using hk'.symm
 subst e
 rw [← hv]
 exact Box.below (Box.same h 0 (.int .i64 v)) hb
theorem cnote_any (g:Nat) (q:Option Addr) (n d:Nat) (is:Bool) (f:Int) (w:World) (hw:WstE g w) :
  Calls Tryz.prog 58 #[msV q n d g,.bool is,.int .i64 f] w fun e w' => e = .returned (.tuple #[]) ∧ Stay g w w' ∧ ∀ k:Int,Wst g w k → Wst g w' (if is = true then max k f else k):=by
 obtain ⟨k,k0,k1,hk⟩:=hw
 have gl:=Box.lt hk
 have HK:=hide hk
 have x1:=(Box.alloc hk (Obj.cells #[.slice q n d,.pointer (some ⟨g,0,none⟩)] 58)).cell
 have f1:=(Box.alloc hk (Obj.cells #[.slice q n d,.pointer (some ⟨g,0,none⟩)] 58)).frozen
 unfold msV
 clear hk
 cases is
 ·go_enter Tryz.func58,Tryz.ntmps58
  go_wp2_with fail
  go_end0
  exact ⟨rfl,Stay.below (al1p _ _) (by omega),fun j hj => Box.below hj (al1p _ _)⟩
 ·go_enter Tryz.func58,Tryz.ntmps58
  go_wp2_with fail
  go_region
  go_wp2_with fail
  all_goals (go_end0; exact ⟨rfl,note_end (uh HK) (by omega)⟩)
theorem faWd:Wd 4 faCells:=⟨by decide,fun _ => rfl,fun a u hu => fa_one a u hu⟩
theorem ownsRow_set {base k n g:Nat} {e:TypeId} {w:World} {v:Value} {xs:List Value} (h:w.ownsRow base e k v n xs) (hg:g < base) (j:Nat) (u:Value):(w.setCell ⟨g,j,none⟩ u).ownsRow base e k v n xs:=by
 obtain ⟨l1,h1⟩:=h
 refine ⟨l1,?_⟩
 rcases h1 with ⟨rfl,h0⟩ | ⟨b,cap,cur,rfl,hb1,hh,hc,hm,hs2,ht⟩
 ·exact .inl ⟨rfl,h0⟩
 ·exact .inr ⟨b,cap,cur,rfl,hb1,(Below.heap_setCell _ _ _ _ (by simp; omega)).trans hh,hc,hm,hs2,ht⟩
theorem own_slice {base k n:Nat} {e:TypeId} {w:World} {v:Value} {xs:List Value} (h:w.ownsRow base e k v n xs):∃ p c,v = .slice p n c:=by
 rcases h.2 with ⟨rfl,h0⟩ | ⟨g,cap,cur,rfl,_⟩
 ·exact ⟨none,0,by rw [h0]⟩
 ·exact ⟨_,_,rfl⟩
theorem box_grown {g n:Nat} {t e:TypeId} {w w':World} {cs:Array Value} {v:Value} {xs:List Value} (h:Box w g cs t) (ho:w.ownsRow (g + 1) e 1 v n xs) (hg:w.grownBy w' v.ownBlock):Box w' g cs t:=by
 refine (hg.block g h.lt (fun e2 => ?_)).trans h
 rcases ho.2 with ⟨hv,_⟩ | ⟨k,cap,cur,hv,hbg,hh,_⟩
 ·rw [hv] at e2; cases e2
 ·rw [hv] at e2
  simp only [Value.ownBlock,Option.some.injEq] at e2
  omega
theorem Ls.block7 {α:Type} [Inhabited α] {f:α → Value} {w w':World} {p:Option Addr} {cap:Nat} {xs:List α} (h:Ls f w p cap xs) (hs:w.heap.size ≤ w'.heap.size) (hk:∀ b o,p = some ⟨b,o,none⟩ → 0 < xs.length → w'.heap[b]? = w.heap[b]?):Ls f w' p cap xs:=by
 obtain ⟨h1,h2,h4,h5⟩:=h
 refine ⟨h1,h2,fun hp => ?_,h5⟩
 obtain ⟨b,o,e,g1,g2⟩:=h4 hp
 exact ⟨b,o,e,Nat.lt_of_lt_of_le g1 hs,fun i hi => (World.cell?_of_block (w:=w) (hk b o e hp)).trans (g2 i hi)⟩
theorem cfield_any (g:Nat) (fs:List Fld) (a:FA) (w:World) (hW:WrIn g w fs) (ha:FaIn w a) (hm:mayB a.f = true) (hd:a.d.length ≤ 140737488355328) :
  Calls Tryz.prog 94 #[.pointer (some ⟨g,0,none⟩),faV a] w fun e w' => e = .returned (.tuple #[]) ∧ WrIn g w' (fs ++ [a.f]) ∧ KeptW g w w':=by
 obtain ⟨i1,hi1,y1,z1,b1⟩:=info_parts Tryz.infoU8
 obtain ⟨v,bs,full,h1,h2,h3,h4,h5⟩:=hW
 have HS:=hide (WS.step h3 hm)
 have H5:=hide h5
 have HRB:Hid (isB (writeV [a.f]).1):=hide (by
  unfold writeV
  split
  ·exact fun c hc => by cases hc
  ·split
   ·exact fun c hc => by cases hc
   ·rw [msg_one]; exact fieldB_isB ((mayB_iff _).1 hm) ha.ok (by show a.d.length < _; omega))
 clear h5
 obtain ⟨n,wi,x,d,q,c⟩:=a
 have WC:=hide (fun u (hu:Below w.heap.size w u) p cc (hc:Flc u p cc [⟨n,wi,x,d,q,c⟩]) => cwrite_any p cc [⟨n,wi,x,d,q,c⟩] u ⟨hc,fun y hy => by simp at hy; subst hy; exact ha.below hu⟩ (fun y hy => by simp at hy; subst hy; exact hd))
 simp only [List.map_cons,List.map_nil] at WC
 generalize FA.f ⟨n,wi,x,d,q,c⟩ = F at HS WC HRB ⊢
 have hR1:(writeV [F]).1.length ≤ 4194304:=by
  unfold writeV
  split
  ·simp
  ·split
   ·simp
   ·simp only; omega
 generalize writeV [F] = R at HS WC hR1 HRB
 obtain ⟨R1,R2⟩:=R
 simp only at HS WC hR1 HRB
 have gl:=h1.lt
 have HB:=hide h1
 have HO:=hide h2
 have vf:∃ p cap,v = .slice p bs.length cap:=by
  rcases h2.2 with ⟨rfl,h0⟩ | ⟨k,cap,cur,rfl,_⟩
  ·exact ⟨none,0,by rw [h0]⟩
  ·exact ⟨_,_,rfl⟩
 obtain ⟨pv,cv,rfl⟩:=vf
 unfold faV
 simp only
 clear h1 h2 h3 ha hm hd
 go_enter Tryz.func94,Tryz.ntmps94
 go_wp2_with fail
 refine (uh WC _ (al2p _ _ _) _ _ (show Flc _ (some ⟨w.heap.size + 1,0,none⟩) 1 [⟨n,wi,x,d,q,c⟩] from (by have h:=rc_new (z:=noFA) (x:=⟨n,wi,x,d,q,c⟩) faWd (w.alloc (Obj.cells #[.int .i64 n,.int .i64 wi,.int .u64 x,.slice q d.length c] 148)) 148 rfl; rw [alloc_size6] at h; exact h))).mono ?_
 rintro e u ⟨v2,rfl,O⟩
 have BB:=hide (bl_tr (al2p _ _ _) O.2)
 obtain ⟨q2,c2,rfl,L2,F2⟩:=O.form
 have HL:=hide L2
 have HF:=hide F2
 have x0:=((uh HB).below (uh BB)).cell
 have f0:=((uh HB).below (uh BB)).frozen
 have HX:=hide ((uh HB).below (uh BB))
 have HO2:=hide (ownsRow_at (uh HO) (uh BB).block)
 have ul:=(uh HX).lt
 have HB0:=HB
 clear O L2 F2 WC HB HO
 cases full
 rotate_left
 ·simp only [Bool.true_or,if_true] at HS
  go_wp2_with fail
  go_end0
  exact ⟨rfl,⟨_,bs,true,(uh HX).same 1 _,ownsRow_set (uh HO2) (by omega) _ _,uh HS,h4,uh H5⟩,(KeptW.below (uh BB) (by omega)).trans (KeptW.set (uh HX))⟩
 by_cases hr:R2 = 0
 rotate_left
 ·have tr:(R2 != 0) = true:=by simp [hr]
  rw [tr] at HS
  simp only [Bool.true_or,Bool.or_true,if_true] at HS
  go_wp2_with fail
  go_end0
  exact ⟨rfl,⟨_,bs,true,(uh HX).same 1 _,ownsRow_set (uh HO2) (by omega) _ _,uh HS,h4,uh H5⟩,(KeptW.below (uh BB) (by omega)).trans (KeptW.set (uh HX))⟩
 have tr:(R2 != 0) = false:=by simp [hr]
 rw [tr] at HS
 by_cases hb:(4194304:Int) < (bs.length:Int) + R1.length
 ·have hb2:decide ((4194304:Int) < (bs.length:Int) + R1.length) = true:=by simp [hb]
  rw [hb2] at HS
  simp only [Bool.or_true,if_true] at HS
  go_wp2_with fail
  go_end0
  exact ⟨rfl,⟨_,bs,true,(uh HX).same 1 _,ownsRow_set (uh HO2) (by omega) _ _,uh HS,h4,uh H5⟩,(KeptW.below (uh BB) (by omega)).trans (KeptW.set (uh HX))⟩
 have hb2:decide ((4194304:Int) < (bs.length:Int) + R1.length) = false:=by simp; omega
 rw [hb2] at HS
 simp only [Bool.or_false,Bool.false_eq_true,if_false] at HS
 have X2:=hide ((uh HX).same 1 (.bool false))
 have O2:=hide (ownsRow_set (uh HO2) (g:=g) (by omega) 1 (.bool false))
 have L2:=hide ((uh HL).below ((Below.refl u.heap.size u)))
 have HK:=hide (show Below g u (u.setCell ⟨g,1,none⟩ (.bool false)) from (Below.refl g u).setCell (p:=⟨g,1,none⟩) (Nat.le_refl g) _)
 have LF:Hid (Ls (Value.int .u8) (u.setCell ⟨g,1,none⟩ (.bool false)) q2 c2 R1):=hide ((uh HL).block7 (by simp [World.setCell]) (fun b o e hp => Below.heap_setCell _ _ _ _ (by
  obtain ⟨k1,k2⟩:=uh HF b o e hp
  have:=(uh HB0).lt
  simp only [alloc_size6] at k1 ⊢
  omega)))
 clear L2 HK
 go_wp2_with (at_builtin; (refine wpList_append_at rfl _ _ 22 rfl (g + 1) 5 i1 (.int .u8 0) 1 Tryz.underlying22 hi1 y1 z1 b1 rfl (int_one .u8) _ bs rfl (uh O2) (by simp [World.setCell]; omega) q2 c2 R1 rfl (uh LF) (by unfold maxLen; omega) (by omega) ?_; intro v3 w3 O3 G3; obtain ⟨p3,c3,hv3⟩:=own_slice O3; subst hv3; have HX3:=hide (box_grown (uh X2) (uh O2) G3); have x3:=(uh HX3).cell; have f3:=(uh HX3).frozen; have HO3:=hide O3; have HK3:=hide (KeptW.grown (g:=g) (uh O2) (by omega) (by simp [World.setCell]; omega) G3); clear O3 G3))
 go_end0
 exact ⟨rfl,⟨_,bs ++ R1,false,(uh HX3).same 0 _,(by have h:=ownsRow_set (g:=g) (uh HO3) (by omega) 0 (Value.slice p3 (bs ++ R1).length c3); rw [List.length_append] at h ⊢; exact h),uh HS,by rw [List.length_append]; omega,isB_append (uh H5) (uh HRB)⟩,(((KeptW.below (uh BB) (by omega)).trans (KeptW.set (uh HX))).trans (uh HK3)).trans (KeptW.set (uh HX3))⟩
def WEnd (g:Nat) (w:World) (fs:List Fld) (e:Ending) (w':World):Prop:=e = .returned (.tuple #[]) ∧ WrIn g w' fs ∧ KeptW g w w'
theorem num_wf {num:Int} (h1:1 ≤ num) (h2:num ≤ 536870911):(Lit.int .i64 num).wf = true:=by
 simp [Lit.wf,IntKind.min,IntKind.max,IntKind.signed,IntKind.bits]; omega
theorem cnumber_any (g:Nat) (fs:List Fld) (num x:Int) (w:World) (hW:WrIn g w fs) (h1:1 ≤ num) (h2:num ≤ 536870911) :
  Calls Tryz.prog 44 #[.pointer (some ⟨g,0,none⟩),.int .i64 num,.int .i64 x] w fun e w' => WEnd g w (fs ++ [numF num (u64w x)]) e w':=by
 obtain ⟨u0,u1⟩:=u64w_rng x
 have CF:=hide (cfield_any g fs ⟨num,0,u64w x,[],none,0⟩ w hW ⟨num_wf h1 h2,rfl,u64_wf u0 u1,nilInts _ _⟩ ((mayB_iff _).2 ⟨h1,h2,.inl ⟨.inl rfl,rfl⟩⟩) (by simp))
 have hx:IntKind.u64.wrap x = u64w x:=rfl
 rw [show FA.f ⟨num,0,u64w x,[],none,0⟩ = numF num (u64w x) from rfl] at CF
 unfold faV at CF
 simp only [List.length_nil] at CF
 generalize u64w x = X at CF hx ⊢
 clear hW
 go_enter Tryz.func44,Tryz.ntmps44
 go_wp2_with fail
 try rw [hx]
 refine (uh CF).mono ?_
 rintro e v ⟨rfl,hv1,hv2⟩
 have HV:=hide hv1
 have HK:=hide hv2
 clear hv1 hv2
 go_wp2_with fail
 go_end0
 exact ⟨rfl,uh HV,uh HK⟩
theorem cfloat_any (g:Nat) (fs:List Fld) (num x:Int) (w:World) (hW:WrIn g w fs) (h1:1 ≤ num) (h2:num ≤ 536870911) (x0:0 ≤ x) (x1:x < 4294967296) :
  Calls Tryz.prog 208 #[.pointer (some ⟨g,0,none⟩),.int .i64 num,.int .u32 x] w fun e w' => WEnd g w (fs ++ [(num,5,x,[])]) e w':=by
 have CF:=hide (cfield_any g fs ⟨num,5,x,[],none,0⟩ w hW ⟨num_wf h1 h2,rfl,u64_wf x0 (Int.lt_trans x1 (by decide)),nilInts _ _⟩ ((mayB_iff _).2 ⟨h1,h2,.inr (.inl ⟨rfl,rfl,x1⟩)⟩) (by simp))
 have hx:IntKind.u64.wrap x = x:=by rw [IntKind.wrap_u64]; omega
 rw [show FA.f ⟨num,5,x,[],none,0⟩ = (num,5,x,[]) from rfl] at CF
 unfold faV at CF
 simp only [List.length_nil] at CF
 clear hW
 go_enter Tryz.func208,Tryz.ntmps208
 go_wp2_with fail
 try rw [hx]
 refine (uh CF).mono ?_
 rintro e v ⟨rfl,hv1,hv2⟩
 have HV:=hide hv1
 have HK:=hide hv2
 clear hv1 hv2
 go_wp2_with fail
 go_end0
 exact ⟨rfl,uh HV,uh HK⟩
theorem cdata_any (g:Nat) (fs:List Fld) (num:Int) (p:Option Addr) (c:Nat) (b:List Int) (w:World) (hW:WrIn g w fs) (hb:Ints .u8 w p c b) (h1:1 ≤ num) (h2:num ≤ 536870911) (hl:b.length ≤ 140737488355328) :
  Calls Tryz.prog 95 #[.pointer (some ⟨g,0,none⟩),.int .i64 num,.slice p b.length c] w fun e w' => WEnd g w (fs ++ [blkF num b]) e w':=by
 have CF:=hide (cfield_any g fs ⟨num,2,0,b,p,c⟩ w hW ⟨num_wf h1 h2,rfl,rfl,hb⟩ ((mayB_iff _).2 ⟨h1,h2,.inr (.inr ⟨rfl,rfl⟩)⟩) hl)
 rw [show FA.f ⟨num,2,0,b,p,c⟩ = blkF num b from rfl] at CF
 unfold faV at CF
 simp only at CF
 clear hW hb
 go_enter Tryz.func95,Tryz.ntmps95
 go_wp2_with fail
 refine (uh CF).mono ?_
 rintro e v ⟨rfl,hv1,hv2⟩
 have HV:=hide hv1
 have HK:=hide hv2
 clear hv1 hv2
 go_wp2_with fail
 go_end0
 exact ⟨rfl,uh HV,uh HK⟩
def fillF (num:Int) (b:List Int):List Fld:=if b.length = 0 then [] else [blkF num b]
theorem cfilled_any (g:Nat) (fs:List Fld) (num:Int) (p:Option Addr) (c:Nat) (b:List Int) (w:World) (hW:WrIn g w fs) (hb:Ints .u8 w p c b) (h1:1 ≤ num) (h2:num ≤ 536870911) (hl:b.length ≤ 140737488355328) :
  Calls Tryz.prog 153 #[.pointer (some ⟨g,0,none⟩),.int .i64 num,.slice p b.length c] w fun e w' => WEnd g w (fs ++ fillF num b) e w':=by
 have CF:=hide (cdata_any g fs num p c b w hW hb h1 h2 hl)
 have HW:=hide hW
 clear hW hb
 unfold fillF
 by_cases h0:b.length = 0
 ·rw [if_pos h0,List.append_nil]
  have t0:¬ (0:Int) < (b.length:Int):=by omega
  clear CF
  go_enter Tryz.func153,Tryz.ntmps153
  go_wp2_with fail
  go_end0
  exact ⟨rfl,uh HW,KeptW.refl _ _⟩
 ·rw [if_neg h0]
  have t0:(0:Int) < (b.length:Int):=by omega
  clear h0
  go_enter Tryz.func153,Tryz.ntmps153
  go_wp2_with fail
  refine (uh CF).mono ?_
  rintro e v ⟨rfl,hv1,hv2⟩
  have HV:=hide hv1
  have HK:=hide hv2
  clear hv1 hv2
  go_wp2_with fail
  go_end0
  exact ⟨rfl,uh HV,uh HK⟩
theorem fill_word (num:Int) (s:Str):fillF num s = wordF num s:=by
 unfold fillF wordF
 by_cases h:s = []
 ·subst h; rfl
 ·rw [if_neg h,if_neg (fun e => h (List.eq_nil_of_length_eq_zero e))]
theorem cname_any (g:Nat) (fs:List Fld) (num:Int) (s:Str) (w:World) (hW:WrIn g w fs) (hs:isB s) (h1:1 ≤ num) (h2:num ≤ 536870911) (hl:s.length ≤ 140737488351232) :
  Calls Tryz.prog 98 #[.pointer (some ⟨g,0,none⟩),.int .i64 num,strV s] w fun e w' => WEnd g w (fs ++ wordF num s) e w':=by
 have CF:=hide (fun v (hv:Below w.heap.size w v) p c (hb:Ls (Value.int .u8) v p c s) => cfilled_any g fs num p c s v (hW.below hv) (hb.ints (fun x hx => u8_wf (hs x hx))) h1 h2 (by omega))
 rw [fill_word] at CF
 have kc:=fun (w:World) (b:ByteArray) => Go.Lib.run_convert_string_bytes (P:=Tryz.prog) w 9 22 5 b Tryz.underlying9 Tryz.underlying22 Tryz.underlying5
 have hB:=hide (below_bytes w 5 (strOfNums s))
 have HL:=hide (ls_bytes (w:=w) (e:=5) hs (by omega))
 have hgl:=hW.lt
 have hlen:=str_len s
 unfold strV
 clear hW
 generalize wordF num s = F at CF ⊢
 go_enter Tryz.func98,Tryz.ntmps98
 go_wp2_with fail
 refine (uh CF _ (uh hB) _ _ (uh HL)).mono ?_
 rintro e v ⟨rfl,hv1,hv2⟩
 have HV:=hide hv1
 have HK:=hide ((KeptW.below (uh hB) (by omega)).trans hv2)
 clear hv1 hv2
 go_wp2_with fail
 go_end0
 exact ⟨rfl,uh HV,uh HK⟩
theorem own_ints {base:Nat} {w:World} {p:Option Addr} {c:Nat} {l:List Int} (h:w.ownsRow base 5 1 (.slice p l.length c) l.length (l.map (Value.int .u8))) (hb:∀ x ∈ l,(Lit.int .u8 x).wf = true) (hs:base ≤ w.heap.size):Ints .u8 w p c l:=by
 have h1:OwnG 5 (Value.int .u8) { w with heap:=w.heap.extract 0 base } w (.slice p l.length c) l:=⟨by simpa [Nat.min_eq_left hs] using h,⟨rfl,rfl,rfl,by simp; omega,fun k hk => by simp at hk; simp [Array.getElem?_extract]; omega⟩⟩
 obtain ⟨q,d,e,hl,_⟩:=h1.form
 simp only [Value.slice.injEq] at e
 obtain ⟨rfl,_,rfl⟩:=e
 exact hl.ints hb
theorem WrIn.over {g:Nat} {w:World} {fs gs:List Fld} (h:WrIn g w fs) (h1:4194304 < (msgB fs).length) (h2:4194304 < (msgB gs).length):WrIn g w gs:=by
 obtain ⟨v,bs,full,a,b,c,d,e⟩:=h
 have hf:full = true:=by unfold WS at c; rw [if_neg (by omega)] at c; exact c
 subst hf
 exact ⟨v,bs,true,a,b,WS.over _ h2,d,e⟩
def Writes (K:FuncId) (caps:Array Value) (w:World) (gs:List Fld):Prop :=
 ∀ v gin,Below w.heap.size w v → w.heap.size ≤ gin → WrIn gin v [] → Calls Tryz.prog K (#[.pointer (some ⟨gin,0,none⟩)] ++ caps) v fun e w' => WEnd gin v gs e w'
theorem cinner_any (g:Nat) (fs gs:List Fld) (num:Int) (K:FuncId) (hK:Ent K) (caps:Array Value) (w:World) (hW:WrIn g w fs) (H:Writes K caps w gs) (h1:1 ≤ num) (h2:num ≤ 536870911) :
  Calls Tryz.prog 45 #[.pointer (some ⟨g,0,none⟩),.int .i64 num,.func (.func K) #[] caps] w fun e w' => WEnd g w (fs ++ [blkF num (msgB gs)]) e w':=by
 have hk:∀ (args:Array Value) (v:World),(callFunc K args).run Tryz.prog v = .ok (.enter K args) v:=hK
 have HC:=hide (H (w.alloc (.cells #[.slice none 0 0,.bool false] 93)) w.heap.size (al1p _ _) (Nat.le_refl _) (WrIn.new w))
 have HD:=hide (fun fs p c b v (hv:WrIn g v fs) (hb:Ints .u8 v p c b) hl => cdata_any g fs num p c b v hv hb h1 h2 hl)
 have HW:=hide hW
 have gl:=hW.lt
 clear hK hW H
 go_enter Tryz.func45,Tryz.ntmps45
 go_wp2_with fail
 refine (uh HC).mono ?_
 rintro e v ⟨rfl,hv1,hv2⟩
 have BB:Hid (Below w.heap.size w v):=hide (bl_tr7 (al1p _ _) hv2.1)
 obtain ⟨vi,bi,fi,x1,x2,x3,x4,x5⟩:=hv1
 obtain ⟨vo,bo,fo,y1,y2,y3,y4,y5⟩:=(uh HW).below (uh BB)
 obtain ⟨pi,ci,rfl⟩:=own_slice x2
 obtain ⟨po,co,rfl⟩:=own_slice y2
 have ci1:=x1.cell
 have co1:=y1.cell
 have cf1:=y1.frozen
 have hne:¬ w.heap.size = g:=by omega
 have hne2:¬ g = w.heap.size:=by omega
 have vl:=x1.lt
 have LI:Hid (∀ j u,Ints .u8 (v.setCell ⟨g,j,none⟩ u) pi ci bi):=hide (fun j u => own_ints (ownsRow_set x2 (by omega) j u) (isB_wf x5) (by simp [World.setCell]; omega))
 have HX:=hide y1
 have HKW:=hide hv2
 have HOo:=hide y2
 have HY5:=hide y5
 have HY3:=hide y3
 clear HC hv2 y1 y2 y3 y5 x1 x2 x5
 cases fi with
 | true =>
   have HV:Hid (4194304 < (msgB (fs ++ [blkF num (msgB gs)])).length):=hide (by
    have:=x3.isFull
    rw [msg_app,List.length_append,msg_one,field_blk,List.length_append,List.length_append]
    omega)
   clear x3
   cases fo with
   | true =>
     have X4:Hid (WrIn g (v.setCell ⟨g,1,none⟩ (.bool true)) (fs ++ [blkF num (msgB gs)])):=hide ⟨_,bo,true,(uh HX).same 1 _,ownsRow_set (uh HOo) (by omega) _ _,WS.over _ (uh HV),y4,uh HY5⟩
     go_wp2_with fail
     refine (uh HD _ pi ci bi _ (uh X4) (uh LI 1 (.bool true)) (by omega)).mono ?_
     rintro e v2 ⟨rfl,hv1,hv2⟩
     have H1:=hide (hv1.over (by rw [msg_app,List.length_append]; have:=uh HV; omega) (uh HV))
     have H2:=hide (((KeptW.below (uh BB) (by omega)).trans (KeptW.set (uh HX))).trans hv2)
     clear hv1 hv2
     go_wp2_with fail
     go_end0
     exact ⟨rfl,uh H1,uh H2⟩
   | false =>
     have X4:Hid (WrIn g (v.setCell ⟨g,1,none⟩ (.bool true)) (fs ++ [blkF num (msgB gs)])):=hide ⟨_,bo,true,(uh HX).same 1 _,ownsRow_set (uh HOo) (by omega) _ _,WS.over _ (uh HV),y4,uh HY5⟩
     go_wp2_with fail
     refine (uh HD _ pi ci bi _ (uh X4) (uh LI 1 (.bool true)) (by omega)).mono ?_
     rintro e v2 ⟨rfl,hv1,hv2⟩
     have H1:=hide (hv1.over (by rw [msg_app,List.length_append]; have:=uh HV; omega) (uh HV))
     have H2:=hide (((KeptW.below (uh BB) (by omega)).trans (KeptW.set (uh HX))).trans hv2)
     clear hv1 hv2
     go_wp2_with fail
     go_end0
     exact ⟨rfl,uh H1,uh H2⟩
 | false =>
   cases fo with
   | true =>
     have X4:Hid (WrIn g (v.setCell ⟨g,1,none⟩ (.bool true)) fs):=hide ⟨_,bo,true,(uh HX).same 1 _,ownsRow_set (uh HOo) (by omega) _ _,uh HY3,y4,uh HY5⟩
     have HBI:=hide (x3.has).1
     clear x3
     go_wp2_with fail
     refine (uh HD _ pi ci bi _ (uh X4) (uh LI 1 (.bool true)) (by omega)).mono ?_
     rintro e v2 ⟨rfl,hv1,hv2⟩
     rw [uh HBI] at hv1
     have H1:=hide hv1
     have H2:=hide (((KeptW.below (uh BB) (by omega)).trans (KeptW.set (uh HX))).trans hv2)
     clear hv1 hv2
     go_wp2_with fail
     go_end0
     exact ⟨rfl,uh H1,uh H2⟩
   | false =>
     have X4:Hid (WrIn g (v.setCell ⟨g,1,none⟩ (.bool false)) fs):=hide ⟨_,bo,false,(uh HX).same 1 _,ownsRow_set (uh HOo) (by omega) _ _,uh HY3,y4,uh HY5⟩
     have HBI:=hide (x3.has).1
     clear x3
     go_wp2_with fail
     refine (uh HD _ pi ci bi _ (uh X4) (uh LI 1 (.bool false)) (by omega)).mono ?_
     rintro e v2 ⟨rfl,hv1,hv2⟩
     rw [uh HBI] at hv1
     have H1:=hide hv1
     have H2:=hide (((KeptW.below (uh BB) (by omega)).trans (KeptW.set (uh HX))).trans hv2)
     clear hv1 hv2
     go_wp2_with fail
     go_end0
     exact ⟨rfl,uh H1,uh H2⟩
end Go.Proofs.YtmdlaahdgjegcaaGreat
