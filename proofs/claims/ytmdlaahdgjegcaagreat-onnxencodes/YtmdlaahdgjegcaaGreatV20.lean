import Derived.Test.YtmdlaahdgjegcaaGreatV19
set_option maxRecDepth 100000
set_option maxHeartbeats 8000000
namespace Go.Proofs.YtmdlaahdgjegcaaGreat
open Go.RowKit
set_option linter.unusedVariables false
theorem var_flat (m:List Int):(m.flatMap fun x => varV (u64w x)).length ≤ m.length * 10:=by
 induction m with
 | nil => simp
 | cons x r ih =>
   rw [List.flatMap_cons,List.length_append,List.length_cons]
   have:=(varV_len (u64w x)).2
   omega
theorem pack_len (num:Int) (l:List Int):(msgB (packF num l)).length ≤ 20 + l.length * 10:=by
 unfold packF
 split
 ·simp [msgB]
 ·rw [msg_one]
  have:=fblk_len num (l.flatMap fun x => varV (u64w x))
  have:=var_flat l
  omega
theorem fx_flat (g:Int → Int) (k:Nat) (m:List Int):(m.flatMap fun x => fxL (g x) k).length = m.length * k:=by
 induction m with
 | nil => simp
 | cons x r ih => rw [List.flatMap_cons,List.length_append,List.length_cons,ih,fxL_length,Nat.succ_mul,Nat.add_comm]
theorem fx_next (g:Int → Int) (k:Nat) {l:List Int} {n:Nat} (h:n < l.length):((l.take (n + 1)).flatMap fun x => fxL (g x) k) = ((l.take n).flatMap fun x => fxL (g x) k) ++ fxL (g (l.getD n 0)) k:=by
 rw [List.take_add_one,List.getD_eq_getElem?_getD,List.getElem?_eq_getElem h,List.flatMap_append]; simp
def bit7 (b:Bool):Int:=if b then 1 else 0
theorem bit_next {l:List Bool} {n:Nat} (h:n < l.length):(l.take (n + 1)).map bit7 = (l.take n).map bit7 ++ [bit7 (l.getD n default)]:=by
 rw [List.take_add_one,List.getD_eq_getElem?_getD,List.getElem?_eq_getElem h,List.map_append]; simp
theorem raw_parts (T:Ten):rawB T = ((T.2.2.1.flatMap fun x => fxL (id x) 4) ++ (T.2.2.2.1.flatMap fun x => fxL (u64w x) 8)) ++ T.2.2.2.2.map bit7:=rfl
theorem rtensorOf_any (name:Str) (T:Ten) (A:TA) (w:World) (hn:isB name) (h:TenIn w T A) (hl:name.length ≤ 100000) (hd:T.2.1.length ≤ 1000) (hf:T.2.2.1.length ≤ 10000000) (hi':T.2.2.2.1.length ≤ 10000000) (hb':T.2.2.2.2.length ≤ 10000000) :
  Calls Tryz.prog 39 #[strV name,tenV T A] w fun e w' => ∃ v,e = .returned v ∧ OwnG 5 (Value.int .u8) w w' v (msgB (tensF name T)):=by
 obtain ⟨i1,hi1,y1,z1,b1⟩:=info_parts Tryz.infoU8
 have HR:=hide (raw_parts T)
 obtain ⟨ty,ds,fs,is,bs⟩:=T
 obtain ⟨pd,cd,pf,cf,pi,ci,pb,cb⟩:=A
 obtain ⟨a0,a1,a2,a3,a4⟩:=h
 simp only at a0 a1 a2 a3 a4 hd hf hi' hb' HR
 have wfd:=hide a1.2.2.1
 have A1:=hide a1
 have A2:=hide a2
 have A3:=hide a3
 have A4:=hide a4
 have HW:=hide (fun v => rword_any 8 name v hn (by decide) (by decide) (by omega))
 have wl:=word_len 8 name
 obtain ⟨t0,t1⟩:=u64w_rng ty
 have HN:=hide (fun v => rnumber_any 2 (u64w ty) v (by decide) (by decide) t0 t1)
 have nl2:=fnum_len 2 (u64w ty)
 have ht:IntKind.u64.wrap ty = u64w ty:=rfl
 have HB:=hide (fun p c b w hh hs => rblock_any 9 p c b w hh (by decide) (by decide) hs)
 have HP:=hide (fun p c w hh => rpacked_any 1 p c ds w hh (by decide) (by decide) (by omega))
 have pl:=pack_len 1 ds
 have HLg:=hide (fun w hh => rlongs_any pd cd ds w hh (by omega))
 have HY:=hide rbytesOf_any
 have HV:Hid (msgB (tensF name (ty,ds,fs,is,bs)) = ((msgB (packF 1 ds) ++ fieldB (numF 2 (u64w ty))) ++ msgB (wordF 8 name)) ++ fieldB (blkF 9 (rawB (ty,ds,fs,is,bs)))):=hide (by
  unfold tensF; rw [msg_app,msg_app,msg_app,msg_one,msg_one])
 have rl:(rawB (ty,ds,fs,is,bs)).length ≤ 130000000:=by
  rw [uh HR,List.length_append,List.length_append,fx_flat,fx_flat,List.length_map]; omega
 generalize u64w ty = X at HN nl2 ht HV
 generalize fieldB (numF 2 X) = VN at HN nl2 HV
 generalize msgB (wordF 8 name) = VW at HW wl HV
 generalize msgB (packF 1 ds) = VP at HP pl HV
 unfold strV at HW ⊢
 unfold tenV tenCells
 simp only
 rw [uh HV]
 obtain ⟨R,hR⟩:∃ R,rawB (ty,ds,fs,is,bs) = R:=⟨_,rfl⟩
 rw [hR] at HR rl ⊢
 obtain ⟨P2,hP2⟩:∃ P,VP ++ VN = P:=⟨_,rfl⟩
 have l2:P2.length ≤ 1000000:=by rw [← hP2,List.length_append]; omega
 rw [hP2]
 obtain ⟨P3,hP3⟩:∃ P,P2 ++ VW = P:=⟨_,rfl⟩
 have l3:P3.length ≤ 2000000:=by rw [← hP3,List.length_append]; omega
 rw [hP3]
 have bl:=fblk_len 9 R
 obtain ⟨V4,hV4⟩:∃ V,fieldB (blkF 9 R) = V:=⟨_,rfl⟩
 rw [hV4] at bl ⊢
 have H2:=hide hP2
 have H3:=hide hP3
 have H4:=hide hV4
 have HWd:Hid (∀ x ∈ ds,(Lit.int .i64 x).wf = true):=wfd
 clear HV hR hP2 hP3 hV4 wfd t0 t1 a1 a2 a3 a4
 go_enter Tryz.func39,Tryz.ntmps39
 go_wp2_with fail
 obtain ⟨W,hW⟩:∃ W,(w.alloc (Obj.cells #[Value.int IntKind.i64 ty,Value.slice pd ds.length cd,Value.slice pf fs.length cf,Value.slice pi is.length ci,Value.slice pb bs.length cb] 80)) = W:=⟨_,rfl⟩
 have BX:Hid (Box W w.heap.size #[.int .i64 ty,.slice pd ds.length cd,.slice pf fs.length cf,.slice pi is.length ci,.slice pb bs.length cb] 80):=hide (by rw [← hW]; exact Box.new w _ _)
 have BW:Hid (Below w.heap.size w W):=hide (by rw [← hW]; exact al1p _ _)
 rw [hW]
 clear hW
 refine (uh HLg W ((uh A1).below (uh BW))).mono ?_
 rintro e w1 ⟨v1,rfl,hO⟩
 obtain ⟨q1,d1,rfl,hl1,_⟩:=hO.form
 have L1:=hide (hl1.ints (uh HWd))
 have O1:=hide hO.2
 clear hO hl1 HLg
 go_wp2_with fail
 refine (uh HP q1 d1 w1 (uh L1)).mono ?_
 rintro e w2 ⟨v2,rfl,hO⟩
 obtain ⟨q2,d2,rfl,hl2,_⟩:=hO.form
 have L2:=hide hl2
 have O2:=hide (bl_tr (uh O1) hO.2)
 clear hO hl2 O1 L1 HP
 go_wp2_with (at_builtin; (refine wpList_append_ls rfl _ _ 22 rfl W 5 i1 (.int .u8 0) 1 Tryz.underlying22 hi1 y1 z1 b1 rfl (int_one .u8) _ [] rfl (OwnG.nil _ _ _ (uh O2)) q2 d2 VP rfl (uh L2) (by simp only [List.length_nil]; unfold maxLen; omega) (by simp only [List.length_nil]; omega) ?_; intro v3 w3 O3; rw [List.nil_append] at O3; have x3:=((uh BX).below O3.2).cell; have HO3:=hide O3; clear O3))
 try rw [ht]
 refine (uh HN _).mono ?_
 rintro e w4 ⟨v4,rfl,hO⟩
 obtain ⟨q4,d4,rfl,hl4,_⟩:=hO.form
 have L4:=hide hl4
 replace HO3:=hide ((uh HO3).below hO.2)
 clear hO hl4 HN x3
 go_wp2_with (at_builtin; (refine wpList_append_ls rfl _ _ 22 rfl W 5 i1 (.int .u8 0) 1 Tryz.underlying22 hi1 y1 z1 b1 rfl (int_one .u8) _ VP rfl (uh HO3) q4 d4 VN rfl (uh L4) (by unfold maxLen; omega) (by omega) ?_; intro v5 w5 O5; rw [uh H2] at O5; have HO5:=hide O5; clear O5))
 refine (uh HW _).mono ?_
 rintro e w6 ⟨v6,rfl,hO⟩
 obtain ⟨q6,d6,rfl,hl6,_⟩:=hO.form
 have L6:=hide hl6
 replace HO5:=hide ((uh HO5).below hO.2)
 clear hO hl6 HW
 go_wp2_with (at_builtin; (refine wpList_append_ls rfl _ _ 22 rfl W 5 i1 (.int .u8 0) 1 Tryz.underlying22 hi1 y1 z1 b1 rfl (int_one .u8) _ P2 rfl (uh HO5) q6 d6 VW rfl (uh L6) (by unfold maxLen; omega) (by omega) ?_; intro v7 w7 O7; rw [uh H3] at O7; have HO7:=hide O7; clear O7))
 have BX7:=hide ((uh BX).below (uh HO7).2)
 have B7:=hide (bl_tr (uh BW) (uh HO7).2)
 replace HO7:=hide (OwnG.onto (uh BW) (uh HO7))
 obtain ⟨R0,hR0⟩:∃ R0:List Int,[] = R0:=⟨_,rfl⟩
 have HR0:=hide hR0
 clear hR0
 go_wp2_with fail
 have rl0:R0.length ≤ 0:=by rw [← uh HR0]; simp
 go_loopw [6,7] (fun v iv wr => ∃ n:Nat,iv = .int .i64 n ∧ n ≤ fs.length ∧ Hid (OwnG 5 (Value.int .u8) w7 wr v (R0 ++ ((fs.take n).flatMap fun x => fxL (id x) 4)))) (fun _ iv _ => fs.length - (intOf iv).toNat)
 case atStart => exact ⟨0,rfl,by omega,hide (by rw [List.take_zero,List.flatMap_nil,List.append_nil]; exact (by rw [← uh HR0]; exact OwnG.nil _ _ _ (Below.refl _ _)))⟩
 case round =>
  obtain ⟨n,rfl,hn',O⟩:=hrel
  have x1:=((uh BX7).below (uh O).2).cell
  by_cases hlt:n < fs.length
  ·have hi:(n:Int) < (fs.length:Int):=by omega
   have wfx:=(uh A2).wf n hlt
   obtain ⟨b,o,rfl,hb,hc⟩:=((uh A2).below (bl_tr (uh B7) (uh O).2)).lies (by omega)
   have k1:=hc n hlt
   have HT:Hid (R0 ++ ((fs.take (n + 1)).flatMap fun x => fxL (id x) 4) = R0 ++ ((fs.take n).flatMap fun x => fxL (id x) 4) ++ fxL (id (fs.getD n 0)) 4):=hide (by rw [fx_next id 4 hlt,List.append_assoc])
   have hfl:(R0 ++ ((fs.take n).flatMap fun x => fxL (id x) 4)).length ≤ 0 + n * 4:=by rw [List.length_append,fx_flat id 4,List.length_take,Nat.min_eq_left (by omega)]; omega
   have hw:=wf_u32_iff wfx
   have u0:0 ≤ id (fs.getD n 0):=hw.1
   have u1:id (fs.getD n 0) < 18446744073709551616:=by have:=hw.2; simp only [id]; omega
   have hx:IntKind.u64.wrap (fs.getD n 0) = id (fs.getD n 0):=by rw [IntKind.wrap_u64]; simp only [id] at u0 u1 ⊢; omega
   clear hw
   have lv:(fxL (id (fs.getD n 0)) 4).length = 4:=fxL_length _ _
   have VX:=hide (fun v => uh HY (id (fs.getD n 0)) 4 v u0 u1 (by decide))
   generalize fs.getD n 0 = x at k1 HT VX lv hx
   generalize fxL (id x) 4 = V at HT VX lv
   generalize R0 ++ ((fs.take n).flatMap fun x => fxL (id x) 4) = Q at O HT hfl
   clear hc u0 u1 wfx
   have HLV:=hide lv
   clear lv
   go_wp2_with fail
   try rw [hx]
   refine (uh VX _).mono ?_
   rintro e w8 ⟨v8,rfl,hO⟩
   obtain ⟨q8,d8,rfl,hl8,_⟩:=hO.form
   have L8:=hide hl8
   have O8:=hide ((uh O).below hO.2)
   clear hO hl8 VX
   go_wp2_with (at_builtin; (refine wpList_append_ls rfl _ _ 22 rfl w7 5 i1 (.int .u8 0) 1 Tryz.underlying22 hi1 y1 z1 b1 rfl (int_one .u8) _ Q rfl (uh O8) q8 d8 V rfl (uh L8) (by rw [uh HLV]; unfold maxLen; omega) (by rw [uh HLV]; omega) ?_; intro v9 w9 O9; have HO9:=hide O9; clear O9))
   go_roundw
   case rel => exact ⟨n + 1,by go_num,by omega,hide (by rw [uh HT]; exact uh HO9)⟩
   case measure => simp [intOf]; omega
  ·have hi:¬ (n:Int) < (fs.length:Int):=by omega
   have HE:Hid (fs.take n = fs):=hide (List.take_of_length_le (by omega))
   obtain ⟨R1,hR1⟩:∃ R,R0 ++ (fs.flatMap fun x => fxL (id x) 4) = R:=⟨_,rfl⟩
   have EN1:Hid (OwnG 5 (Value.int .u8) w7 wr _ R1):=hide (by have:=uh O; rw [uh HE,hR1] at this; exact this)
   have HR1:=hide hR1
   clear HE O
   go_wp2_with fail
   have rl1:R1.length ≤ 40000000:=by rw [← hR1,List.length_append,fx_flat,← uh HR0]; simp only [List.length_nil]; omega
   go_loopw [6,8] (fun v iv wr => ∃ n:Nat,iv = .int .i64 n ∧ n ≤ is.length ∧ Hid (OwnG 5 (Value.int .u8) w7 wr v (R1 ++ ((is.take n).flatMap fun x => fxL (u64w x) 8)))) (fun _ iv _ => is.length - (intOf iv).toNat)
   case atStart => exact ⟨0,rfl,by omega,hide (by rw [List.take_zero,List.flatMap_nil,List.append_nil]; exact uh EN1)⟩
   case round =>
    obtain ⟨n,rfl,hn',O⟩:=hrel
    have x1:=((uh BX7).below (uh O).2).cell
    by_cases hlt:n < is.length
    ·have hi:(n:Int) < (is.length:Int):=by omega
     have wfx:=(uh A3).wf n hlt
     obtain ⟨b,o,rfl,hb,hc⟩:=((uh A3).below (bl_tr (uh B7) (uh O).2)).lies (by omega)
     have k1:=hc n hlt
     have HT:Hid (R1 ++ ((is.take (n + 1)).flatMap fun x => fxL (u64w x) 8) = R1 ++ ((is.take n).flatMap fun x => fxL (u64w x) 8) ++ fxL (u64w (is.getD n 0)) 8):=hide (by rw [fx_next u64w 8 hlt,List.append_assoc])
     have hfl:(R1 ++ ((is.take n).flatMap fun x => fxL (u64w x) 8)).length ≤ 40000000 + n * 8:=by rw [List.length_append,fx_flat u64w 8,List.length_take,Nat.min_eq_left (by omega)]; omega
     obtain ⟨u0,u1⟩:=u64w_rng (is.getD n 0)
     have hx:IntKind.u64.wrap (is.getD n 0) = u64w (is.getD n 0):=rfl
     have lv:(fxL (u64w (is.getD n 0)) 8).length = 8:=fxL_length _ _
     have VX:=hide (fun v => uh HY (u64w (is.getD n 0)) 8 v u0 u1 (by decide))
     generalize is.getD n 0 = x at k1 HT VX lv hx
     generalize fxL (u64w x) 8 = V at HT VX lv
     generalize R1 ++ ((is.take n).flatMap fun x => fxL (u64w x) 8) = Q at O HT hfl
     clear hc u0 u1 wfx
     have HLV:=hide lv
     clear lv
     go_wp2_with fail
     try rw [hx]
     refine (uh VX _).mono ?_
     rintro e w8 ⟨v8,rfl,hO⟩
     obtain ⟨q8,d8,rfl,hl8,_⟩:=hO.form
     have L8:=hide hl8
     have O8:=hide ((uh O).below hO.2)
     clear hO hl8 VX
     go_wp2_with (at_builtin; (refine wpList_append_ls rfl _ _ 22 rfl w7 5 i1 (.int .u8 0) 1 Tryz.underlying22 hi1 y1 z1 b1 rfl (int_one .u8) _ Q rfl (uh O8) q8 d8 V rfl (uh L8) (by rw [uh HLV]; unfold maxLen; omega) (by rw [uh HLV]; omega) ?_; intro v9 w9 O9; have HO9:=hide O9; clear O9))
     go_roundw
     case rel => exact ⟨n + 1,by go_num,by omega,hide (by rw [uh HT]; exact uh HO9)⟩
     case measure => simp [intOf]; omega
    ·have hi:¬ (n:Int) < (is.length:Int):=by omega
     have HE:Hid (is.take n = is):=hide (List.take_of_length_le (by omega))
     obtain ⟨R2,hR2⟩:∃ R,R1 ++ (is.flatMap fun x => fxL (u64w x) 8) = R:=⟨_,rfl⟩
     have EN2:Hid (OwnG 5 (Value.int .u8) w7 wr _ R2):=hide (by have:=uh O; rw [uh HE,hR2] at this; exact this)
     have HR2:=hide hR2
     clear HE O
     go_wp2_with fail
     have rl2:R2.length ≤ 120000000:=by rw [← hR2,List.length_append,fx_flat]; omega
     go_loopw [6,9] (fun v iv wr => ∃ n:Nat,iv = .int .i64 n ∧ n ≤ bs.length ∧ Hid (OwnG 5 (Value.int .u8) w7 wr v (R2 ++ ((bs.take n).map bit7)))) (fun _ iv _ => bs.length - (intOf iv).toNat)
     case atStart => exact ⟨0,rfl,by omega,hide (by rw [List.take_zero,List.map_nil,List.append_nil]; exact uh EN2)⟩
     case round =>
      obtain ⟨n,rfl,hn',O⟩:=hrel
      have x1:=((uh BX7).below (uh O).2).cell
      by_cases hlt:n < bs.length
      ·have hi:(n:Int) < (bs.length:Int):=by omega
       obtain ⟨b,o,rfl,hb,hc⟩:=((uh A4).below (bl_tr (uh B7) (uh O).2)).lies (by omega)
       have k1:=hc n hlt
       have HT:Hid (R2 ++ ((bs.take (n + 1)).map bit7) = R2 ++ ((bs.take n).map bit7) ++ [bit7 (bs.getD n default)]):=hide (by rw [bit_next hlt,List.append_assoc])
       have hfl:(R2 ++ ((bs.take n).map bit7)).length ≤ 120000000 + n:=by rw [List.length_append,List.length_map,List.length_take,Nat.min_eq_left (by omega)]; omega
       generalize bs.getD n default = x at k1 HT
       generalize R2 ++ ((bs.take n).map bit7) = Q at O HT hfl
       clear hc
       cases x
       ·have HT0:Hid (R2 ++ ((bs.take (n + 1)).map bit7) = Q ++ [0]):=HT
        clear HT
        go_wp2_with (at_builtin; (refine wpList_append_ls rfl _ _ 22 rfl w7 5 i1 (.int .u8 0) 1 Tryz.underlying22 hi1 y1 z1 b1 rfl (int_one .u8) _ Q rfl ((uh O).below (al1p _ _)) (some ⟨_,0,none⟩) 1 [0] rfl (ls_one6 _ _ _) (by unfold maxLen; simp only [List.length_singleton]; omega) (by simp only [List.length_singleton]; omega) ?_; intro v9 w9 O9; have HO9:=hide O9; clear O9))
        go_roundw
        case rel => exact ⟨n + 1,by go_num,by omega,hide (by rw [uh HT0]; exact uh HO9)⟩
        case measure => simp [intOf]; omega
       ·have HT0:Hid (R2 ++ ((bs.take (n + 1)).map bit7) = Q ++ [1]):=HT
        clear HT
        go_wp2_with (at_builtin; (refine wpList_append_ls rfl _ _ 22 rfl w7 5 i1 (.int .u8 0) 1 Tryz.underlying22 hi1 y1 z1 b1 rfl (int_one .u8) _ Q rfl ((uh O).below (al1p _ _)) (some ⟨_,0,none⟩) 1 [1] rfl (ls_one6 _ _ _) (by unfold maxLen; simp only [List.length_singleton]; omega) (by simp only [List.length_singleton]; omega) ?_; intro v9 w9 O9; have HO9:=hide O9; clear O9))
        go_roundw
        case rel => exact ⟨n + 1,by go_num,by omega,hide (by rw [uh HT0]; exact uh HO9)⟩
        case measure => simp [intOf]; omega
      ·have hi:¬ (n:Int) < (bs.length:Int):=by omega
       have HE:Hid (bs.take n = bs):=hide (List.take_of_length_le (by omega))
       obtain ⟨R3,hR3⟩:∃ R,R2 ++ (bs.map bit7) = R:=⟨_,rfl⟩
       have EN3:Hid (OwnG 5 (Value.int .u8) w7 wr _ R3):=hide (by have:=uh O; rw [uh HE,hR3] at this; exact this)
       have HR3:=hide hR3
       clear HE O
       have HEQ:Hid (R3 = R):=hide (by rw [← uh HR3,← uh HR2,← uh HR1,← uh HR0,uh HR]; simp)
       rw [uh HEQ] at EN3
       obtain ⟨q10,d10,hv,hl10,_⟩:=(uh EN3).form
       subst hv
       have L10:=hide hl10
       have O10:Hid (OwnG 5 (Value.int .u8) w wr v7 P3):=hide ((uh HO7).below (uh EN3).2)
       clear hl10 EN3 HO7 HEQ HR3 hR3 HR2 hR2 HR1 hR1
       go_wp2_with fail
       refine (uh HB q10 d10 R wr (uh L10) (by omega)).mono ?_
       rintro e w11 ⟨v11,rfl,hO⟩
       rw [uh H4] at hO
       obtain ⟨q11,d11,rfl,hl11,_⟩:=hO.form
       have L11:=hide hl11
       have O11:=hide ((uh O10).below hO.2)
       clear hO hl11 O10 L10
       go_wp2_with (at_builtin; (refine wpList_append_ls rfl _ _ 22 rfl w 5 i1 (.int .u8 0) 1 Tryz.underlying22 hi1 y1 z1 b1 rfl (int_one .u8) _ P3 rfl (uh O11) q11 d11 V4 rfl (uh L11) (by unfold maxLen; omega) (by omega) ?_; intro v12 w12 O12; have HO12:=hide O12; clear O12))
       go_ret
       exact ⟨_,rfl,uh HO12⟩
def AtSm (a:AtA):Prop:=a.nm.length ≤ 100000 ∧ a.s.length ≤ 100000 ∧ a.fl.length ≤ 100000 ∧ a.is.length ≤ 100000 ∧ a.T.2.1.length ≤ 1000 ∧ a.T.2.2.1.length ≤ 10000000 ∧ a.T.2.2.2.1.length ≤ 10000000 ∧ a.T.2.2.2.2.length ≤ 10000000
theorem tens_len (T:Ten) (h1:T.2.1.length ≤ 1000) (h2:T.2.2.1.length ≤ 10000000) (h3:T.2.2.2.1.length ≤ 10000000) (h4:T.2.2.2.2.length ≤ 10000000):(msgB (tensF [] T)).length ≤ 150000000:=by
 have e:msgB (tensF [] T) = ((msgB (packF 1 T.2.1) ++ fieldB (numF 2 (u64w T.1))) ++ msgB (wordF 8 [])) ++ fieldB (blkF 9 (rawB T)):=by
  unfold tensF; rw [msg_app,msg_app,msg_app,msg_one,msg_one]
 rw [e,List.length_append,List.length_append,List.length_append]
 have a1:=pack_len 1 T.2.1
 have a2:=fnum_len 2 (u64w T.1)
 have a3:=word_len 8 []
 have a4:=fblk_len 9 (rawB T)
 rw [raw_parts,List.length_append,List.length_append,fx_flat,fx_flat,List.length_map] at a4
 rw [raw_parts]
 simp only [List.length_nil] at a3
 omega
theorem rattrOf_1 (a:AtA) {B:Nat} (w:World) (h:AtIn B w a) (hm:AtSm a) (hk:a.kd = 1) :
  Calls Tryz.prog 76 #[.agg (atCells a).toArray] w fun e w' => ∃ v,e = .returned v ∧ OwnG 5 (Value.int .u8) w w' v (msgB (attrF a.d)):=by
 obtain ⟨i1,hi1,y1,z1,b1⟩:=info_parts Tryz.infoU8
 obtain ⟨nm,kd,f,i,s,⟨ty,ds,fs,is,bs⟩,⟨pd,cd,pf,cf,pi,ci,pb,cb⟩,fl,qf,cf',li,qi,ci'⟩:=a
 obtain ⟨g1,g2,g3,g4,g5,g6,⟨g7,g8⟩,g9,g10⟩:=h
 obtain ⟨m1,m2,m3,m4,m5,m6,m7,m8⟩:=hm
 simp only at hk g1 g3 g4 g5 g6 g7 g9 m1 m2 m3 m4 m5 m6 m7 m8
 subst hk
 have TI:=hide g6.1
 have IF:=hide g7
 have II:=hide g9
 have HS5:=hide g5
 have CT0:=hide (fun v => rword_any 1 nm v g1 (by decide) (by decide) (by omega))
 have lv0:=word_len 1 nm
 have CTa:=hide (fun v => rvarint_any 160 v (by decide) (by decide))
 have lva:=(varV_len 160).2
 have CTb:=hide (fun v => rvarint_any 1 v (by decide) (by decide))
 have lvb:=(varV_len 1).2
 obtain ⟨f0,f1⟩:=wf_u32_iff g3
 have hx:IntKind.u64.wrap f = f:=by rw [IntKind.wrap_u64]; omega
 have CT1:=hide (fun v => rvarint_any 21 v (by decide) (by decide))
 have lv1:=(varV_len 21).2
 have CT2:=hide (fun v => rbytesOf_any f 4 v f0 (by omega) (by decide))
 have lv2:(fxL f 4).length ≤ 4:=Nat.le_of_eq (fxL_length _ _)
 have HV:Hid (msgB (attrF (AtA.d ⟨nm,1,f,i,s,(ty,ds,fs,is,bs),⟨pd,cd,pf,cf,pi,ci,pb,cb⟩,fl,qf,cf',li,qi,ci'⟩)) = (((msgB (wordF 1 nm) ++ varV 21) ++ fxL f 4) ++ varV 160) ++ varV 1):=hide (by
  rw [show attrF (AtA.d ⟨nm,1,f,i,s,(ty,ds,fs,is,bs),⟨pd,cd,pf,cf,pi,ci,pb,cb⟩,fl,qf,cf',li,qi,ci'⟩) = wordF 1 nm ++ [((2:Int),(5:Int),f,[])] ++ [numF 20 1] from rfl,msg_app,msg_app,msg_one,msg_one,field_num,show fieldB ((2:Int),(5:Int),f,[]) = varV 21 ++ fxL f 4 from by simp [fieldB,bodyB]]
  simp only [List.append_assoc]; rfl)
 generalize varV 21 = V1 at CT1 lv1 HV
 generalize fxL f 4 = V2 at CT2 lv2 HV
 generalize varV 160 = Va at CTa lva HV
 generalize varV 1 = Vb at CTb lvb HV
 generalize msgB (wordF 1 nm) = V0 at CT0 lv0 HV
 rw [uh HV]
 obtain ⟨Q1,hQ1⟩:∃ Q,V0 ++ V1 = Q:=⟨_,rfl⟩
 have lQ1:Q1.length ≤ 200000 + 1 * 200000000:=by rw [← hQ1,List.length_append]; omega
 rw [hQ1]
 have HQ1:=hide hQ1
 clear hQ1
 obtain ⟨Q2,hQ2⟩:∃ Q,Q1 ++ V2 = Q:=⟨_,rfl⟩
 have lQ2:Q2.length ≤ 200000 + 2 * 200000000:=by rw [← hQ2,List.length_append]; omega
 rw [hQ2]
 have HQ2:=hide hQ2
 clear hQ2
 obtain ⟨Q3,hQ3⟩:∃ Q,Q2 ++ Va = Q:=⟨_,rfl⟩
 have lQ3:Q3.length ≤ 200000 + 3 * 200000000:=by rw [← hQ3,List.length_append]; omega
 rw [hQ3]
 have HQ3:=hide hQ3
 clear hQ3
 unfold strV at CT0
 unfold atCells tenCells strV
 simp only [List.cons_append,List.nil_append]
 clear HV g1 g2 g5 g6 g7 g8 g9 g10
 go_enter Tryz.func76,Tryz.ntmps76
 go_wp2_with fail
 obtain ⟨W,hW⟩:∃ W,(w.alloc (Obj.cells #[.string (strOfNums nm),.int .i64 1,.int .u32 f,.int .i64 i,.string (strOfNums s),.int .i64 ty,.slice pd ds.length cd,.slice pf fs.length cf,.slice pi is.length ci,.slice pb bs.length cb,.slice qf fl.length cf',.slice qi li.length ci'] 86)) = W:=⟨_,rfl⟩
 have BX:Hid (Box W w.heap.size #[.string (strOfNums nm),.int .i64 1,.int .u32 f,.int .i64 i,.string (strOfNums s),.int .i64 ty,.slice pd ds.length cd,.slice pf fs.length cf,.slice pi is.length ci,.slice pb bs.length cb,.slice qf fl.length cf',.slice qi li.length ci'] 86):=hide (by rw [← hW]; exact Box.new w _ _)
 have BW:Hid (Below w.heap.size w W):=hide (by rw [← hW]; exact al1p _ _)
 rw [hW]
 clear hW
 refine (uh CT0 _).mono ?_
 rintro e w1 ⟨v1,rfl,hO⟩
 obtain ⟨q1,d1,rfl,hl1,_⟩:=hO.form
 have L1:=hide hl1
 have O1:=hide hO.2
 clear hO hl1 CT0
 go_wp2_with (at_builtin; (refine wpList_append_ls rfl _ _ 22 rfl W 5 i1 (.int .u8 0) 1 Tryz.underlying22 hi1 y1 z1 b1 rfl (int_one .u8) _ [] rfl (OwnG.nil _ _ _ (uh O1)) q1 d1 V0 rfl (uh L1) (by simp only [List.length_nil]; unfold maxLen; omega) (by simp only [List.length_nil]; omega) ?_; intro vo wo O; rw [List.nil_append] at O; have xo:=((uh BX).below O.2).cell; have HO:=hide O; clear O))
 refine (uh CT1 _).mono ?_
 rintro e w2 ⟨v2,rfl,hO⟩
 obtain ⟨q2,d2,rfl,hl2,_⟩:=hO.form
 have L2:=hide hl2
 replace HO:=hide ((uh HO).below hO.2)
 clear hO hl2
 go_wp2_with (at_builtin; (refine wpList_append_ls rfl _ _ 22 rfl W 5 i1 (.int .u8 0) 1 Tryz.underlying22 hi1 y1 z1 b1 rfl (int_one .u8) _ V0 rfl (uh HO) q2 d2 V1 rfl (uh L2) (by unfold maxLen; omega) (by omega) ?_; intro vo2 wo2 O; rw [uh HQ1] at O; have xo2:=((uh BX).below O.2).cell; replace HO:=hide O; clear O))
 try rw [hx]
 refine (uh CT2 _).mono ?_
 rintro e w3 ⟨v3,rfl,hO⟩
 obtain ⟨q3,d3,rfl,hl3,_⟩:=hO.form
 have L3:=hide hl3
 replace HO:=hide ((uh HO).below hO.2)
 clear hO hl3
 go_wp2_with (at_builtin; (refine wpList_append_ls rfl _ _ 22 rfl W 5 i1 (.int .u8 0) 1 Tryz.underlying22 hi1 y1 z1 b1 rfl (int_one .u8) _ Q1 rfl (uh HO) q3 d3 V2 rfl (uh L3) (by unfold maxLen; omega) (by omega) ?_; intro vo3 wo3 O; rw [uh HQ2] at O; have xo3:=((uh BX).below O.2).cell; replace HO:=hide O; clear O))
 refine (uh CTa _).mono ?_
 rintro e wa ⟨va,rfl,hO⟩
 obtain ⟨qa,da,rfl,hla,_⟩:=hO.form
 have La:=hide hla
 replace HO:=hide ((uh HO).below hO.2)
 clear hO hla
 go_wp2_with (at_builtin; (refine wpList_append_ls rfl _ _ 22 rfl W 5 i1 (.int .u8 0) 1 Tryz.underlying22 hi1 y1 z1 b1 rfl (int_one .u8) _ Q2 rfl (uh HO) qa da Va rfl (uh La) (by unfold maxLen; omega) (by omega) ?_; intro voa woa O; rw [uh HQ3] at O; have xoa:=((uh BX).below O.2).cell; replace HO:=hide O; clear O))
 try rw [show IntKind.u64.wrap 1 = 1 from rfl]
 refine (uh CTb _).mono ?_
 rintro e wb ⟨vb,rfl,hO⟩
 obtain ⟨qb,db,rfl,hlb,_⟩:=hO.form
 have Lb:=hide hlb
 replace HO:=hide ((uh HO).below hO.2)
 clear hO hlb
 go_wp2_with (at_builtin; (refine wpList_append_ls rfl _ _ 22 rfl W 5 i1 (.int .u8 0) 1 Tryz.underlying22 hi1 y1 z1 b1 rfl (int_one .u8) _ Q3 rfl (uh HO) qb db Vb rfl (uh Lb) (by unfold maxLen; omega) (by omega) ?_; intro vob wob O; have xob:=((uh BX).below O.2).cell; replace HO:=hide O; clear O))
 go_ret
 exact ⟨_,rfl,OwnG.onto (uh BW) (uh HO)⟩
theorem rattrOf_2 (a:AtA) {B:Nat} (w:World) (h:AtIn B w a) (hm:AtSm a) (hk:a.kd = 2) :
  Calls Tryz.prog 76 #[.agg (atCells a).toArray] w fun e w' => ∃ v,e = .returned v ∧ OwnG 5 (Value.int .u8) w w' v (msgB (attrF a.d)):=by
 obtain ⟨i1,hi1,y1,z1,b1⟩:=info_parts Tryz.infoU8
 obtain ⟨nm,kd,f,i,s,⟨ty,ds,fs,is,bs⟩,⟨pd,cd,pf,cf,pi,ci,pb,cb⟩,fl,qf,cf',li,qi,ci'⟩:=a
 obtain ⟨g1,g2,g3,g4,g5,g6,⟨g7,g8⟩,g9,g10⟩:=h
 obtain ⟨m1,m2,m3,m4,m5,m6,m7,m8⟩:=hm
 simp only at hk g1 g3 g4 g5 g6 g7 g9 m1 m2 m3 m4 m5 m6 m7 m8
 subst hk
 have TI:=hide g6.1
 have IF:=hide g7
 have II:=hide g9
 have HS5:=hide g5
 have CT0:=hide (fun v => rword_any 1 nm v g1 (by decide) (by decide) (by omega))
 have lv0:=word_len 1 nm
 have CTa:=hide (fun v => rvarint_any 160 v (by decide) (by decide))
 have lva:=(varV_len 160).2
 have CTb:=hide (fun v => rvarint_any 2 v (by decide) (by decide))
 have lvb:=(varV_len 2).2
 obtain ⟨t0,t1⟩:=u64w_rng i
 have hx:IntKind.u64.wrap i = u64w i:=rfl
 have CT1:=hide (fun v => rnumber_any 3 (u64w i) v (by decide) (by decide) t0 t1)
 have lv1:=fnum_len 3 (u64w i)
 have HV:Hid (msgB (attrF (AtA.d ⟨nm,2,f,i,s,(ty,ds,fs,is,bs),⟨pd,cd,pf,cf,pi,ci,pb,cb⟩,fl,qf,cf',li,qi,ci'⟩)) = ((msgB (wordF 1 nm) ++ fieldB (numF 3 (u64w i))) ++ varV 160) ++ varV 2):=hide (by
  rw [show attrF (AtA.d ⟨nm,2,f,i,s,(ty,ds,fs,is,bs),⟨pd,cd,pf,cf,pi,ci,pb,cb⟩,fl,qf,cf',li,qi,ci'⟩) = wordF 1 nm ++ [numF 3 (u64w i)] ++ [numF 20 2] from rfl,msg_app,msg_app,msg_one,msg_one,field_num 20 2]
  simp only [List.append_assoc]; rfl)
 generalize u64w i = X at CT1 lv1 HV hx
 generalize fieldB (numF 3 X) = V1 at CT1 lv1 HV
 generalize varV 160 = Va at CTa lva HV
 generalize varV 2 = Vb at CTb lvb HV
 generalize msgB (wordF 1 nm) = V0 at CT0 lv0 HV
 rw [uh HV]
 obtain ⟨Q1,hQ1⟩:∃ Q,V0 ++ V1 = Q:=⟨_,rfl⟩
 have lQ1:Q1.length ≤ 200000 + 1 * 200000000:=by rw [← hQ1,List.length_append]; omega
 rw [hQ1]
 have HQ1:=hide hQ1
 clear hQ1
 obtain ⟨Q2,hQ2⟩:∃ Q,Q1 ++ Va = Q:=⟨_,rfl⟩
 have lQ2:Q2.length ≤ 200000 + 2 * 200000000:=by rw [← hQ2,List.length_append]; omega
 rw [hQ2]
 have HQ2:=hide hQ2
 clear hQ2
 unfold strV at CT0
 unfold atCells tenCells strV
 simp only [List.cons_append,List.nil_append]
 clear HV g1 g2 g5 g6 g7 g8 g9 g10
 go_enter Tryz.func76,Tryz.ntmps76
 go_wp2_with fail
 obtain ⟨W,hW⟩:∃ W,(w.alloc (Obj.cells #[.string (strOfNums nm),.int .i64 2,.int .u32 f,.int .i64 i,.string (strOfNums s),.int .i64 ty,.slice pd ds.length cd,.slice pf fs.length cf,.slice pi is.length ci,.slice pb bs.length cb,.slice qf fl.length cf',.slice qi li.length ci'] 86)) = W:=⟨_,rfl⟩
 have BX:Hid (Box W w.heap.size #[.string (strOfNums nm),.int .i64 2,.int .u32 f,.int .i64 i,.string (strOfNums s),.int .i64 ty,.slice pd ds.length cd,.slice pf fs.length cf,.slice pi is.length ci,.slice pb bs.length cb,.slice qf fl.length cf',.slice qi li.length ci'] 86):=hide (by rw [← hW]; exact Box.new w _ _)
 have BW:Hid (Below w.heap.size w W):=hide (by rw [← hW]; exact al1p _ _)
 rw [hW]
 clear hW
 refine (uh CT0 _).mono ?_
 rintro e w1 ⟨v1,rfl,hO⟩
 obtain ⟨q1,d1,rfl,hl1,_⟩:=hO.form
 have L1:=hide hl1
 have O1:=hide hO.2
 clear hO hl1 CT0
 go_wp2_with (at_builtin; (refine wpList_append_ls rfl _ _ 22 rfl W 5 i1 (.int .u8 0) 1 Tryz.underlying22 hi1 y1 z1 b1 rfl (int_one .u8) _ [] rfl (OwnG.nil _ _ _ (uh O1)) q1 d1 V0 rfl (uh L1) (by simp only [List.length_nil]; unfold maxLen; omega) (by simp only [List.length_nil]; omega) ?_; intro vo wo O; rw [List.nil_append] at O; have xo:=((uh BX).below O.2).cell; have HO:=hide O; clear O))
 try rw [hx]
 refine (uh CT1 _).mono ?_
 rintro e w2 ⟨v2,rfl,hO⟩
 obtain ⟨q2,d2,rfl,hl2,_⟩:=hO.form
 have L2:=hide hl2
 replace HO:=hide ((uh HO).below hO.2)
 clear hO hl2
 go_wp2_with (at_builtin; (refine wpList_append_ls rfl _ _ 22 rfl W 5 i1 (.int .u8 0) 1 Tryz.underlying22 hi1 y1 z1 b1 rfl (int_one .u8) _ V0 rfl (uh HO) q2 d2 V1 rfl (uh L2) (by unfold maxLen; omega) (by omega) ?_; intro vo2 wo2 O; rw [uh HQ1] at O; have xo2:=((uh BX).below O.2).cell; replace HO:=hide O; clear O))
 refine (uh CTa _).mono ?_
 rintro e wa ⟨va,rfl,hO⟩
 obtain ⟨qa,da,rfl,hla,_⟩:=hO.form
 have La:=hide hla
 replace HO:=hide ((uh HO).below hO.2)
 clear hO hla
 go_wp2_with (at_builtin; (refine wpList_append_ls rfl _ _ 22 rfl W 5 i1 (.int .u8 0) 1 Tryz.underlying22 hi1 y1 z1 b1 rfl (int_one .u8) _ Q1 rfl (uh HO) qa da Va rfl (uh La) (by unfold maxLen; omega) (by omega) ?_; intro voa woa O; rw [uh HQ2] at O; have xoa:=((uh BX).below O.2).cell; replace HO:=hide O; clear O))
 try rw [show IntKind.u64.wrap 2 = 2 from rfl]
 refine (uh CTb _).mono ?_
 rintro e wb ⟨vb,rfl,hO⟩
 obtain ⟨qb,db,rfl,hlb,_⟩:=hO.form
 have Lb:=hide hlb
 replace HO:=hide ((uh HO).below hO.2)
 clear hO hlb
 go_wp2_with (at_builtin; (refine wpList_append_ls rfl _ _ 22 rfl W 5 i1 (.int .u8 0) 1 Tryz.underlying22 hi1 y1 z1 b1 rfl (int_one .u8) _ Q2 rfl (uh HO) qb db Vb rfl (uh Lb) (by unfold maxLen; omega) (by omega) ?_; intro vob wob O; have xob:=((uh BX).below O.2).cell; replace HO:=hide O; clear O))
 go_ret
 exact ⟨_,rfl,OwnG.onto (uh BW) (uh HO)⟩
theorem rattrOf_7 (a:AtA) {B:Nat} (w:World) (h:AtIn B w a) (hm:AtSm a) (hk:a.kd = 7) :
  Calls Tryz.prog 76 #[.agg (atCells a).toArray] w fun e w' => ∃ v,e = .returned v ∧ OwnG 5 (Value.int .u8) w w' v (msgB (attrF a.d)):=by
 obtain ⟨i1,hi1,y1,z1,b1⟩:=info_parts Tryz.infoU8
 obtain ⟨nm,kd,f,i,s,⟨ty,ds,fs,is,bs⟩,⟨pd,cd,pf,cf,pi,ci,pb,cb⟩,fl,qf,cf',li,qi,ci'⟩:=a
 obtain ⟨g1,g2,g3,g4,g5,g6,⟨g7,g8⟩,g9,g10⟩:=h
 obtain ⟨m1,m2,m3,m4,m5,m6,m7,m8⟩:=hm
 simp only at hk g1 g3 g4 g5 g6 g7 g9 m1 m2 m3 m4 m5 m6 m7 m8
 subst hk
 have TI:=hide g6.1
 have IF:=hide g7
 have II:=hide g9
 have HS5:=hide g5
 have CT0:=hide (fun v => rword_any 1 nm v g1 (by decide) (by decide) (by omega))
 have lv0:=word_len 1 nm
 have CTa:=hide (fun v => rvarint_any 160 v (by decide) (by decide))
 have lva:=(varV_len 160).2
 have CTb:=hide (fun v => rvarint_any 7 v (by decide) (by decide))
 have lvb:=(varV_len 7).2
 have CTp:=hide (fun v hh => rpacked_any 8 qi ci' li v hh (by decide) (by decide) (by omega))
 have lv1:=pack_len 8 li
 have HV:Hid (msgB (attrF (AtA.d ⟨nm,7,f,i,s,(ty,ds,fs,is,bs),⟨pd,cd,pf,cf,pi,ci,pb,cb⟩,fl,qf,cf',li,qi,ci'⟩)) = ((msgB (wordF 1 nm) ++ msgB (packF 8 li)) ++ varV 160) ++ varV 7):=hide (by
  rw [show attrF (AtA.d ⟨nm,7,f,i,s,(ty,ds,fs,is,bs),⟨pd,cd,pf,cf,pi,ci,pb,cb⟩,fl,qf,cf',li,qi,ci'⟩) = wordF 1 nm ++ packF 8 li ++ [numF 20 7] from rfl,msg_app,msg_app,msg_one,field_num 20 7]
  simp only [List.append_assoc]; rfl)
 generalize msgB (packF 8 li) = V1 at CTp lv1 HV
 generalize varV 160 = Va at CTa lva HV
 generalize varV 7 = Vb at CTb lvb HV
 generalize msgB (wordF 1 nm) = V0 at CT0 lv0 HV
 rw [uh HV]
 obtain ⟨Q1,hQ1⟩:∃ Q,V0 ++ V1 = Q:=⟨_,rfl⟩
 have lQ1:Q1.length ≤ 200000 + 1 * 200000000:=by rw [← hQ1,List.length_append]; omega
 rw [hQ1]
 have HQ1:=hide hQ1
 clear hQ1
 obtain ⟨Q2,hQ2⟩:∃ Q,Q1 ++ Va = Q:=⟨_,rfl⟩
 have lQ2:Q2.length ≤ 200000 + 2 * 200000000:=by rw [← hQ2,List.length_append]; omega
 rw [hQ2]
 have HQ2:=hide hQ2
 clear hQ2
 unfold strV at CT0
 unfold atCells tenCells strV
 simp only [List.cons_append,List.nil_append]
 clear HV g1 g2 g5 g6 g7 g8 g9 g10
 go_enter Tryz.func76,Tryz.ntmps76
 go_wp2_with fail
 obtain ⟨W,hW⟩:∃ W,(w.alloc (Obj.cells #[.string (strOfNums nm),.int .i64 7,.int .u32 f,.int .i64 i,.string (strOfNums s),.int .i64 ty,.slice pd ds.length cd,.slice pf fs.length cf,.slice pi is.length ci,.slice pb bs.length cb,.slice qf fl.length cf',.slice qi li.length ci'] 86)) = W:=⟨_,rfl⟩
 have BX:Hid (Box W w.heap.size #[.string (strOfNums nm),.int .i64 7,.int .u32 f,.int .i64 i,.string (strOfNums s),.int .i64 ty,.slice pd ds.length cd,.slice pf fs.length cf,.slice pi is.length ci,.slice pb bs.length cb,.slice qf fl.length cf',.slice qi li.length ci'] 86):=hide (by rw [← hW]; exact Box.new w _ _)
 have BW:Hid (Below w.heap.size w W):=hide (by rw [← hW]; exact al1p _ _)
 rw [hW]
 clear hW
 refine (uh CT0 _).mono ?_
 rintro e w1 ⟨v1,rfl,hO⟩
 obtain ⟨q1,d1,rfl,hl1,_⟩:=hO.form
 have L1:=hide hl1
 have O1:=hide hO.2
 clear hO hl1 CT0
 go_wp2_with (at_builtin; (refine wpList_append_ls rfl _ _ 22 rfl W 5 i1 (.int .u8 0) 1 Tryz.underlying22 hi1 y1 z1 b1 rfl (int_one .u8) _ [] rfl (OwnG.nil _ _ _ (uh O1)) q1 d1 V0 rfl (uh L1) (by simp only [List.length_nil]; unfold maxLen; omega) (by simp only [List.length_nil]; omega) ?_; intro vo wo O; rw [List.nil_append] at O; have xo:=((uh BX).below O.2).cell; have HO:=hide O; clear O))
 refine (uh CTp _ ((uh II).below (bl_tr (uh BW) (uh HO).2))).mono ?_
 rintro e w2 ⟨v2,rfl,hO⟩
 obtain ⟨q2,d2,rfl,hl2,_⟩:=hO.form
 have L2:=hide hl2
 replace HO:=hide ((uh HO).below hO.2)
 clear hO hl2
 go_wp2_with (at_builtin; (refine wpList_append_ls rfl _ _ 22 rfl W 5 i1 (.int .u8 0) 1 Tryz.underlying22 hi1 y1 z1 b1 rfl (int_one .u8) _ V0 rfl (uh HO) q2 d2 V1 rfl (uh L2) (by unfold maxLen; omega) (by omega) ?_; intro vo2 wo2 O; rw [uh HQ1] at O; have xo2:=((uh BX).below O.2).cell; replace HO:=hide O; clear O))
 refine (uh CTa _).mono ?_
 rintro e wa ⟨va,rfl,hO⟩
 obtain ⟨qa,da,rfl,hla,_⟩:=hO.form
 have La:=hide hla
 replace HO:=hide ((uh HO).below hO.2)
 clear hO hla
 go_wp2_with (at_builtin; (refine wpList_append_ls rfl _ _ 22 rfl W 5 i1 (.int .u8 0) 1 Tryz.underlying22 hi1 y1 z1 b1 rfl (int_one .u8) _ Q1 rfl (uh HO) qa da Va rfl (uh La) (by unfold maxLen; omega) (by omega) ?_; intro voa woa O; rw [uh HQ2] at O; have xoa:=((uh BX).below O.2).cell; replace HO:=hide O; clear O))
 try rw [show IntKind.u64.wrap 7 = 7 from rfl]
 refine (uh CTb _).mono ?_
 rintro e wb ⟨vb,rfl,hO⟩
 obtain ⟨qb,db,rfl,hlb,_⟩:=hO.form
 have Lb:=hide hlb
 replace HO:=hide ((uh HO).below hO.2)
 clear hO hlb
 go_wp2_with (at_builtin; (refine wpList_append_ls rfl _ _ 22 rfl W 5 i1 (.int .u8 0) 1 Tryz.underlying22 hi1 y1 z1 b1 rfl (int_one .u8) _ Q2 rfl (uh HO) qb db Vb rfl (uh Lb) (by unfold maxLen; omega) (by omega) ?_; intro vob wob O; have xob:=((uh BX).below O.2).cell; replace HO:=hide O; clear O))
 go_ret
 exact ⟨_,rfl,OwnG.onto (uh BW) (uh HO)⟩
theorem rattrOf_4 (a:AtA) {B:Nat} (w:World) (h:AtIn B w a) (hm:AtSm a) (hk:a.kd = 4) :
  Calls Tryz.prog 76 #[.agg (atCells a).toArray] w fun e w' => ∃ v,e = .returned v ∧ OwnG 5 (Value.int .u8) w w' v (msgB (attrF a.d)):=by
 obtain ⟨i1,hi1,y1,z1,b1⟩:=info_parts Tryz.infoU8
 obtain ⟨nm,kd,f,i,s,⟨ty,ds,fs,is,bs⟩,⟨pd,cd,pf,cf,pi,ci,pb,cb⟩,fl,qf,cf',li,qi,ci'⟩:=a
 obtain ⟨g1,g2,g3,g4,g5,g6,⟨g7,g8⟩,g9,g10⟩:=h
 obtain ⟨m1,m2,m3,m4,m5,m6,m7,m8⟩:=hm
 simp only at hk g1 g3 g4 g5 g6 g7 g9 m1 m2 m3 m4 m5 m6 m7 m8
 subst hk
 have TI:=hide g6.1
 have IF:=hide g7
 have II:=hide g9
 have HS5:=hide g5
 have CT0:=hide (fun v => rword_any 1 nm v g1 (by decide) (by decide) (by omega))
 have lv0:=word_len 1 nm
 have CTa:=hide (fun v => rvarint_any 160 v (by decide) (by decide))
 have lva:=(varV_len 160).2
 have CTb:=hide (fun v => rvarint_any 4 v (by decide) (by decide))
 have lvb:=(varV_len 4).2
 have CTt:=hide (fun v hh => rtensorOf_any [] (ty,ds,fs,is,bs) ⟨pd,cd,pf,cf,pi,ci,pb,cb⟩ v (fun _ h => by cases h) hh (by simp) m5 m6 m7 m8)
 have lt:=tens_len (ty,ds,fs,is,bs) m5 m6 m7 m8
 have CTk:=hide (fun p c b v hh hs => rblock_any 5 p c b v hh (by decide) (by decide) hs)
 have lv1:=fblk_len 5 (msgB (tensF [] (ty,ds,fs,is,bs)))
 have HV:Hid (msgB (attrF (AtA.d ⟨nm,4,f,i,s,(ty,ds,fs,is,bs),⟨pd,cd,pf,cf,pi,ci,pb,cb⟩,fl,qf,cf',li,qi,ci'⟩)) = ((msgB (wordF 1 nm) ++ fieldB (blkF 5 (msgB (tensF [] (ty,ds,fs,is,bs))))) ++ varV 160) ++ varV 4):=hide (by
  rw [show attrF (AtA.d ⟨nm,4,f,i,s,(ty,ds,fs,is,bs),⟨pd,cd,pf,cf,pi,ci,pb,cb⟩,fl,qf,cf',li,qi,ci'⟩) = wordF 1 nm ++ [blkF 5 (msgB (tensF [] (ty,ds,fs,is,bs)))] ++ [numF 20 4] from rfl,msg_app,msg_app,msg_one,msg_one,field_num 20 4]
  simp only [List.append_assoc]; rfl)
 generalize msgB (tensF [] (ty,ds,fs,is,bs)) = VT at CTt lt lv1 HV
 obtain ⟨V1,hV1⟩:∃ V,fieldB (blkF 5 VT) = V:=⟨_,rfl⟩
 rw [hV1] at lv1 HV
 have HV1:=hide hV1
 clear hV1
 unfold strV tenV tenCells at CTt
 simp only at CTt
 generalize varV 160 = Va at CTa lva HV
 generalize varV 4 = Vb at CTb lvb HV
 generalize msgB (wordF 1 nm) = V0 at CT0 lv0 HV
 rw [uh HV]
 obtain ⟨Q1,hQ1⟩:∃ Q,V0 ++ V1 = Q:=⟨_,rfl⟩
 have lQ1:Q1.length ≤ 200000 + 1 * 200000000:=by rw [← hQ1,List.length_append]; omega
 rw [hQ1]
 have HQ1:=hide hQ1
 clear hQ1
 obtain ⟨Q2,hQ2⟩:∃ Q,Q1 ++ Va = Q:=⟨_,rfl⟩
 have lQ2:Q2.length ≤ 200000 + 2 * 200000000:=by rw [← hQ2,List.length_append]; omega
 rw [hQ2]
 have HQ2:=hide hQ2
 clear hQ2
 unfold strV at CT0
 unfold atCells tenCells strV
 simp only [List.cons_append,List.nil_append]
 clear HV g1 g2 g5 g6 g7 g8 g9 g10
 go_enter Tryz.func76,Tryz.ntmps76
 go_wp2_with fail
 obtain ⟨W,hW⟩:∃ W,(w.alloc (Obj.cells #[.string (strOfNums nm),.int .i64 4,.int .u32 f,.int .i64 i,.string (strOfNums s),.int .i64 ty,.slice pd ds.length cd,.slice pf fs.length cf,.slice pi is.length ci,.slice pb bs.length cb,.slice qf fl.length cf',.slice qi li.length ci'] 86)) = W:=⟨_,rfl⟩
 have BX:Hid (Box W w.heap.size #[.string (strOfNums nm),.int .i64 4,.int .u32 f,.int .i64 i,.string (strOfNums s),.int .i64 ty,.slice pd ds.length cd,.slice pf fs.length cf,.slice pi is.length ci,.slice pb bs.length cb,.slice qf fl.length cf',.slice qi li.length ci'] 86):=hide (by rw [← hW]; exact Box.new w _ _)
 have BW:Hid (Below w.heap.size w W):=hide (by rw [← hW]; exact al1p _ _)
 rw [hW]
 clear hW
 refine (uh CT0 _).mono ?_
 rintro e w1 ⟨v1,rfl,hO⟩
 obtain ⟨q1,d1,rfl,hl1,_⟩:=hO.form
 have L1:=hide hl1
 have O1:=hide hO.2
 clear hO hl1 CT0
 go_wp2_with (at_builtin; (refine wpList_append_ls rfl _ _ 22 rfl W 5 i1 (.int .u8 0) 1 Tryz.underlying22 hi1 y1 z1 b1 rfl (int_one .u8) _ [] rfl (OwnG.nil _ _ _ (uh O1)) q1 d1 V0 rfl (uh L1) (by simp only [List.length_nil]; unfold maxLen; omega) (by simp only [List.length_nil]; omega) ?_; intro vo wo O; rw [List.nil_append] at O; have xo:=((uh BX).below O.2).cell; have HO:=hide O; clear O))
 refine (uh CTt _ ((uh TI).below (bl_tr (uh BW) (uh HO).2))).mono ?_
 rintro e wt ⟨vt,rfl,hO⟩
 obtain ⟨qt,dt,rfl,hlt,_⟩:=hO.form
 have Lt:=hide hlt
 replace HO:=hide ((uh HO).below hO.2)
 clear hO hlt
 go_wp2_with fail
 refine (uh CTk qt dt VT _ (uh Lt) (by omega)).mono ?_
 rintro e w2 ⟨v2,rfl,hO⟩
 rw [uh HV1] at hO
 obtain ⟨q2,d2,rfl,hl2,_⟩:=hO.form
 have L2:=hide hl2
 replace HO:=hide ((uh HO).below hO.2)
 clear hO hl2
 go_wp2_with (at_builtin; (refine wpList_append_ls rfl _ _ 22 rfl W 5 i1 (.int .u8 0) 1 Tryz.underlying22 hi1 y1 z1 b1 rfl (int_one .u8) _ V0 rfl (uh HO) q2 d2 V1 rfl (uh L2) (by unfold maxLen; omega) (by omega) ?_; intro vo2 wo2 O; rw [uh HQ1] at O; have xo2:=((uh BX).below O.2).cell; replace HO:=hide O; clear O))
 refine (uh CTa _).mono ?_
 rintro e wa ⟨va,rfl,hO⟩
 obtain ⟨qa,da,rfl,hla,_⟩:=hO.form
 have La:=hide hla
 replace HO:=hide ((uh HO).below hO.2)
 clear hO hla
 go_wp2_with (at_builtin; (refine wpList_append_ls rfl _ _ 22 rfl W 5 i1 (.int .u8 0) 1 Tryz.underlying22 hi1 y1 z1 b1 rfl (int_one .u8) _ Q1 rfl (uh HO) qa da Va rfl (uh La) (by unfold maxLen; omega) (by omega) ?_; intro voa woa O; rw [uh HQ2] at O; have xoa:=((uh BX).below O.2).cell; replace HO:=hide O; clear O))
 try rw [show IntKind.u64.wrap 4 = 4 from rfl]
 refine (uh CTb _).mono ?_
 rintro e wb ⟨vb,rfl,hO⟩
 obtain ⟨qb,db,rfl,hlb,_⟩:=hO.form
 have Lb:=hide hlb
 replace HO:=hide ((uh HO).below hO.2)
 clear hO hlb
 go_wp2_with (at_builtin; (refine wpList_append_ls rfl _ _ 22 rfl W 5 i1 (.int .u8 0) 1 Tryz.underlying22 hi1 y1 z1 b1 rfl (int_one .u8) _ Q2 rfl (uh HO) qb db Vb rfl (uh Lb) (by unfold maxLen; omega) (by omega) ?_; intro vob wob O; have xob:=((uh BX).below O.2).cell; replace HO:=hide O; clear O))
 go_ret
 exact ⟨_,rfl,OwnG.onto (uh BW) (uh HO)⟩
end Go.Proofs.YtmdlaahdgjegcaaGreat
