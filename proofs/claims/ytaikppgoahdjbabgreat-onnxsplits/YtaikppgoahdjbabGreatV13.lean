import Derived.Test.YtaikppgoahdjbabGreatV04
set_option maxRecDepth 100000
set_option maxHeartbeats 8000000
namespace Go.Proofs.YtaikppgoahdjbabGreat
open Go.RowKit
set_option linter.unusedVariables false
theorem rwriteO_any (p:Option Addr) (c:Nat) (l:List FA) (w:World) (h:Fls w p c l) (hd:sumD l ≤ 140737480000000) :
  Calls Tryz.prog 9 #[.slice p l.length c] w fun e w' => ∃ v,e = .returned (.tuple #[v,.int .i64 (writeV (l.map FA.f)).2]) ∧ Hid (OwnG 5 (Value.int .u8) w w' v (writeV (l.map FA.f)).1 ∧ isB (writeV (l.map FA.f)).1):=by
 obtain ⟨i1,hi1,y1,z1,b1⟩:=info_parts Tryz.infoU8
 have A1:=hide h.1
 have AI:=hide h.2
 have nl:=h.1.len
 have HV:Hid (∀ R,writeV (l.map FA.f) = R → R = if (l.map FA.f).all mayB = false then ([],1) else if 4194304 < (msgB (l.map FA.f)).length then ([],8) else (msgB (l.map FA.f),0)):=hide (fun R hR => by rw [← hR]; rfl)
 generalize hR:writeV (l.map FA.f) = R
 replace HV:=hide (uh HV R hR)
 clear hR h
 obtain ⟨R1,R2⟩:=R
 simp only
 go_enter Tryz.func9,Tryz.ntmps9
 go_wp2_with fail
 go_loopw [4] (fun iv wr => ∃ n:Nat,iv = .int .i64 n ∧ n ≤ l.length ∧ Hid (∀ i,i < n → mayB (l.getD i noFA).f = true) ∧ Hid (Below w.heap.size w wr)) (fun iv _ => l.length - (intOf iv).toNat)
 case atStart => exact ⟨0,rfl,by omega,hide (fun i hi => by omega),hide (Below.refl _ _)⟩
 case round =>
  obtain ⟨n,rfl,hn,HM,HB⟩:=hrel
  by_cases hlt:n < l.length
  ·have hi:(n:Int) < (l.length:Int):=by omega
   obtain ⟨b,o,rfl,hb,k0,k1,k2,k3⟩:=((uh A1).below (uh HB)).at hlt
   have MY:=hide (rmay_any (l.getD n noFA) _ ((uh AI _ (getD_memF hlt)).below (uh HB)))
   have HM2:Hid (mayB (l.getD n noFA).f = true → ∀ i,i < n + 1 → mayB (l.getD i noFA).f = true):=hide (fun hh i hi => by
    by_cases e:i = n
    ·subst e; exact hh
    ·exact uh HM i (by omega))
   have HN2:Hid (mayB (l.getD n noFA).f = false → (l.map FA.f).all mayB = false):=hide (fun hh => by
    rw [List.all_eq_false]
    exact ⟨_,List.mem_map.2 ⟨_,getD_memF hlt,rfl⟩,by rw [hh]; decide⟩)
   generalize mayB (l.getD n noFA).f = D at MY HM2 HN2
   generalize l.getD n noFA = a at k0 k1 k2 k3 MY
   unfold faV at MY
   cases D
   ·have HE:Hid (R1 = [] ∧ R2 = 1):=hide (by have:=uh HV; rw [if_pos (uh HN2 rfl)] at this; simpa using this)
    go_wp2_with fail
    refine (uh MY).mono ?_
    rintro e w1 ⟨rfl,hb1⟩
    have BB:=hide (bl_tr (uh HB) hb1)
    clear hb1
    go_wp2_with fail
    go_ret2
    obtain ⟨g1,g2⟩:=uh HE
    subst g1 g2
    exact ⟨_,rfl,hide ⟨OwnG.nil _ _ _ (uh BB),fun c hc => by cases hc⟩⟩
   ·have HM3:=hide (uh HM2 rfl)
    go_wp2_with fail
    refine (uh MY).mono ?_
    rintro e w1 ⟨rfl,hb1⟩
    have BB:=hide (bl_tr (uh HB) hb1)
    clear hb1
    go_wp2_with fail
    go_roundw
    case rel => exact ⟨n + 1,by go_num,by omega,HM3,BB⟩
    case measure => simp [intOf]; omega
  ·have hi:¬ (n:Int) < (l.length:Int):=by omega
   have HALL:Hid (∀ i,i < l.length → mayF (l.getD i noFA).f):=hide (fun i hi => (mayB_iff _).1 (uh HM i (by omega)))
   have HV2:Hid ((R1,R2) = if 4194304 < (msgB (l.map FA.f)).length then ([],8) else (msgB (l.map FA.f),0)):=hide (by
    have h1:¬ (l.map FA.f).all mayB = false:=by
     have:(l.map FA.f).all mayB = true:=List.all_eq_true.2 (fun f hf => by
      obtain ⟨a,ha,rfl⟩:=List.mem_map.1 hf
      obtain ⟨i,hi,rfl⟩:=List.getElem_of_mem ha
      have:=uh HM i (by omega)
      rw [List.getD_eq_getElem?_getD,List.getElem?_eq_getElem hi] at this
      exact this)
     rw [this]; decide
    have:=uh HV
    rw [if_neg h1] at this
    exact this)
   clear HV HM
   go_wp2_with fail
   go_loopw [5,6] (fun v iv wr => ∃ n:Nat,iv = .int .i64 n ∧ n ≤ l.length ∧ (mpre l n).length ≤ 4194304 ∧ Hid (OwnG 5 (Value.int .u8) w wr v (mpre l n))) (fun _ iv _ => l.length - (intOf iv).toNat)
   case atStart => exact ⟨0,rfl,by omega,by simp [mpre,msgB],hide (OwnG.nil _ _ _ (uh HB))⟩
   case round =>
    obtain ⟨n,rfl,hn,hml,O⟩:=hrel
    by_cases hlt:n < l.length
    ·have hi:(n:Int) < (l.length:Int):=by omega
     obtain ⟨b,o,rfl,hb,k0,k1,k2,k3⟩:=((uh A1).below (uh O).2).at hlt
     have HF:=hide (msg_step hlt)
     have HI:=hide (uh AI _ (getD_memF hlt))
     obtain ⟨m1,m2,m3⟩:=uh HALL n hlt
     have hdl:=sumD_mem (getD_memF hlt)
     generalize l.getD n noFA = a at k0 k1 k2 k3 HF HI m1 m2 m3 hdl
     simp only [FA.f] at m1 m2 m3
     obtain ⟨x0',x1'⟩:=u64_range (uh HI).2.2.1
     obtain ⟨P,hP⟩:∃ P,mpre l n = P:=⟨_,rfl⟩
     have HFE:Hid (mpre l (n + 1) = P ++ fieldB a.f):=hide (by rw [← hP]; exact uh HF)
     rw [hP] at hml O
     clear HF hP
     have O0:=hide ((uh O).below (al1p wr (Obj.cells #[.int .i64 a.n,.int .i64 a.wr,.int .u64 a.x,.slice a.q a.d.length a.c] 63)))
     have X0:=hide (Box.new wr #[.int .i64 a.n,.int .i64 a.wr,.int .u64 a.x,.slice a.q a.d.length a.c] 63)
     have zt:0 ≤ a.n * 8 + a.wr:=by omega
     have zu:a.n * 8 + a.wr < 18446744073709551616:=by omega
     have VT:=hide (fun v => rvarint_any (a.n * 8 + a.wr) v zt zu)
     have vl:=varV_len (a.n * 8 + a.wr)
     obtain ⟨V1,hV1⟩:∃ V1,varV (a.n * 8 + a.wr) = V1:=⟨_,rfl⟩
     have HV1:=hide hV1
     rw [hV1] at VT vl
     clear hV1
     have hw4:a.wr = 0 ∨ a.wr = 1 ∨ a.wr = 5 ∨ a.wr = 2:=by omega
     have wb:0 ≤ a.wr ∧ a.wr ≤ 5:=by omega
     obtain ⟨wb0,wb1⟩:=wb
     clear m3
     rcases hw4 with hw | hw | hw | hw
     ·have HFF0:Hid (fieldB a.f = V1 ++ (varV a.x)):=hide (by rw [← uh HV1]; unfold fieldB bodyB FA.f; simp [hw])
      have VX:=hide (fun v => rvarint_any a.x v x0' x1')
      have vl2:(varV a.x).length ≤ 10:=(varV_len _).2
      have t0:(a.wr == 0) = true:=by simp [hw]
      obtain ⟨V2,hV2⟩:∃ V2,varV a.x = V2:=⟨_,rfl⟩
      rw [hV2] at VX vl2 HFF0
      have HFF:Hid (mpre l (n + 1) = P ++ V1 ++ V2):=hide (by rw [uh HFE,uh HFF0]; simp [List.append_assoc])
      obtain ⟨T,hT⟩:∃ T,(mpre l (n + 1)).length = T:=⟨_,rfl⟩
      have HT:=hide hT
      clear hT hV2 hw HFF0 HFE zt zu
      by_cases hbig:4194304 < T
      ·have hbi:(4194304:Int) < (T:Int):=by omega
       have HE:Hid (R1 = [] ∧ R2 = 8):=hide (by
        have h1:=msg_take (l:=l) (n + 1)
        rw [uh HT] at h1
        have:=uh HV2
        rw [if_pos (by omega)] at this
        simpa using this)
       go_wp2_with fail
       refine (uh VT _).mono ?_
       rintro e U1 ⟨u1,rfl,hO⟩
       obtain ⟨q1,c1,rfl,hL,_⟩:=hO.form
       have L1:=hide hL
       have P1:=hide ((uh O0).below hO.2)
       have Y1:=hide ((uh X0).below hO.2)
       have x1:=(uh Y1).cell
       clear hO hL
       go_wp2_with (at_builtin; (refine wpList_append_lsG rfl _ _ 28 rfl w 5 i1 (.int .u8 0) 1 Tryz.underlying28 hi1 y1 z1 b1 rfl (int_one .u8) _ (P) rfl (uh P1) q1 c1 V1 rfl (uh L1) (by unfold maxLen; simp <;> omega) (by simp <;> omega) ?_; intro v1 W1 O1 G1; have X1:=hide ((uh Y1).grown (uh P1) (by decide) G1); have OH1:=hide O1; clear O1 G1 x1; have x1b:=(uh X1).cell))
       refine (uh VX _).mono ?_
       rintro e U2 ⟨u2,rfl,hO⟩
       obtain ⟨q2,c2,rfl,hL,_⟩:=hO.form
       have L2:=hide hL
       have P2:=hide ((uh OH1).below hO.2)
       have Y2:=hide ((uh X1).below hO.2)
       have x2:=(uh Y2).cell
       clear hO hL x1b
       go_wp2_with (at_builtin; (refine wpList_append_lsG rfl _ _ 28 rfl w 5 i1 (.int .u8 0) 1 Tryz.underlying28 hi1 y1 z1 b1 rfl (int_one .u8) _ (P ++ V1) rfl (uh P2) q2 c2 V2 rfl (uh L2) (by unfold maxLen; simp <;> omega) (by simp <;> omega) ?_; intro v2 W2 O2 G2; have X2:=hide ((uh Y2).grown (uh P2) (by decide) G2); have OE:=hide (own_eq6 O2 (uh HFF).symm); obtain ⟨qe,ce,he,_,_⟩:=(uh OE).form; rw [uh HT] at he; subst he; clear O2 G2 x2; have x2b:=(uh X2).cell))
       go_ret2
       have BB:=(uh OE).2
       obtain ⟨g1,g2⟩:=uh HE
       subst g1 g2
       exact ⟨_,rfl,hide ⟨OwnG.nil _ _ _ BB,fun c hc => by cases hc⟩⟩
      ·have hbi:¬ (4194304:Int) < (T:Int):=by omega
       go_wp2_with fail
       refine (uh VT _).mono ?_
       rintro e U1 ⟨u1,rfl,hO⟩
       obtain ⟨q1,c1,rfl,hL,_⟩:=hO.form
       have L1:=hide hL
       have P1:=hide ((uh O0).below hO.2)
       have Y1:=hide ((uh X0).below hO.2)
       have x1:=(uh Y1).cell
       clear hO hL
       go_wp2_with (at_builtin; (refine wpList_append_lsG rfl _ _ 28 rfl w 5 i1 (.int .u8 0) 1 Tryz.underlying28 hi1 y1 z1 b1 rfl (int_one .u8) _ (P) rfl (uh P1) q1 c1 V1 rfl (uh L1) (by unfold maxLen; simp <;> omega) (by simp <;> omega) ?_; intro v1 W1 O1 G1; have X1:=hide ((uh Y1).grown (uh P1) (by decide) G1); have OH1:=hide O1; clear O1 G1 x1; have x1b:=(uh X1).cell))
       refine (uh VX _).mono ?_
       rintro e U2 ⟨u2,rfl,hO⟩
       obtain ⟨q2,c2,rfl,hL,_⟩:=hO.form
       have L2:=hide hL
       have P2:=hide ((uh OH1).below hO.2)
       have Y2:=hide ((uh X1).below hO.2)
       have x2:=(uh Y2).cell
       clear hO hL x1b
       go_wp2_with (at_builtin; (refine wpList_append_lsG rfl _ _ 28 rfl w 5 i1 (.int .u8 0) 1 Tryz.underlying28 hi1 y1 z1 b1 rfl (int_one .u8) _ (P ++ V1) rfl (uh P2) q2 c2 V2 rfl (uh L2) (by unfold maxLen; simp <;> omega) (by simp <;> omega) ?_; intro v2 W2 O2 G2; have X2:=hide ((uh Y2).grown (uh P2) (by decide) G2); have OE:=hide (own_eq6 O2 (uh HFF).symm); obtain ⟨qe,ce,he,_,_⟩:=(uh OE).form; rw [uh HT] at he; subst he; clear O2 G2 x2; have x2b:=(uh X2).cell))
       go_roundw
       case rel => exact ⟨n + 1,by go_num,by omega,by have:=uh HT; omega,OE⟩
       case measure => simp [intOf]; omega
     ·have HFF0:Hid (fieldB a.f = V1 ++ (fxL a.x 8)):=hide (by rw [← uh HV1]; unfold fieldB bodyB FA.f; simp [hw])
      have VX:=hide (fun v => (rfixed_any a.x 8 v x0' x1' (by omega):Calls Tryz.prog 26 #[.int .u64 a.x,.int .i64 8] v fun e w' => ∃ u,e = .returned u ∧ OwnG 5 (Value.int .u8) v w' u (fxL a.x 8)))
      have vl2:(fxL a.x 8).length ≤ 10:=by rw [fxL_length]; omega
      have t0:(a.wr == 0) = false:=by simp [hw]
      have t1:(a.wr == 1) = true:=by simp [hw]
      obtain ⟨V2,hV2⟩:∃ V2,fxL a.x 8 = V2:=⟨_,rfl⟩
      rw [hV2] at VX vl2 HFF0
      have HFF:Hid (mpre l (n + 1) = P ++ V1 ++ V2):=hide (by rw [uh HFE,uh HFF0]; simp [List.append_assoc])
      obtain ⟨T,hT⟩:∃ T,(mpre l (n + 1)).length = T:=⟨_,rfl⟩
      have HT:=hide hT
      clear hT hV2 hw HFF0 HFE zt zu
      by_cases hbig:4194304 < T
      ·have hbi:(4194304:Int) < (T:Int):=by omega
       have HE:Hid (R1 = [] ∧ R2 = 8):=hide (by
        have h1:=msg_take (l:=l) (n + 1)
        rw [uh HT] at h1
        have:=uh HV2
        rw [if_pos (by omega)] at this
        simpa using this)
       go_wp2_with fail
       refine (uh VT _).mono ?_
       rintro e U1 ⟨u1,rfl,hO⟩
       obtain ⟨q1,c1,rfl,hL,_⟩:=hO.form
       have L1:=hide hL
       have P1:=hide ((uh O0).below hO.2)
       have Y1:=hide ((uh X0).below hO.2)
       have x1:=(uh Y1).cell
       clear hO hL
       go_wp2_with (at_builtin; (refine wpList_append_lsG rfl _ _ 28 rfl w 5 i1 (.int .u8 0) 1 Tryz.underlying28 hi1 y1 z1 b1 rfl (int_one .u8) _ (P) rfl (uh P1) q1 c1 V1 rfl (uh L1) (by unfold maxLen; simp <;> omega) (by simp <;> omega) ?_; intro v1 W1 O1 G1; have X1:=hide ((uh Y1).grown (uh P1) (by decide) G1); have OH1:=hide O1; clear O1 G1 x1; have x1b:=(uh X1).cell))
       refine (uh VX _).mono ?_
       rintro e U2 ⟨u2,rfl,hO⟩
       obtain ⟨q2,c2,rfl,hL,_⟩:=hO.form
       have L2:=hide hL
       have P2:=hide ((uh OH1).below hO.2)
       have Y2:=hide ((uh X1).below hO.2)
       have x2:=(uh Y2).cell
       clear hO hL x1b
       go_wp2_with (at_builtin; (refine wpList_append_lsG rfl _ _ 28 rfl w 5 i1 (.int .u8 0) 1 Tryz.underlying28 hi1 y1 z1 b1 rfl (int_one .u8) _ (P ++ V1) rfl (uh P2) q2 c2 V2 rfl (uh L2) (by unfold maxLen; simp <;> omega) (by simp <;> omega) ?_; intro v2 W2 O2 G2; have X2:=hide ((uh Y2).grown (uh P2) (by decide) G2); have OE:=hide (own_eq6 O2 (uh HFF).symm); obtain ⟨qe,ce,he,_,_⟩:=(uh OE).form; rw [uh HT] at he; subst he; clear O2 G2 x2; have x2b:=(uh X2).cell))
       go_ret2
       have BB:=(uh OE).2
       obtain ⟨g1,g2⟩:=uh HE
       subst g1 g2
       exact ⟨_,rfl,hide ⟨OwnG.nil _ _ _ BB,fun c hc => by cases hc⟩⟩
      ·have hbi:¬ (4194304:Int) < (T:Int):=by omega
       go_wp2_with fail
       refine (uh VT _).mono ?_
       rintro e U1 ⟨u1,rfl,hO⟩
       obtain ⟨q1,c1,rfl,hL,_⟩:=hO.form
       have L1:=hide hL
       have P1:=hide ((uh O0).below hO.2)
       have Y1:=hide ((uh X0).below hO.2)
       have x1:=(uh Y1).cell
       clear hO hL
       go_wp2_with (at_builtin; (refine wpList_append_lsG rfl _ _ 28 rfl w 5 i1 (.int .u8 0) 1 Tryz.underlying28 hi1 y1 z1 b1 rfl (int_one .u8) _ (P) rfl (uh P1) q1 c1 V1 rfl (uh L1) (by unfold maxLen; simp <;> omega) (by simp <;> omega) ?_; intro v1 W1 O1 G1; have X1:=hide ((uh Y1).grown (uh P1) (by decide) G1); have OH1:=hide O1; clear O1 G1 x1; have x1b:=(uh X1).cell))
       refine (uh VX _).mono ?_
       rintro e U2 ⟨u2,rfl,hO⟩
       obtain ⟨q2,c2,rfl,hL,_⟩:=hO.form
       have L2:=hide hL
       have P2:=hide ((uh OH1).below hO.2)
       have Y2:=hide ((uh X1).below hO.2)
       have x2:=(uh Y2).cell
       clear hO hL x1b
       go_wp2_with (at_builtin; (refine wpList_append_lsG rfl _ _ 28 rfl w 5 i1 (.int .u8 0) 1 Tryz.underlying28 hi1 y1 z1 b1 rfl (int_one .u8) _ (P ++ V1) rfl (uh P2) q2 c2 V2 rfl (uh L2) (by unfold maxLen; simp <;> omega) (by simp <;> omega) ?_; intro v2 W2 O2 G2; have X2:=hide ((uh Y2).grown (uh P2) (by decide) G2); have OE:=hide (own_eq6 O2 (uh HFF).symm); obtain ⟨qe,ce,he,_,_⟩:=(uh OE).form; rw [uh HT] at he; subst he; clear O2 G2 x2; have x2b:=(uh X2).cell))
       go_roundw
       case rel => exact ⟨n + 1,by go_num,by omega,by have:=uh HT; omega,OE⟩
       case measure => simp [intOf]; omega
     ·have HFF0:Hid (fieldB a.f = V1 ++ (fxL a.x 4)):=hide (by rw [← uh HV1]; unfold fieldB bodyB FA.f; simp [hw])
      have VX:=hide (fun v => (rfixed_any a.x 4 v x0' x1' (by omega):Calls Tryz.prog 26 #[.int .u64 a.x,.int .i64 4] v fun e w' => ∃ u,e = .returned u ∧ OwnG 5 (Value.int .u8) v w' u (fxL a.x 4)))
      have vl2:(fxL a.x 4).length ≤ 10:=by rw [fxL_length]; omega
      have t0:(a.wr == 0) = false:=by simp [hw]
      have t1:(a.wr == 1) = false:=by simp [hw]
      have t5:(a.wr == 5) = true:=by simp [hw]
      obtain ⟨V2,hV2⟩:∃ V2,fxL a.x 4 = V2:=⟨_,rfl⟩
      rw [hV2] at VX vl2 HFF0
      have HFF:Hid (mpre l (n + 1) = P ++ V1 ++ V2):=hide (by rw [uh HFE,uh HFF0]; simp [List.append_assoc])
      obtain ⟨T,hT⟩:∃ T,(mpre l (n + 1)).length = T:=⟨_,rfl⟩
      have HT:=hide hT
      clear hT hV2 hw HFF0 HFE zt zu
      by_cases hbig:4194304 < T
      ·have hbi:(4194304:Int) < (T:Int):=by omega
       have HE:Hid (R1 = [] ∧ R2 = 8):=hide (by
        have h1:=msg_take (l:=l) (n + 1)
        rw [uh HT] at h1
        have:=uh HV2
        rw [if_pos (by omega)] at this
        simpa using this)
       go_wp2_with fail
       refine (uh VT _).mono ?_
       rintro e U1 ⟨u1,rfl,hO⟩
       obtain ⟨q1,c1,rfl,hL,_⟩:=hO.form
       have L1:=hide hL
       have P1:=hide ((uh O0).below hO.2)
       have Y1:=hide ((uh X0).below hO.2)
       have x1:=(uh Y1).cell
       clear hO hL
       go_wp2_with (at_builtin; (refine wpList_append_lsG rfl _ _ 28 rfl w 5 i1 (.int .u8 0) 1 Tryz.underlying28 hi1 y1 z1 b1 rfl (int_one .u8) _ (P) rfl (uh P1) q1 c1 V1 rfl (uh L1) (by unfold maxLen; simp <;> omega) (by simp <;> omega) ?_; intro v1 W1 O1 G1; have X1:=hide ((uh Y1).grown (uh P1) (by decide) G1); have OH1:=hide O1; clear O1 G1 x1; have x1b:=(uh X1).cell))
       refine (uh VX _).mono ?_
       rintro e U2 ⟨u2,rfl,hO⟩
       obtain ⟨q2,c2,rfl,hL,_⟩:=hO.form
       have L2:=hide hL
       have P2:=hide ((uh OH1).below hO.2)
       have Y2:=hide ((uh X1).below hO.2)
       have x2:=(uh Y2).cell
       clear hO hL x1b
       go_wp2_with (at_builtin; (refine wpList_append_lsG rfl _ _ 28 rfl w 5 i1 (.int .u8 0) 1 Tryz.underlying28 hi1 y1 z1 b1 rfl (int_one .u8) _ (P ++ V1) rfl (uh P2) q2 c2 V2 rfl (uh L2) (by unfold maxLen; simp <;> omega) (by simp <;> omega) ?_; intro v2 W2 O2 G2; have X2:=hide ((uh Y2).grown (uh P2) (by decide) G2); have OE:=hide (own_eq6 O2 (uh HFF).symm); obtain ⟨qe,ce,he,_,_⟩:=(uh OE).form; rw [uh HT] at he; subst he; clear O2 G2 x2; have x2b:=(uh X2).cell))
       go_ret2
       have BB:=(uh OE).2
       obtain ⟨g1,g2⟩:=uh HE
       subst g1 g2
       exact ⟨_,rfl,hide ⟨OwnG.nil _ _ _ BB,fun c hc => by cases hc⟩⟩
      ·have hbi:¬ (4194304:Int) < (T:Int):=by omega
       go_wp2_with fail
       refine (uh VT _).mono ?_
       rintro e U1 ⟨u1,rfl,hO⟩
       obtain ⟨q1,c1,rfl,hL,_⟩:=hO.form
       have L1:=hide hL
       have P1:=hide ((uh O0).below hO.2)
       have Y1:=hide ((uh X0).below hO.2)
       have x1:=(uh Y1).cell
       clear hO hL
       go_wp2_with (at_builtin; (refine wpList_append_lsG rfl _ _ 28 rfl w 5 i1 (.int .u8 0) 1 Tryz.underlying28 hi1 y1 z1 b1 rfl (int_one .u8) _ (P) rfl (uh P1) q1 c1 V1 rfl (uh L1) (by unfold maxLen; simp <;> omega) (by simp <;> omega) ?_; intro v1 W1 O1 G1; have X1:=hide ((uh Y1).grown (uh P1) (by decide) G1); have OH1:=hide O1; clear O1 G1 x1; have x1b:=(uh X1).cell))
       refine (uh VX _).mono ?_
       rintro e U2 ⟨u2,rfl,hO⟩
       obtain ⟨q2,c2,rfl,hL,_⟩:=hO.form
       have L2:=hide hL
       have P2:=hide ((uh OH1).below hO.2)
       have Y2:=hide ((uh X1).below hO.2)
       have x2:=(uh Y2).cell
       clear hO hL x1b
       go_wp2_with (at_builtin; (refine wpList_append_lsG rfl _ _ 28 rfl w 5 i1 (.int .u8 0) 1 Tryz.underlying28 hi1 y1 z1 b1 rfl (int_one .u8) _ (P ++ V1) rfl (uh P2) q2 c2 V2 rfl (uh L2) (by unfold maxLen; simp <;> omega) (by simp <;> omega) ?_; intro v2 W2 O2 G2; have X2:=hide ((uh Y2).grown (uh P2) (by decide) G2); have OE:=hide (own_eq6 O2 (uh HFF).symm); obtain ⟨qe,ce,he,_,_⟩:=(uh OE).form; rw [uh HT] at he; subst he; clear O2 G2 x2; have x2b:=(uh X2).cell))
       go_roundw
       case rel => exact ⟨n + 1,by go_num,by omega,by have:=uh HT; omega,OE⟩
       case measure => simp [intOf]; omega
     ·have HFF0:Hid (fieldB a.f = V1 ++ (varV (a.d.length:Int) ++ a.d)):=hide (by rw [← uh HV1]; unfold fieldB bodyB FA.f; simp [hw])
      have VX:=hide (fun v => rvarint_any (a.d.length:Int) v (by omega) (by omega))
      have vl2:(varV (a.d.length:Int)).length ≤ 10:=(varV_len _).2
      have t0:(a.wr == 0) = false:=by simp [hw]
      have t1:(a.wr == 1) = false:=by simp [hw]
      have t5:(a.wr == 5) = false:=by simp [hw]
      obtain ⟨V2,hV2⟩:∃ V2,varV (a.d.length:Int) = V2:=⟨_,rfl⟩
      rw [hV2] at VX vl2 HFF0
      have HFF:Hid (mpre l (n + 1) = P ++ V1 ++ V2 ++ a.d):=hide (by rw [uh HFE,uh HFF0]; simp [List.append_assoc])
      obtain ⟨T,hT⟩:∃ T,(mpre l (n + 1)).length = T:=⟨_,rfl⟩
      have HT:=hide hT
      clear hT hV2 hw HFF0 HFE zt zu
      by_cases hbig:4194304 < T
      ·have hbi:(4194304:Int) < (T:Int):=by omega
       have HE:Hid (R1 = [] ∧ R2 = 8):=hide (by
        have h1:=msg_take (l:=l) (n + 1)
        rw [uh HT] at h1
        have:=uh HV2
        rw [if_pos (by omega)] at this
        simpa using this)
       go_wp2_with fail
       refine (uh VT _).mono ?_
       rintro e U1 ⟨u1,rfl,hO⟩
       obtain ⟨q1,c1,rfl,hL,_⟩:=hO.form
       have L1:=hide hL
       have P1:=hide ((uh O0).below hO.2)
       have Y1:=hide ((uh X0).below hO.2)
       have x1:=(uh Y1).cell
       clear hO hL
       go_wp2_with (at_builtin; (refine wpList_append_lsG rfl _ _ 28 rfl w 5 i1 (.int .u8 0) 1 Tryz.underlying28 hi1 y1 z1 b1 rfl (int_one .u8) _ (P) rfl (uh P1) q1 c1 V1 rfl (uh L1) (by unfold maxLen; simp <;> omega) (by simp <;> omega) ?_; intro v1 W1 O1 G1; have X1:=hide ((uh Y1).grown (uh P1) (by decide) G1); have OH1:=hide O1; clear O1 G1 x1; have x1b:=(uh X1).cell))
       refine (uh VX _).mono ?_
       rintro e U2 ⟨u2,rfl,hO⟩
       obtain ⟨q2,c2,rfl,hL,_⟩:=hO.form
       have L2:=hide hL
       have P2:=hide ((uh OH1).below hO.2)
       have Y2:=hide ((uh X1).below hO.2)
       have x2:=(uh Y2).cell
       clear hO hL x1b
       have AD:=hide (fun v (hv:Below w.heap.size w v) => ((uh HI).below hv).2.2.2.ls)
       have hdd:a.d.length ≤ 140737480000000:=by omega
       go_wp2_with (first
        | (at_builtin; (refine wpList_append_lsG rfl _ _ 28 rfl w 5 i1 (.int .u8 0) 1 Tryz.underlying28 hi1 y1 z1 b1 rfl (int_one .u8) _ (P ++ V1) rfl (uh P2) q2 c2 V2 rfl (uh L2) (by unfold maxLen; simp <;> omega) (by simp <;> omega) ?_; intro v2 W2 O2 G2; have X2:=hide ((uh Y2).grown (uh P2) (by decide) G2); have OH2:=hide O2; have P3:=OH2; have Y3:=X2; clear O2 G2 x2; have x2b:=(uh X2).cell))
        | (at_builtin; (refine wpList_append_lsG rfl _ _ 28 rfl w 5 i1 (.int .u8 0) 1 Tryz.underlying28 hi1 y1 z1 b1 rfl (int_one .u8) _ (P ++ V1 ++ V2) rfl (uh P3) a.q a.c a.d rfl (uh AD _ (uh P3).2) (by unfold maxLen; simp <;> omega) (by simp <;> omega) ?_; intro v3 W3 O3 G3; have X3:=hide ((uh Y3).grown (uh P3) (by decide) G3); have OE:=hide (own_eq6 O3 (uh HFF).symm); obtain ⟨qe,ce,he,_,_⟩:=(uh OE).form; rw [uh HT] at he; subst he; clear O3 G3; have x3b:=(uh X3).cell)))
       go_ret2
       have BB:=(uh OE).2
       obtain ⟨g1,g2⟩:=uh HE
       subst g1 g2
       exact ⟨_,rfl,hide ⟨OwnG.nil _ _ _ BB,fun c hc => by cases hc⟩⟩
      ·have hbi:¬ (4194304:Int) < (T:Int):=by omega
       go_wp2_with fail
       refine (uh VT _).mono ?_
       rintro e U1 ⟨u1,rfl,hO⟩
       obtain ⟨q1,c1,rfl,hL,_⟩:=hO.form
       have L1:=hide hL
       have P1:=hide ((uh O0).below hO.2)
       have Y1:=hide ((uh X0).below hO.2)
       have x1:=(uh Y1).cell
       clear hO hL
       go_wp2_with (at_builtin; (refine wpList_append_lsG rfl _ _ 28 rfl w 5 i1 (.int .u8 0) 1 Tryz.underlying28 hi1 y1 z1 b1 rfl (int_one .u8) _ (P) rfl (uh P1) q1 c1 V1 rfl (uh L1) (by unfold maxLen; simp <;> omega) (by simp <;> omega) ?_; intro v1 W1 O1 G1; have X1:=hide ((uh Y1).grown (uh P1) (by decide) G1); have OH1:=hide O1; clear O1 G1 x1; have x1b:=(uh X1).cell))
       refine (uh VX _).mono ?_
       rintro e U2 ⟨u2,rfl,hO⟩
       obtain ⟨q2,c2,rfl,hL,_⟩:=hO.form
       have L2:=hide hL
       have P2:=hide ((uh OH1).below hO.2)
       have Y2:=hide ((uh X1).below hO.2)
       have x2:=(uh Y2).cell
       clear hO hL x1b
       have AD:=hide (fun v (hv:Below w.heap.size w v) => ((uh HI).below hv).2.2.2.ls)
       have hdd:a.d.length ≤ 140737480000000:=by omega
       go_wp2_with (first
        | (at_builtin; (refine wpList_append_lsG rfl _ _ 28 rfl w 5 i1 (.int .u8 0) 1 Tryz.underlying28 hi1 y1 z1 b1 rfl (int_one .u8) _ (P ++ V1) rfl (uh P2) q2 c2 V2 rfl (uh L2) (by unfold maxLen; simp <;> omega) (by simp <;> omega) ?_; intro v2 W2 O2 G2; have X2:=hide ((uh Y2).grown (uh P2) (by decide) G2); have OH2:=hide O2; have P3:=OH2; have Y3:=X2; clear O2 G2 x2; have x2b:=(uh X2).cell))
        | (at_builtin; (refine wpList_append_lsG rfl _ _ 28 rfl w 5 i1 (.int .u8 0) 1 Tryz.underlying28 hi1 y1 z1 b1 rfl (int_one .u8) _ (P ++ V1 ++ V2) rfl (uh P3) a.q a.c a.d rfl (uh AD _ (uh P3).2) (by unfold maxLen; simp <;> omega) (by simp <;> omega) ?_; intro v3 W3 O3 G3; have X3:=hide ((uh Y3).grown (uh P3) (by decide) G3); have OE:=hide (own_eq6 O3 (uh HFF).symm); obtain ⟨qe,ce,he,_,_⟩:=(uh OE).form; rw [uh HT] at he; subst he; clear O3 G3; have x3b:=(uh X3).cell)))
       go_roundw
       case rel => exact ⟨n + 1,by go_num,by omega,by have:=uh HT; omega,OE⟩
       case measure => simp [intOf]; omega
    ·have hi:¬ (n:Int) < (l.length:Int):=by omega
     have HE:Hid (R1 = mpre l n ∧ R2 = 0):=hide (by
      have e1:mpre l n = msgB (l.map FA.f):=msg_all (by omega)
      have:=uh HV2
      rw [← e1,if_neg (by omega)] at this
      simpa using this)
     have HBB:Hid (isB (mpre l n)):=hide (fun c hc => by
      obtain ⟨f,hf,hcf⟩:=List.mem_flatMap.1 hc
      obtain ⟨a,ha,rfl⟩:=List.mem_map.1 hf
      have ha2:=List.mem_of_mem_take ha
      obtain ⟨i,hi,rfl⟩:=List.getElem_of_mem ha2
      have hm:=uh HALL i hi
      rw [List.getD_eq_getElem?_getD,List.getElem?_eq_getElem hi] at hm
      exact fieldB_isB hm (uh AI _ ha2).ok (by have:=sumD_mem ha2; show (l[i].d).length < _; omega) c hcf)
     obtain ⟨q,d,hv,hL,_⟩:=(uh O).form
     subst hv
     clear hL
     go_wp2_with fail
     go_ret2
     obtain ⟨g1,g2⟩:=uh HE
     subst g1 g2
     exact ⟨_,rfl,hide ⟨uh O,uh HBB⟩⟩
end Go.Proofs.YtaikppgoahdjbabGreat
