import Derived.Test.YtbmmcbagdomonaaGreatV34
set_option maxRecDepth 100000
set_option maxHeartbeats 40000000
namespace Go.Proofs.YtbmmcbagdomonaaGreat
open Go.RowKit
set_option linter.unusedVariables false
set_option linter.unusedSimpArgs false
def resV (d:NodeD):Int × SeD × Int :=
 if numT d.1 = 0 then (0,zeroD,7)
 else if takesB (rowT (numT d.1)).2.1 (rowT (numT d.1)).2.2.1 (rowT (numT d.1)).2.2.2.1 (rowT (numT d.1)).2.2.2.2.1 d.2.2.1 d.2.2.2.1 = false then (0,zeroD,1)
 else match settingV (rowT (numT d.1)).2.2.2.2.2 d.2.2.2.2 with
  | none => (0,zeroD,14)
  | some D => if numT d.1 = 61 ∧ d.2.2.2.2.length ≠ 1 then (0,zeroD,14) else (numT d.1,D,0)
theorem tab_ok:∀ x ∈ tabT,0 ≤ x.2.1 ∧ ∀ a ∈ x.2.2.2.2.2,(Lit.int .i64 a.2.2.1).wf = true ∧ 0 ≤ a.2.1 ∧ a.2.1 < 20:=by
 have h:tabT.all (fun x => decide (0 ≤ x.2.1) && x.2.2.2.2.2.all (fun a => (Lit.int .i64 a.2.2.1).wf && (decide (0 ≤ a.2.1) && decide (a.2.1 < 20)))) = true:=by kernel_rfl
 intro x hx
 have:=List.all_eq_true.1 h x hx
 simp only [Bool.and_eq_true,List.all_eq_true,decide_eq_true_eq] at this
 exact ⟨this.1,fun a ha => this.2 a ha⟩
theorem rowT_ok (op:Int):0 ≤ (rowT op).2.1 ∧ ∀ a ∈ (rowT op).2.2.2.2.2,isB a.1 ∧ (Lit.int .i64 a.2.2.1).wf = true ∧ ∃ so:Nat,so < 20 ∧ a.2.1 = so:=by
 rcases rowT_mem op with h | h
 ·rw [h]; exact ⟨by simp [noRowD],fun a ha => by simp [noRowD] at ha⟩
 ·refine ⟨(tab_ok _ h).1,fun a ha => ⟨(tab_isB _ h).2 a ha,((tab_ok _ h).2 a ha).1,a.2.1.toNat,?_,?_⟩⟩
  ·have:=((tab_ok _ h).2 a ha).2; omega
  ·have:=((tab_ok _ h).2 a ha).2; omega
theorem cresolve8_any (x:NoA) (B:Nat) (w:World) (h:NoIn B w x) (ht:∀ a ∈ x.at',okT8 a.T) :
  Calls Tryz.prog 53 #[.agg (noCells x).toArray] w fun e w' => ∃ cs,e = .returned (.tuple #[.int .i64 (resV x.d).1,.agg cs,.int .i64 (resV x.d).2.2]) ∧ SeV w.heap.size w' cs (resV x.d).2.1 ∧ Below w.heap.size w w':=by
 obtain ⟨op,nm,ins,qi,ci,outs,qo,co,ats,qa,ca⟩:=x
 obtain ⟨h1,h2,⟨h3,h4,h5⟩,⟨h6,h7,h8⟩,h9,h10,h11⟩:=h
 simp only at h1 h2 h3 h4 h5 h6 h7 h8 h9 h10 h11 ht
 have hv:resV (NoA.d ⟨op,nm,ins,qi,ci,outs,qo,co,ats,qa,ca⟩) = resV (op,nm,ins,outs,ats.map AtA.d):=rfl
 rw [hv]
 clear hv
 obtain ⟨R,hR⟩:∃ R,resV (op,nm,ins,outs,ats.map AtA.d) = R:=⟨_,rfl⟩
 rw [hR]
 unfold resV at hR
 simp only [List.length_map] at hR
 have HR:=hide hR
 have HI:=hide (And.intro h3 h4)
 have HO:=hide (And.intro h6 h7)
 have HA:=hide (And.intro h10 (fun x hx => And.intro (h9 x hx) (ht x hx)))
 have nl:=h10.len
 unfold noCells strV
 simp only
 obtain ⟨W,hW⟩:∃ W,W = (w.alloc (.cells #[.string (strOfNums op),.string (strOfNums nm),.slice qi ins.length ci,.slice qo outs.length co,.slice qa ats.length ca] 55)).alloc (.cells zeroC 49):=⟨_,rfl⟩
 have Z:Hid (W.heap.size = w.heap.size + 2):=hide (by rw [hW]; simp)
 have BW:Hid (Below w.heap.size w W):=hide (by rw [hW]; exact bl_tr (al1p _ _) (al1p _ _))
 have X0:Hid (Box W w.heap.size #[.string (strOfNums op),.string (strOfNums nm),.slice qi ins.length ci,.slice qo outs.length co,.slice qa ats.length ca] 55):=hide (by rw [hW]; exact Box.alloc (Box.new _ _ _) _)
 have R0:Hid (Box W (w.heap.size + 1) zeroC 49):=hide (by rw [hW]; have:=Box.new (w.alloc (.cells #[.string (strOfNums op),.string (strOfNums nm),.slice qi ins.length ci,.slice qo outs.length co,.slice qa ats.length ca] 55)) zeroC 49; simp at this; exact this)
 have CN:=hide (cnumber8_any op W h1)
 unfold strV at CN
 clear h1 h2 h3 h4 h5 h6 h7 h8 h9 h10 h11 ht hR
 go_enter Tryz.func53,Tryz.ntmps53
 go_wp2_with fail
 have hW2:=hW
 unfold zeroC at hW2
 rw [← hW2]
 clear hW hW2
 refine (uh CN).mono ?_
 rintro e w1 ⟨rfl,hb1⟩
 have B1:=hide (bl_tr (uh BW) hb1)
 have X1:=hide ((uh X0).below hb1)
 have R1:=hide ((uh R0).below hb1)
 have z1:Hid (w.heap.size + 2 ≤ w1.heap.size):=hide (by have:=hb1.size; have:=uh Z; omega)
 clear hb1 CN X0 R0 BW Z
 obtain ⟨N,hN⟩:∃ N,numT op = N:=⟨_,rfl⟩
 rw [hN] at HR ⊢
 clear hN
 by_cases hN0:N = 0
 ·subst hN0
  rw [if_pos rfl] at HR
  have e0:=uh HR
  subst e0
  go_wp2_with (refine wpList_store8 rfl _ _ rfl rfl rfl (uh R1) rfl rfl zero_ones ?_; intro w6 b6 s6 _; have B6:=hide b6; have S6:=hide s6; clear b6 s6)
  refine bodyPost_ret (results_se3 rfl rfl (uh B6) rfl) rfl ⟨_,rfl,(zero_in _ _ _),?_⟩
  exact bl_tr7 (uh B1) (bl_mono7 (uh S6).1 (Nat.le_succ _))
 ·have t0:(N == 0) = false:=by simp [hN0]
  rw [if_neg hN0] at HR
  clear hN0
  go_wp2_with fail
  refine (cfind8_any N w1).mono ?_
  rintro e w2 ⟨r,rfl,hr,hd,hb2⟩
  have HK:=rowT_ok N
  have HL:=rowT_len N
  rw [← hd] at HK HL HR
  obtain ⟨rn,ra,rb,rc,rd,rats,rq,rk⟩:=r
  unfold RoA.d at HK HL HR
  simp only at HK HL HR
  have HRI:=hide hr
  have HKK:=hide HK
  have HLL:=hide HL
  obtain ⟨ra',hra⟩:∃ a:Nat,ra = a:=⟨ra.toNat,by have:=HK.1; omega⟩
  clear HK HL hr hd
  subst hra
  have B2:=hide (bl_tr (uh B1) hb2)
  have X2:=hide ((uh X1).below hb2)
  have R2:=hide ((uh R1).below hb2)
  have Z2:Hid (w1.heap.size ≤ w2.heap.size):=hide hb2.size
  clear hb2 X1 R1 B1
  obtain ⟨V,hV⟩:∃ V,V = w2.alloc (.cells #[.string (strOfNums rn),.int .i64 (ra':Int),.int .i64 rb,.int .i64 rc,.int .i64 rd,.slice rq rats.length rk] 142):=⟨_,rfl⟩
  have BV:Hid (Below w2.heap.size w2 V):=hide (by rw [hV]; exact al1p _ _)
  have G2:Hid (Box V w2.heap.size #[.string (strOfNums rn),.int .i64 (ra':Int),.int .i64 rb,.int .i64 rc,.int .i64 rd,.slice rq rats.length rk] 142):=hide (by rw [hV]; exact Box.new _ _ _)
  have X3:=hide ((uh X2).below (uh BV))
  have R3:=hide ((uh R2).below (uh BV))
  have B3:=hide (bl_tr (uh B2) (uh BV))
  have Z3:Hid (w2.heap.size < V.heap.size):=hide (uh G2).lt
  have CT:=hide (ctakes8_any ⟨rn,(ra':Int),rb,rc,rd,rats,rq,rk⟩ ra' rfl qi ci ins qo co outs V ((uh HI).2.below (uh B3)) (uh HI).1 ((uh HO).2.below (uh B3)) (uh HO).1)
  unfold roCells strV at CT ⊢
  simp only at CT ⊢
  obtain ⟨tb,htb⟩:∃ b,takesB (ra':Int) rb rc rd ins outs = b:=⟨_,rfl⟩
  rw [htb] at CT HR
  clear htb
  have x2:=(uh X2).cell
  have xl2:=(uh X2).lt
  have x3:=(uh X3).cell
  have xl3:=(uh X3).lt
  have g3:=(uh G2).cell
  go_wp2_with fail
  rw [← hV]
  clear hV x2 xl2 X2 R2 B2
  refine (uh CT).mono ?_
  rintro e w3 ⟨rfl,hb3⟩
  have B4:=hide (bl_tr (uh B3) hb3)
  have X4:=hide ((uh X3).below hb3)
  have R4:=hide ((uh R3).below hb3)
  have G4:=hide ((uh G2).below hb3)
  have Z4:Hid (V.heap.size ≤ w3.heap.size):=hide hb3.size
  have HRI4:=hide ((uh HRI).below (bl_tr (uh BV) hb3))
  clear BV hb3 CT x3 xl3 g3 X3 R3 B3
  have x4:=(uh X4).cell
  have xl4:=(uh X4).lt
  have g4:=(uh G4).cell
  have gl4:=(uh G4).lt
  cases tb
  ·rw [if_pos rfl] at HR
   have e0:=uh HR
   subst e0
   go_wp2_with (refine wpList_store8 rfl _ _ rfl rfl rfl (uh R4) rfl rfl zero_ones ?_; intro w6 b6 s6 _; have B6:=hide b6; have S6:=hide s6; clear b6 s6)
   refine bodyPost_ret (results_se3 rfl rfl (uh B6) rfl) rfl ⟨_,rfl,(zero_in _ _ _),?_⟩
   exact bl_tr7 (uh B4) (bl_mono7 (uh S6).1 (Nat.le_succ _))
  ·rw [if_neg (by decide)] at HR
   have CS:=hide (csetting8_any ⟨rn,(ra':Int),rb,rc,rd,rats,rq,rk⟩ B qa ca ats w3 (uh HRI4) (uh HKK).2 (uh HLL) ((uh HA).1.below (uh B4)) (fun x hx => ⟨((uh HA).2 x hx).1.below8 (uh B4),((uh HA).2 x hx).2⟩))
   unfold roCells strV at CS
   simp only at CS
   obtain ⟨Sv,hSv⟩:∃ s,settingV rats (ats.map AtA.d) = s:=⟨_,rfl⟩
   rw [hSv] at CS HR
   clear hSv
   go_wp2_with fail
   refine (uh CS).mono ?_
   rintro e w4 ⟨cs,rfl,hP⟩
   have hcs:cs.size = 36:=hP.1.1
   have ON:=hide hP.1.2
   have B5:=hide (bl_tr (uh B4) hP.2.2)
   have X5:=hide ((uh X4).below hP.2.2)
   have R5:=hide ((uh R4).below hP.2.2)
   have HP:=hide hP.2.1
   have Z5:Hid (w3.heap.size ≤ w4.heap.size):=hide hP.2.2.size
   clear hP CS x4 xl4 g4 gl4 X4 R4 B4
   have STO:Hid (∀ w5:World,Box w5 w4.heap.size cs 49 → Stay w4.heap.size (w4.alloc (.cells zeroC 49)) w5 → Below w4.heap.size w4 w5):=hide (fun w5 _ s => bl_tr7 (al1p _ _) s.1)
   have ZG:Hid (w.heap.size + 2 ≤ w3.heap.size ∧ w3.heap.size ≤ w4.heap.size):=hide ⟨by have:=uh z1; have:=uh Z2; have:=uh Z3; have:=uh Z4; omega,uh Z5⟩
   have x5:=(uh X5).cell
   have xl5:=(uh X5).lt
   have XB:Hid (∀ w5:World,Below w4.heap.size w4 w5 → ∀ j,w5.cell? ⟨w.heap.size,j,none⟩ = (#[.string (strOfNums op),.string (strOfNums nm),.slice qi ins.length ci,.slice qo outs.length co,.slice qa ats.length ca]:Array Value)[j]?):=hide (fun w5 b => ((uh X5).below b).cell)
   have XL:Hid (∀ w5:World,Below w4.heap.size w4 w5 → w.heap.size < w5.heap.size):=hide (fun w5 b => ((uh X5).below b).lt)
   cases Sv with
   | none =>
     have e0:((0:Int),zeroD,(14:Int)) = R:=uh HR
     subst e0
     rw [show (none:Option SeD).isSome = false from rfl]
     go_wp2_with (first | (refine wpList_store8 rfl _ _ rfl rfl rfl ((uh R5).below (uh BS)) rfl rfl zero_ones ?_; intro w6 b6 s6 _; have B6:=hide b6; have S6:=hide s6; clear b6 s6) | (refine wpList_store8 rfl _ _ rfl rfl rfl (Box.new _ _ _) hcs rfl (uh ON) ?_; intro w5 b5 s5 z5; have GS:=hide b5; have BS:=hide (uh STO w5 b5 s5); have x6:=uh XB w5 (uh BS); have xl6:=uh XL w5 (uh BS); clear b5 s5 z5))
     refine bodyPost_ret (results_se3 rfl rfl (uh B6) rfl) rfl ⟨_,rfl,(zero_in _ _ _),?_⟩
     exact bl_tr7 (bl_tr (uh B5) (uh BS)) (bl_mono7 (uh S6).1 (Nat.le_succ _))
   | some D =>
     rw [show (some D:Option SeD).isSome = true from rfl]
     have HD:=hide (uh HP D rfl)
     by_cases h61:N = 61
     ·subst h61
      by_cases hl1:ats.length = 1
      ·have e0:((61:Int),D,(0:Int)) = R:=by
        have:=uh HR
        simp only [hl1] at this
        simpa using this
       subst e0
       have tl:((ats.length:Int) != 1) = false:=by rw [hl1]; rfl
       clear hl1
       go_wp2_with (refine wpList_store8 rfl _ _ rfl rfl rfl (Box.new _ _ _) hcs rfl (uh ON) ?_; intro w5 b5 s5 z5; have GS:=hide b5; have BS:=hide (uh STO w5 b5 s5); have x6:=uh XB w5 (uh BS); have xl6:=uh XL w5 (uh BS); clear b5 s5 z5)
       refine wp_region_held_drew (S:=fun v => Box v w4.heap.size cs 49) (by kernel_rfl) ((uh GS).below (bdrew8 _)) (fun hHeld => ?_)
       refine wpAnyH_take (i:=0) (oi:={ dst:=some 45,op:=_,type:=_,pos:=_,after:=_,guard:=_ }) (v:=?vv4a) rfl (by kernel_rfl) (by kernel_rfl) (by kernel_rfl) (fun _ _ _ h => h) (Or.inl ⟨by rfl,?hy4a⟩) (by assumption) ?rest4a
       case hy4a => (intro w hSw; (try dsimp only at hSw); go_simp; (first | done | with_reducible rfl))
       (try simp only [Act.put,List.setIfInBounds_toArray,List.set_cons_zero,List.set_cons_succ])
       refine wpAnyH_take (i:=1) (oi:={ dst:=some 46,op:=_,type:=_,pos:=_,after:=_,guard:=_ }) (v:=.agg cs) rfl (by kernel_rfl) (by kernel_rfl) (by kernel_rfl) (fun _ _ _ h => h) (yields_load8 (by rfl) _ rfl rfl (fun v hv => hv) hcs) (by assumption) ?_
       (try simp only [Act.put,List.setIfInBounds_toArray,List.set_cons_zero,List.set_cons_succ])
       refine wpAnyH_take (i:=2) (oi:={ dst:=some 2,op:=_,type:=_,pos:=_,after:=_,guard:=_ }) (v:=?vv5a) rfl (by kernel_rfl) (by kernel_rfl) (by kernel_rfl) (fun _ _ _ h => h) (Or.inl ⟨by rfl,?hy5a⟩) (by assumption) ?rest5a
       case hy5a => (intro w hSw; (try dsimp only at hSw); go_simp; (first | done | with_reducible rfl))
       (try simp only [Act.put,List.setIfInBounds_toArray,List.set_cons_zero,List.set_cons_succ])
       refine wpAnyH_ready (rs:=[3]) (by kernel_rfl) (by simp) ?_
       refine AllReadyH.cons (o:={ dst:=none,op:=_,type:=_,pos:=_,after:=_,guard:=_ }) rfl (fun K hK => ?_) AllReadyH.nil
       rw [if_pos (by rfl)]
       refine wp_store8 _ _ rfl rfl rfl (((uh R5).below (uh BS)).below (bdrew8 _)) hcs rfl (uh ON) ?_
       intro w9 b9 s9 z9
       refine hK.out _ _ (s9.box ((uh GS).below (bdrew8 _)) (by have:=uh ZG; omega)) (fun hHeld2 => ?_)
       clear hK K hHeld
       (try simp only [Act.put,List.setIfInBounds_toArray,List.set_cons_zero,List.set_cons_succ])
       refine wpAnyH_take (i:=4) (oi:={ dst:=some 4,op:=_,type:=_,pos:=_,after:=_,guard:=_ }) (v:=?vv6a) rfl (by kernel_rfl) (by kernel_rfl) (by kernel_rfl) (fun _ _ _ h => h) (Or.inl ⟨by rfl,?hy6a⟩) (by assumption) ?rest6a
       case hy6a => (intro w hSw; (try dsimp only at hSw); go_simp; (first | done | with_reducible rfl))
       (try simp only [Act.put,List.setIfInBounds_toArray,List.set_cons_zero,List.set_cons_succ])
       refine wpAnyH_done (by kernel_rfl) ?_ _
       go_wp2_with fail
       refine bodyPost_ret (results_se3 rfl rfl b9 hcs) rfl ⟨cs,rfl,?_,bl_tr7 (bl_tr (bl_tr (uh B5) (uh BS)) (bdrew8 _)) (bl_mono7 s9.1 (Nat.le_succ _))⟩
       have i5:SeIn w.heap.size w.heap.size w4 cs D:=(uh HD).low (by have:=uh ZG; omega) (by have:=uh ZG; omega)
       have i6:=i5.stay (Stay.below (bl_tr (uh BS) (bdrew8 _)) (by have:=uh ZG; omega))
       exact SeIn.val (g:=w.heap.size) ⟨i6.1,fun k hk => ⟨(i6.2 k hk).1.stay1 s9,(i6.2 k hk).2⟩⟩
      ·have e0:((0:Int),zeroD,(14:Int)) = R:=by
        have:=uh HR
        simp only [ne_eq,hl1,not_false_eq_true,and_self,if_true] at this
        exact this
       subst e0
       have tl:((ats.length:Int) != 1) = true:=by
        rw [bne_iff_ne]
        omega
       clear hl1
       go_wp2_with (first | (refine wpList_store8 rfl _ _ rfl rfl rfl ((uh R5).below (uh BS)) rfl rfl zero_ones ?_; intro w6 b6 s6 _; have B6:=hide b6; have S6:=hide s6; clear b6 s6) | (refine wpList_store8 rfl _ _ rfl rfl rfl (Box.new _ _ _) hcs rfl (uh ON) ?_; intro w5 b5 s5 z5; have GS:=hide b5; have BS:=hide (uh STO w5 b5 s5); have x6:=uh XB w5 (uh BS); have xl6:=uh XL w5 (uh BS); clear b5 s5 z5))
       refine bodyPost_ret (results_se3 rfl rfl (uh B6) rfl) rfl ⟨_,rfl,(zero_in _ _ _),?_⟩
       exact bl_tr7 (bl_tr (uh B5) (uh BS)) (bl_mono7 (uh S6).1 (Nat.le_succ _))
     ·have e0:(N,D,(0:Int)) = R:=by
       have:=uh HR
       simp only [h61,false_and,if_false] at this
       exact this
      subst e0
      have t61:(N == 61) = false:=by simp [h61]
      clear h61
      go_wp2_with (refine wpList_store8 rfl _ _ rfl rfl rfl (Box.new _ _ _) hcs rfl (uh ON) ?_; intro w5 b5 s5 z5; have GS:=hide b5; have BS:=hide (uh STO w5 b5 s5); have x6:=uh XB w5 (uh BS); have xl6:=uh XL w5 (uh BS); clear b5 s5 z5)
      refine wp_region_held_drew (S:=fun v => Box v w4.heap.size cs 49) (by kernel_rfl) ((uh GS).below (bdrew8 _)) (fun hHeld => ?_)
      refine wpAnyH_take (i:=0) (oi:={ dst:=some 45,op:=_,type:=_,pos:=_,after:=_,guard:=_ }) (v:=?vv4b) rfl (by kernel_rfl) (by kernel_rfl) (by kernel_rfl) (fun _ _ _ h => h) (Or.inl ⟨by rfl,?hy4b⟩) (by assumption) ?rest4b
      case hy4b => (intro w hSw; (try dsimp only at hSw); go_simp; (first | done | with_reducible rfl))
      (try simp only [Act.put,List.setIfInBounds_toArray,List.set_cons_zero,List.set_cons_succ])
      refine wpAnyH_take (i:=1) (oi:={ dst:=some 46,op:=_,type:=_,pos:=_,after:=_,guard:=_ }) (v:=.agg cs) rfl (by kernel_rfl) (by kernel_rfl) (by kernel_rfl) (fun _ _ _ h => h) (yields_load8 (by rfl) _ rfl rfl (fun v hv => hv) hcs) (by assumption) ?_
      (try simp only [Act.put,List.setIfInBounds_toArray,List.set_cons_zero,List.set_cons_succ])
      refine wpAnyH_take (i:=2) (oi:={ dst:=some 2,op:=_,type:=_,pos:=_,after:=_,guard:=_ }) (v:=?vv5b) rfl (by kernel_rfl) (by kernel_rfl) (by kernel_rfl) (fun _ _ _ h => h) (Or.inl ⟨by rfl,?hy5b⟩) (by assumption) ?rest5b
      case hy5b => (intro w hSw; (try dsimp only at hSw); go_simp; (first | done | with_reducible rfl))
      (try simp only [Act.put,List.setIfInBounds_toArray,List.set_cons_zero,List.set_cons_succ])
      refine wpAnyH_ready (rs:=[3]) (by kernel_rfl) (by simp) ?_
      refine AllReadyH.cons (o:={ dst:=none,op:=_,type:=_,pos:=_,after:=_,guard:=_ }) rfl (fun K hK => ?_) AllReadyH.nil
      rw [if_pos (by rfl)]
      refine wp_store8 _ _ rfl rfl rfl (((uh R5).below (uh BS)).below (bdrew8 _)) hcs rfl (uh ON) ?_
      intro w9 b9 s9 z9
      refine hK.out _ _ (s9.box ((uh GS).below (bdrew8 _)) (by have:=uh ZG; omega)) (fun hHeld2 => ?_)
      clear hK K hHeld
      (try simp only [Act.put,List.setIfInBounds_toArray,List.set_cons_zero,List.set_cons_succ])
      refine wpAnyH_take (i:=4) (oi:={ dst:=some 4,op:=_,type:=_,pos:=_,after:=_,guard:=_ }) (v:=?vv6b) rfl (by kernel_rfl) (by kernel_rfl) (by kernel_rfl) (fun _ _ _ h => h) (Or.inl ⟨by rfl,?hy6b⟩) (by assumption) ?rest6b
      case hy6b => (intro w hSw; (try dsimp only at hSw); go_simp; (first | done | with_reducible rfl))
      (try simp only [Act.put,List.setIfInBounds_toArray,List.set_cons_zero,List.set_cons_succ])
      refine wpAnyH_done (by kernel_rfl) ?_ _
      go_wp2_with fail
      refine bodyPost_ret (results_se3 rfl rfl b9 hcs) rfl ⟨cs,rfl,?_,bl_tr7 (bl_tr (bl_tr (uh B5) (uh BS)) (bdrew8 _)) (bl_mono7 s9.1 (Nat.le_succ _))⟩
      have i5:SeIn w.heap.size w.heap.size w4 cs D:=(uh HD).low (by have:=uh ZG; omega) (by have:=uh ZG; omega)
      have i6:=i5.stay (Stay.below (bl_tr (uh BS) (bdrew8 _)) (by have:=uh ZG; omega))
      exact SeIn.val (g:=w.heap.size) ⟨i6.1,fun k hk => ⟨(i6.2 k hk).1.stay1 s9,(i6.2 k hk).2⟩⟩
end Go.Proofs.YtbmmcbagdomonaaGreat
