import Derived.Deep.CutRange
import Derived.Test.YtnmciappielkcaaV49
set_option maxRecDepth 100000
set_option maxHeartbeats 40000000
namespace Go.Proofs.Ytnmciappielkcaa
open Go.RowKit
set_option linter.unusedVariables false
set_option linter.unusedSimpArgs false
theorem rresolve8_1 (x:NoA) (B:Nat) (w:World) (h:NoIn B w x) (ht:∀ a ∈ x.at',okT8 a.T) (hyp:∃ D,settingV (rowT (numT x.op)).2.2.2.2.2 (x.at'.map AtA.d) = some D) :
  Calls Try.prog 6 #[.agg (noCells x).toArray] w fun e w' => ∃ cs,e = .returned (.tuple #[.int .i64 (resV x.d).1,.agg cs,.int .i64 (resV x.d).2.2]) ∧ SeV w.heap.size w' cs (resV x.d).2.1 ∧ Below w.heap.size w w':=by
 obtain ⟨op,nm,ins,qi,ci,outs,qo,co,asl,qa,ca⟩:=x
 obtain ⟨h1,h2,⟨h3,h4,h5⟩,⟨h6,h7,h8⟩,h9,h10,h11⟩:=h
 simp only at h1 h2 h3 h4 h5 h6 h7 h8 h9 h10 h11 ht hyp
 have hv:resV (NoA.d ⟨op,nm,ins,qi,ci,outs,qo,co,asl,qa,ca⟩) = resV (op,nm,ins,outs,asl.map AtA.d):=rfl
 rw [hv]
 clear hv
 obtain ⟨R,hR⟩:∃ R,resV (op,nm,ins,outs,asl.map AtA.d) = R:=⟨_,rfl⟩
 rw [hR]
 unfold resV at hR
 simp only at hR
 obtain ⟨l,hl⟩:∃ l,asl.map AtA.d = l:=⟨_,rfl⟩
 have HW:Hid (∀ a ∈ l,AtW a):=hide (fun a ha => by
  rw [← hl] at ha
  obtain ⟨y,hy,rfl⟩:=List.mem_map.1 ha
  exact atW8 (h9 y hy))
 have LL:Hid (l.length = asl.length):=hide (by rw [← hl,List.length_map])
 have FC:=hide (fun s => find_cases8 asl s)
 rw [hl] at hR FC hyp
 have HV:=hide hyp
 have HR:=hide hR
 have HI:=hide h4
 have HO:=hide h7
 have HA:=hide (And.intro h10 (fun x hx => And.intro (h9 x hx) (ht x hx)))
 have nl:=h10.len
 unfold noCells strV
 simp only
 obtain ⟨W,hW⟩:∃ W,W = (w.alloc (.cells #[.string (strOfNums op),.string (strOfNums nm),.slice qi ins.length ci,.slice qo outs.length co,.slice qa asl.length ca] 25)).alloc (.cells zeroC 35):=⟨_,rfl⟩
 have Z:Hid (W.heap.size = w.heap.size + 2):=hide (by rw [hW]; simp)
 have BW:Hid (Below w.heap.size w W):=hide (by rw [hW]; exact bl_tr (al1p _ _) (al1p _ _))
 have X0:Hid (Box W w.heap.size #[.string (strOfNums op),.string (strOfNums nm),.slice qi ins.length ci,.slice qo outs.length co,.slice qa asl.length ca] 25):=hide (by rw [hW]; exact Box.alloc (Box.new _ _ _) _)
 have R0:Hid (Box W (w.heap.size + 1) zeroC 35):=hide (by rw [hW]; have:=Box.new (w.alloc (.cells #[.string (strOfNums op),.string (strOfNums nm),.slice qi ins.length ci,.slice qo outs.length co,.slice qa asl.length ca] 25)) zeroC 35; simp at this; exact this)
 have CN:=hide (rnumber8_any op W h1)
 unfold strV at CN
 clear h1 h2 h3 h4 h5 h6 h7 h8 h9 h10 h11 ht hR hl hyp
 go_enter Try.func6,Try.ntmps6
 go_wp2_with fail
 have hW2:=hW
 unfold zeroC at hW2
 rw [← hW2]
 clear hW hW2
 refine (uh CN).mono ?_
 rintro e w1 ⟨rfl,hb1⟩
 have B1:=hide (bl_tr (uh BW) hb1)
 have X1:=hide ((uh X0).below hb1)
 have R1:=hide ((uh R0).below hb1)
 have z1:Hid (w.heap.size + 2 ≤ w1.heap.size):=hide (by have:=hb1.size; have:=uh Z; omega)
 clear hb1 CN X0 R0 BW Z
 obtain ⟨N,hN⟩:∃ N,numT op = N:=⟨_,rfl⟩
 rw [hN] at HR HV ⊢
 clear hN
 by_cases hN0:N = 0
 ·subst hN0
  rw [if_pos rfl] at HR
  have e0:=uh HR
  subst e0
  have ER:=hide (uh R1)
  have EB:=hide (uh B1)
  (try clear FR); (try clear CK); (try clear CM); (try clear XN); (try clear HNO); (try clear HSM); (try clear HOS); (try clear HFS); (try clear HRS); (try clear HFC); (try clear HTN); (try clear HMU); (try clear c0); (try clear c1); (try clear c2); (try clear IB); (try clear SE); (try clear GB); (try clear OK); (try clear HK); (try clear ST); (try clear PB); (try clear RW5); (try clear NOK); (try clear NLN); (try clear END); (try clear ROW); (try clear SML); (try clear CNT); (try clear HA); (try clear HI); (try clear HO); (try clear FC); (try clear LL); (try clear HR); (try clear XR); (try clear X5); (try clear R5); (try clear V5); (try clear BN); (try clear HAJ); (try clear AC); (try clear HFN); (try clear HJN); (try clear HCN); (try clear OA); (try clear GA); (try clear BA); (try clear B7); (try clear B7w); (try clear KF); (try clear SF); (try clear RF); (try clear AF); (try clear CMY); (try clear HKD); (try clear HMY); (try clear HKK); (try clear HAG); (try clear CP); (try clear HCP); (try clear HC1); (try clear HE); (try clear H61); (try clear HN1); (try clear HEQ); (try clear HX0); (try clear B9); (try clear B9r); (try clear ca5); (try clear BR); (try clear RR); (try clear HF2); (try clear HR2); (try clear hkd); (try clear hfn); (try clear hcn); (try clear hjn); (try clear hi1); (try clear hj1); (try clear G5); (try clear B5); (try clear kd1); (try clear LA); (try clear LB); (try clear nl); (try clear lat); (try clear B12); (try clear R12); (try clear R9); (try clear B9w); (try clear R8); (try clear B8w); (try clear R6); (try clear B6w); (try clear HW); (try clear hs)
  go_wp2_with (refine wpList_isStore 35 rfl ?_; refine wpList_store8 rfl _ _ rfl rfl rfl (uh ER) rfl rfl zero_ones ?_; intro w6 b6 s6 _; have B6:=hide b6; have S6:=hide s6; clear b6 s6)
  refine bodyPost_ret (results_se3 rfl rfl (uh B6) rfl) rfl ⟨_,rfl,(zero_in _ _ _),?_⟩
  exact bl_tr7 (uh EB) (bl_mono7 (uh S6).1 (Nat.le_succ _))
 ·have t0:(N == 0) = false:=by simp [hN0]
  rw [if_neg hN0] at HR
  clear hN0
  have x1:=(uh X1).cell
  have xl1:=(uh X1).lt
  have CT:=hide (rcounts8_any N (.string (strOfNums op)) (.string (strOfNums nm)) qi ci ins qo co outs qa asl.length ca w1 ((uh HI).below (uh B1)) ((uh HO).below (uh B1)))
  obtain ⟨tb,htb⟩:∃ b,takesB (rowT N).2.1 (rowT N).2.2.1 (rowT N).2.2.2.1 (rowT N).2.2.2.2.1 ins outs = b:=⟨_,rfl⟩
  rw [htb] at CT HR
  clear htb
  go_wp2_with fail
  refine (uh CT).mono ?_
  rintro e w2 ⟨rfl,hb2⟩
  have B2:=hide (bl_tr (uh B1) hb2)
  have X2:=hide ((uh X1).below hb2)
  have R2:=hide ((uh R1).below hb2)
  have z2:Hid (w.heap.size + 2 ≤ w2.heap.size):=hide (by have:=hb2.size; have:=uh z1; omega)
  clear hb2 CT x1 xl1 X1 R1 B1 z1
  cases tb
  ·rw [if_pos rfl] at HR
   have e0:=uh HR
   subst e0
   have ER:=hide (uh R2)
   have EB:=hide (uh B2)
   (try clear FR); (try clear CK); (try clear CM); (try clear XN); (try clear HNO); (try clear HSM); (try clear HOS); (try clear HFS); (try clear HRS); (try clear HFC); (try clear HTN); (try clear HMU); (try clear c0); (try clear c1); (try clear c2); (try clear IB); (try clear SE); (try clear GB); (try clear OK); (try clear HK); (try clear ST); (try clear PB); (try clear RW5); (try clear NOK); (try clear NLN); (try clear END); (try clear ROW); (try clear SML); (try clear CNT); (try clear HA); (try clear HI); (try clear HO); (try clear FC); (try clear LL); (try clear HR); (try clear XR); (try clear X5); (try clear R5); (try clear V5); (try clear BN); (try clear HAJ); (try clear AC); (try clear HFN); (try clear HJN); (try clear HCN); (try clear OA); (try clear GA); (try clear BA); (try clear B7); (try clear B7w); (try clear KF); (try clear SF); (try clear RF); (try clear AF); (try clear CMY); (try clear HKD); (try clear HMY); (try clear HKK); (try clear HAG); (try clear CP); (try clear HCP); (try clear HC1); (try clear HE); (try clear H61); (try clear HN1); (try clear HEQ); (try clear HX0); (try clear B9); (try clear B9r); (try clear ca5); (try clear BR); (try clear RR); (try clear HF2); (try clear HR2); (try clear hkd); (try clear hfn); (try clear hcn); (try clear hjn); (try clear hi1); (try clear hj1); (try clear G5); (try clear B5); (try clear kd1); (try clear LA); (try clear LB); (try clear nl); (try clear lat); (try clear B12); (try clear R12); (try clear R9); (try clear B9w); (try clear R8); (try clear B8w); (try clear R6); (try clear B6w); (try clear HW); (try clear hs)
   go_wp2_with (refine wpList_isStore 35 rfl ?_; refine wpList_store8 rfl _ _ rfl rfl rfl (uh ER) rfl rfl zero_ones ?_; intro w6 b6 s6 _; have B6:=hide b6; have S6:=hide s6; clear b6 s6)
   refine bodyPost_ret (results_se3 rfl rfl (uh B6) rfl) rfl ⟨_,rfl,(zero_in _ _ _),?_⟩
   exact bl_tr7 (uh EB) (bl_mono7 (uh S6).1 (Nat.le_succ _))
  ·rw [if_neg (by decide)] at HR
   have CR:=rrows8_any N w2
   simp only [rows_map8,List.length_map] at CR
   have CRH:=hide CR
   have CDH:=hide (fun v => rdefault8_any N v)
   have NOK:=hide (fun t (ht:t ∈ (rowT N).2.2.2.2.2) (hn:¬ rowOk N l t) => not_ok8 (uh HW) ht hn)
   have NLN:=hide (fun (hn:(foundL (rowT N).2.2.2.2.2 l).length ≠ l.length) => not_len8 hn)
   have END:=hide (fun (h1:∀ t ∈ (rowT N).2.2.2.2.2,rowOk N l t) (h2:(foundL (rowT N).2.2.2.2.2 l).length = l.length) (h3:N ≠ 61 ∨ l.length = 1) => set_of_ok (uh HW) h1 h2 h3)
   have ROW:=hide (rowT_ok N).2
   have SML:=hide (fun t (ht:t ∈ (rowT N).2.2.2.2.2) (a:AtA) (hn:a.nm = t.1) (hm:mayR N t.1 t.2.1 a.d = true) => small_may8 ht hn hm)
   have CNT:=hide (fun (hlen:(foundL (rowT N).2.2.2.2.2 l).length = l.length) (s:Str) => perm_cnt8 (rowT_nodup N) hlen s)
   obtain ⟨SV,hSV⟩:∃ s,settingV (rowT N).2.2.2.2.2 l = s:=⟨_,rfl⟩
   rw [hSV] at HR NOK NLN END HV
   clear hSV CR HW
   generalize (rowT N).2.2.2.2.2 = ats at CRH CDH NOK NLN END ROW SML CNT
   go_wp2_with fail
   refine (uh CRH).mono ?_
   rintro e w3 ⟨p,c,rfl,hr,hb3⟩
   have RW:=hide hr
   have B3:=hide (bl_tr (uh B2) hb3)
   have X3:=hide ((uh X2).below hb3)
   have R3:=hide ((uh R2).below hb3)
   have z3:Hid (w.heap.size + 2 ≤ w3.heap.size):=hide (by have:=hb3.size; have:=uh z2; omega)
   clear hb3 hr CRH X2 R2 B2 z2
   go_wp2_with fail
   refine (uh CDH _).mono ?_
   rintro e w4 ⟨c4,rfl,hv4,hb4⟩
   have hcs:c4.size = 36:=hv4.1
   have V4:=hide (hv4.low8 (B':=w.heap.size) (by have:=uh z3; omega) (by have:=uh z3; omega))
   have ON:=hide (SeIn.ones hv4)
   have IB4:=hide (SeIn.inB hv4)
   have B4:=hide (bl_tr (uh B3) hb4)
   have BD:=hide hb4
   have X4:=hide ((uh X3).below hb4)
   have R4:=hide ((uh R3).below hb4)
   have z4:Hid (w.heap.size + 2 ≤ w3.heap.size ∧ w3.heap.size ≤ w4.heap.size):=hide ⟨uh z3,hb4.size⟩
   clear hb4 hv4 CDH X3 R3 B3 z3
   obtain ⟨g,hg⟩:∃ g,w4.heap.size = g:=⟨_,rfl⟩
   have HG:=hide hg
   have STO:Hid (∀ w5:World,Stay w4.heap.size (w4.alloc (.cells zeroC 35)) w5 → Below w4.heap.size w4 w5):=hide (fun w5 s => bl_tr7 (al1p _ _) s.1)
   clear hg
   go_wp2_with (refine wpList_isStore 35 rfl ?_; refine wpList_store8 rfl _ _ rfl rfl rfl (Box.new _ _ _) hcs rfl (uh ON) ?_; intro w5 b5 s5 z5; have GS:=hide b5; have BS:=hide (uh STO w5 s5); clear b5 s5 z5)
   clear STO
   rw [uh HG] at GS
   rw [uh HG]
   have B5:=hide (bl_tr (uh B4) (uh BS))
   have X5:=hide ((uh X4).below (uh BS))
   have R5:=hide ((uh R4).below (uh BS))
   have V5:=hide ((uh V4).below (uh BS))
   have RW5:=hide ((uh RW).below (bl_tr (uh BD) (uh BS)))
   have G5:Hid (w.heap.size + 2 ≤ g ∧ g < w5.heap.size):=hide ⟨by have:=uh z4; have:=uh HG; omega,(uh GS).lt⟩
   have PB:Hid (∀ b o,p = some ⟨b,o,none⟩ → 0 < ats.length → b < g):=hide (fun b o e hp => by
    obtain ⟨b',o',e',hb',_⟩:=(uh RW).lies (by rw [List.length_map]; exact hp)
    rw [e] at e'
    simp only [Option.some.injEq,Addr.mk.injEq] at e'
    obtain ⟨rfl,_⟩:=e'
    have:=uh z4; have:=uh HG; omega)
   have IB5:Hid (InB (fun b => b ≠ g ∧ b ≠ w.heap.size + 1) c4):=hide ((uh IB4).mono (fun b hb => by have:=uh z4; have:=uh HG; omega))
   have lat:ats.length ≤ 9223372036854775807:=by have:=(uh RW).len; rw [List.length_map] at this; exact this
   clear RW V4 ON IB4 B4 BD X4 R4 BS z4 HG
   go_wp2_with fail
   go_loopw [8,9] (fun kv iv wr => ∃ (n k:Nat) (cs:Array Value),kv = .int .i64 k ∧ iv = .int .i64 n ∧ n ≤ ats.length ∧ Hid (k = (foundL (ats.take n) l).length) ∧ Hid (∀ t ∈ ats.take n,rowOk N l t) ∧ Hid (Box wr g cs 35) ∧ Hid (SeV w.heap.size wr cs (refD N ats l n)) ∧ Hid (InB (fun b => b ≠ g ∧ b ≠ w.heap.size + 1) cs) ∧ Hid (Stay g w5 wr)) (fun _ iv _ => ats.length - (intOf iv).toNat)
   case atStart => exact ⟨0,0,c4,rfl,rfl,Nat.zero_le _,hide (by rw [List.take_zero]; rfl),hide (fun t ht => by rw [List.take_zero] at ht; cases ht),GS,hide (by have:=uh V5; unfold refD; rw [List.take_zero]; exact this),IB5,hide (Stay.refl _ _)⟩
   case round =>
    clear IB5 V5 GS hcs
    obtain ⟨n,k,cs,rfl,rfl,hn,HK,OK,GB,SE,IB,ST⟩:=hrel
    have BR:=hide (bl_tr7 (uh B5) (bl_mono7 (uh ST).1 (by have:=uh G5; omega)):Below w.heap.size w wr)
    have XR:=hide ((uh ST).box (uh X5) (by have:=uh G5; omega))
    have RR:=hide ((uh ST).box (uh R5) (by have:=uh G5; omega))
    have zr:Hid (g < wr.heap.size ∧ w.heap.size + 2 ≤ g):=hide ⟨Nat.lt_of_lt_of_le (uh G5).2 (uh ST).1.size,(uh G5).1⟩
    have ca5:Hid (cs.size = 36):=hide (uh SE).1
    by_cases hlt:n < ats.length
    ·have hi1:(n:Int) < (ats.length:Int):=by omega
     have tm:=getD_mem8 hlt
     have HNO:=hide (fun (hn:¬ rowOk N l (ats.getD n noAtD)) => uh NOK _ tm hn)
     have HSM:=hide (fun a hn hm => uh SML _ tm a hn hm)
     have HRO:=hide (uh ROW _ tm)
     have HOS:=hide (fun (h1:rowOk N l (ats.getD n noAtD)) => ok_step8 hlt (uh OK) h1)
     have HFS:=hide (found_step ats l hlt)
     have HRS:=hide (refD_step N ats l hlt)
     obtain ⟨b,o,hp,hb,hc⟩:=(uh RW5).lies (by rw [List.length_map]; omega)
     have hbg:=uh PB b o hp (by omega)
     subst hp
     have hc2:=hc n (by rw [List.length_map]; exact hlt)
     rw [getD_map8 hlt] at hc2
     have FR:Hid (∀ v,Below wr.heap.size wr v → ∀ j u,(rrCells ((ats.getD n noAtD).1,sortS (ats.getD n noAtD).2.1,decide ((ats.getD n noAtD).2.2.2 = 1)))[j]? = some u → v.cell? ⟨b,o + n * 3 + j,none⟩ = some u):=hide (fun v hv j u e =>
      (World.cell?_of_block (w:=wr) (hv.block b (Nat.lt_of_lt_of_le hb (uh ST).1.size))).trans ((World.cell?_of_block (w:=w5) ((uh ST).block (Nat.ne_of_lt hbg) hb)).trans (hc2 j u e)))
     clear tm hc hc2 hb hbg
     have hkn:k ≤ n:=by
      rw [uh HK]
      exact Nat.le_trans (List.length_filterMap_le _ _) (by rw [List.length_take]; exact Nat.min_le_left _ _)
     generalize ats.getD n noAtD = t at HNO HSM HRO HOS HFS HRS FR
     obtain ⟨tn,tso,tst,tne⟩:=t
     (try simp only at HNO); (try simp only at HSM); (try simp only at HRO); (try simp only at HFS); (try simp only at HRS); (try simp only at FR)
     obtain ⟨i1,i2,so,i3,i4⟩:=uh HRO
     (try simp only at i1); (try simp only at i4)
     subst i4
     have HTN:=hide i1
     clear i1 i2 HRO
     obtain ⟨SS,hSS⟩:∃ s,sortS (so:Int) = s:=⟨_,rfl⟩
     obtain ⟨mu,hmu⟩:∃ m,decide (tne = 1) = m:=⟨_,rfl⟩
     have CK:=hide (fun v => rkind8_any so i3 v)
     have CM:=hide (fun a (ha:AtIn B w a ∧ okT8 a.T) v (hv:Below w.heap.size w v) => rmay8_any N tn so mu a B v i3 (uh HTN) (ha.1.below8 hv) ha.2)
     rw [hSS] at CK CM
     rw [hSS,hmu] at FR
     have HMU:=hide hmu
     clear hSS hmu i3
     have c0:=hide (fun v hv => uh FR v hv 0 _ rfl)
     have c1:=hide (fun v hv => uh FR v hv 1 _ rfl)
     have c2:=hide (fun v hv => uh FR v hv 2 _ rfl)
     simp only [Nat.add_zero] at c0
     unfold strV at c0 c1 CK
     have XN:=hide (fun v (hv:Below wr.heap.size wr v) => ((uh XR).below hv).cell)
     have CF:=hide (fun v (hv:Below wr.heap.size wr v) => rfind8_any qa ca asl tn v ((uh HA).1.below (bl_tr (uh BR) hv)) (fun y hy => ((uh HA).2 y hy).1.1) (uh HTN))
     obtain ⟨FI,hFI⟩:∃ i,findI asl tn = i:=⟨_,rfl⟩
     have HFC:=hide (uh FC tn)
     rw [hFI] at CF HFC
     unfold strV at CF
     clear hFI
     go_wp2_with fail
     refine wp_region_held_drew (S:=fun v => Below wr.heap.size wr v) (by kernel_rfl) (bdrew8 _) (fun hHeld => ?_)
     refine wpAnyH_take (i:=0) (oi:={ dst:=some 33,op:=_,type:=_,pos:=_,after:=_,guard:=_ }) (v:=?vv1) rfl (by kernel_rfl) (by kernel_rfl) (by kernel_rfl) (fun _ _ _ h => h) (Or.inl ⟨by rfl,?hy1⟩) (by assumption) ?rest1
     case hy1 => (intro w9 hSw; (try dsimp only at hSw); go_simp; (first | done | with_reducible rfl))
     (try simp only [Act.put,List.setIfInBounds_toArray,List.set_cons_zero,List.set_cons_succ])
     refine wpAnyH_take (i:=1) (oi:={ dst:=some 34,op:=_,type:=_,pos:=_,after:=_,guard:=_ }) (v:=?vv2) rfl (by kernel_rfl) (by kernel_rfl) (by kernel_rfl) (fun _ _ _ h => h) (Or.inl ⟨by rfl,?hy2⟩) (by assumption) ?rest2
     case hy2 => (intro w9 hSw; have c9:=(uh XN) w9 hSw; (try dsimp only at hSw); go_simp; (first | done | with_reducible rfl))
     (try simp only [Act.put,List.setIfInBounds_toArray,List.set_cons_zero,List.set_cons_succ])
     refine wpAnyH_take (i:=2) (oi:={ dst:=some 35,op:=_,type:=_,pos:=_,after:=_,guard:=_ }) (v:=?vv3) rfl (by kernel_rfl) (by kernel_rfl) (by kernel_rfl) (fun _ _ _ h => h) (Or.inl ⟨by rfl,?hy3⟩) (by assumption) ?rest3
     case hy3 => (intro w9 hSw; (try dsimp only at hSw); go_simp; (first | done | with_reducible rfl))
     (try simp only [Act.put,List.setIfInBounds_toArray,List.set_cons_zero,List.set_cons_succ])
     refine wpAnyH_take (i:=3) (oi:={ dst:=some 36,op:=_,type:=_,pos:=_,after:=_,guard:=_ }) (v:=?vv4) rfl (by kernel_rfl) (by kernel_rfl) (by kernel_rfl) (fun _ _ _ h => h) (Or.inl ⟨by rfl,?hy4⟩) (by assumption) ?rest4
     case hy4 => (intro w9 hSw; (try dsimp only at hSw); go_simp; (first | done | with_reducible rfl))
     (try simp only [Act.put,List.setIfInBounds_toArray,List.set_cons_zero,List.set_cons_succ])
     refine wpAnyH_take (i:=4) (oi:={ dst:=some 37,op:=_,type:=_,pos:=_,after:=_,guard:=_ }) (v:=?vv5) rfl (by kernel_rfl) (by kernel_rfl) (by kernel_rfl) (fun _ _ _ h => h) (Or.inl ⟨by rfl,?hy5⟩) (by assumption) ?rest5
     case hy5 => (intro w9 hSw; (try dsimp only at hSw); go_simp; (first | done | with_reducible rfl))
     (try simp only [Act.put,List.setIfInBounds_toArray,List.set_cons_zero,List.set_cons_succ])
     refine wpAnyH_take (i:=5) (oi:={ dst:=some 38,op:=_,type:=_,pos:=_,after:=_,guard:=_ }) (v:=?vv6) rfl (by kernel_rfl) (by kernel_rfl) (by kernel_rfl) (fun _ _ _ h => h) (Or.inl ⟨by rfl,?hy6⟩) (by assumption) ?rest6
     case hy6 => (intro w9 hSw; (try dsimp only at hSw); go_simp; (first | done | with_reducible rfl))
     (try simp only [Act.put,List.setIfInBounds_toArray,List.set_cons_zero,List.set_cons_succ])
     refine wpAnyH_take (i:=6) (oi:={ dst:=some 39,op:=_,type:=_,pos:=_,after:=_,guard:=_ }) (v:=?vv7) rfl (by kernel_rfl) (by kernel_rfl) (by kernel_rfl) (fun _ _ _ h => h) (Or.inl ⟨by rfl,?hy7⟩) (by assumption) ?rest7
     case hy7 => (intro w9 hSw; have c9:=(uh c0) w9 hSw; (try dsimp only at hSw); go_simp; (first | done | with_reducible rfl))
     (try simp only [Act.put,List.setIfInBounds_toArray,List.set_cons_zero,List.set_cons_succ])
     refine wpAnyH_ready (rs:=[7]) (by kernel_rfl) (by simp) ?_
     refine AllReadyH.cons (o:={ dst:=some 40,op:=_,type:=_,pos:=_,after:=_,guard:=_ }) rfl (fun K hK => ?_) AllReadyH.nil
     go_simp
     refine (uh CF _ hHeld).mono ?_
     rintro e w6 ⟨rfl,hb6⟩
     refine hK.out _ _ (bl_tr hHeld hb6) (fun hHeldN => ?_)
     clear hK K hHeld
     have hHeld:=hHeldN
     clear hHeldN
     (try simp only [Act.put,List.setIfInBounds_toArray,List.set_cons_zero,List.set_cons_succ])
     refine wpAnyH_take (i:=8) (oi:={ dst:=some 10,op:=_,type:=_,pos:=_,after:=_,guard:=_ }) (v:=?vv8) rfl (by kernel_rfl) (by kernel_rfl) (by kernel_rfl) (fun _ _ _ h => h) (Or.inl ⟨by rfl,?hy8⟩) (by assumption) ?rest8
     case hy8 => (intro w9 hSw; (try dsimp only at hSw); go_simp; (first | done | with_reducible rfl))
     (try simp only [Act.put,List.setIfInBounds_toArray,List.set_cons_zero,List.set_cons_succ])
     refine wpAnyH_done (by kernel_rfl) ?_ _
     have BN:=hide hHeld
     have R6:=hide ((uh RR).below hHeld)
     have c2w:=uh c2 _ hHeld
     have x6:=uh XN _ hHeld
     have xl6:w.heap.size < w6.heap.size:=by have:=uh zr; have:=hHeld.size; omega
     have B6w:=hide (bl_tr (uh BR) hHeld)
     clear hHeld hb6 CF
     rcases uh HFC with ⟨hf,hcn⟩ | ⟨hf,hcn,hfn⟩ | ⟨j,hf,hj,hcn,hjn,hfn⟩
     ·clear HFC
      subst hf
      have hs:SV = none:=uh HNO (fun hk => by have:=hk.1; simp only at this; omega)
      obtain ⟨D0,hD0⟩:=uh HV
      rw [hs] at hD0
      cases hD0
     ·clear HFC
      subst hf
      cases mu
      ·have HOK:Hid (rowOk N l (tn,(so:Int),tst,tne)):=hide ⟨by simp only; omega,fun _ => of_decide_eq_false (uh HMU),fun a ha => by simp only at ha; rw [hfn] at ha; cases ha⟩
       have HF1:=uh HFS
       have HR1:=uh HRS
       rw [hfn] at HF1 HR1
       have HF2:=hide HF1
       have HR2:=hide HR1
       clear hcn hfn HF1 HR1
       go_wp2_with fail
       go_roundw
       case rel => exact ⟨n + 1,k,cs,rfl,by go_num,by omega,hide (by rw [uh HF2]; simpa using uh HK),hide (uh HOS (uh HOK)),hide ((uh GB).below (uh BN)),hide (by rw [uh HR2]; exact (uh SE).below (uh BN)),IB,hide ((uh ST).trans (Stay.below (uh BN) (by have:=uh zr; omega)))⟩
       case measure => simp [intOf]; omega
      ·have hs:SV = none:=uh HNO (fun hk => hk.2.1 hcn (of_decide_eq_true (uh HMU)))
       obtain ⟨D0,hD0⟩:=uh HV
       rw [hs] at hD0
       cases hD0
     ·clear HFC
      subst hf
      have hj1:(j:Int) < (asl.length:Int):=by omega
      have HAJ:=hide ((uh HA).2 _ (getD_mem7 (z:=noAtA) hj))
      obtain ⟨b2,o2,hq,hb2,hc2⟩:=(uh HA).1.lies (show 0 < asl.length by omega)
      subst hq
      have AC:Hid (∀ v,Below w.heap.size w v → At8 v b2 (o2 + j * 12) (atCells (asl.getD j noAtA))):=hide (fun v hv i u e => (hv.cell (p:=⟨b2,_,none⟩) hb2).trans (hc2 j hj i u e))
      clear hc2 hb2
      have HFN:=hide hfn
      have HJN:=hide hjn
      have HCN:=hide hcn
      clear hfn hjn hcn
      generalize asl.getD j noAtA = a at HAJ AC HFN HJN
      have LA:=atWd.2.1 a
      have LB:(atCells a).toArray.size = 12:=by rw [List.size_toArray]; exact LA
      have OA:Hid (Ones (atCells a).toArray):=hide (fun v hv => atWd.2.2 a v (by simpa using hv))
      have kd1:(atCells a).toArray[1]? = some (.int .i64 a.kd):=rfl
      have A6:=hide (uh AC _ (uh B6w))
      have STA:Hid (∀ (z:Array Value) w7 ,Stay w6.heap.size (w6.alloc (.cells z 45)) w7 → Below w6.heap.size w6 w7):=hide (fun z w7 s => bl_tr7 (al1p _ _) s.1)
      go_wp2_with (first | (refine wpList_isLoad 45 rfl ?_; refine wpList_loadG aggAttr rfl _ rfl rfl LA (uh A6) ?_) | (refine wpList_isStore 45 rfl ?_; refine wpList_storeG aggAttr rfl _ _ rfl rfl rfl (Box.new _ _ _) LB rfl (uh OA) ?_; intro w7 b7 s7 z7; have GA:=hide b7; have BA:=hide (uh STA _ w7 s7); clear b7 s7 z7))
      have ga:Hid (w6.heap.size < w7.heap.size ∧ wr.heap.size ≤ w6.heap.size):=hide ⟨(uh GA).lt,(uh BN).size⟩
      obtain ⟨ag,hag⟩:∃ x,w6.heap.size = x:=⟨_,rfl⟩
      rw [hag] at GA ga ⊢
      have HAG:=hide hag
      clear hag STA A6 AC c2w x6 xl6
      have B7:=hide (bl_tr (uh BN) (uh BA))
      have B7w:=hide (bl_tr (uh BR) (uh B7))
      have KF:=hide (fun v (hv:Below w7.heap.size w7 v) => (((uh GA).below hv).cell 1).trans kd1)
      have SF:=hide (fun v (hv:Below w7.heap.size w7 v) => uh c1 v (bl_tr (uh B7) hv))
      have RF:=hide (fun v (hv:Below w7.heap.size w7 v) => (fun j u e => uh FR v (bl_tr (uh B7) hv) j u e:At8 v b (o + n * 3) (rrCells (tn,SS,mu))))
      have AF:=hide (fun v (hv:Below w7.heap.size w7 v) => (by have:=At8.box ((uh GA).below hv); simpa using this:At8 v ag 0 (atCells a)))
      have CMY:=hide (fun v (hv:Below w7.heap.size w7 v) => uh CM a (uh HAJ) v (bl_tr (uh B7w) hv))
      obtain ⟨KD,hKD⟩:∃ x,(bndT.getD so (0,0,0,0)).1 = x:=⟨_,rfl⟩
      obtain ⟨MY,hMY⟩:∃ x,mayR N tn (so:Int) a.d = x:=⟨_,rfl⟩
      rw [hKD] at CK
      rw [hMY] at CMY
      have HKD:=hide hKD
      have HMY:=hide hMY
      clear hKD hMY kd1 CM
      by_cases hkd:a.kd = KD
      ·have tk:(a.kd != KD) = false:=by simp [hkd]
       have HKK:=hide hkd
       clear hkd
       refine wp_region_held_drew (S:=fun v => Below w7.heap.size w7 v) (by kernel_rfl) (bdrew8 _) (fun hHeld => ?_)
       refine wpAnyH_take (i:=0) (oi:={ dst:=some 62,op:=_,type:=_,pos:=_,after:=_,guard:=_ }) (v:=?vv9) rfl (by kernel_rfl) (by kernel_rfl) (by kernel_rfl) (fun _ _ _ h => h) (Or.inl ⟨by rfl,?hy9⟩) (by assumption) ?rest9
       case hy9 => (intro w9 hSw; (try dsimp only at hSw); go_simp; (first | done | with_reducible rfl))
       (try simp only [Act.put,List.setIfInBounds_toArray,List.set_cons_zero,List.set_cons_succ])
       refine wpAnyH_take (i:=1) (oi:={ dst:=some 63,op:=_,type:=_,pos:=_,after:=_,guard:=_ }) (v:=?vv10) rfl (by kernel_rfl) (by kernel_rfl) (by kernel_rfl) (fun _ _ _ h => h) (Or.inl ⟨by rfl,?hy10⟩) (by assumption) ?rest10
       case hy10 => (intro w9 hSw; have c9:=(uh KF) w9 hSw; (try dsimp only at hSw); go_simp; (first | done | with_reducible rfl))
       (try simp only [Act.put,List.setIfInBounds_toArray,List.set_cons_zero,List.set_cons_succ])
       refine wpAnyH_take (i:=2) (oi:={ dst:=some 64,op:=_,type:=_,pos:=_,after:=_,guard:=_ }) (v:=?vv11) rfl (by kernel_rfl) (by kernel_rfl) (by kernel_rfl) (fun _ _ _ h => h) (Or.inl ⟨by rfl,?hy11⟩) (by assumption) ?rest11
       case hy11 => (intro w9 hSw; (try dsimp only at hSw); go_simp; (first | done | with_reducible rfl))
       (try simp only [Act.put,List.setIfInBounds_toArray,List.set_cons_zero,List.set_cons_succ])
       refine wpAnyH_take (i:=3) (oi:={ dst:=some 65,op:=_,type:=_,pos:=_,after:=_,guard:=_ }) (v:=?vv12) rfl (by kernel_rfl) (by kernel_rfl) (by kernel_rfl) (fun _ _ _ h => h) (Or.inl ⟨by rfl,?hy12⟩) (by assumption) ?rest12
       case hy12 => (intro w9 hSw; (try dsimp only at hSw); go_simp; (first | done | with_reducible rfl))
       (try simp only [Act.put,List.setIfInBounds_toArray,List.set_cons_zero,List.set_cons_succ])
       refine wpAnyH_take (i:=4) (oi:={ dst:=some 66,op:=_,type:=_,pos:=_,after:=_,guard:=_ }) (v:=?vv13) rfl (by kernel_rfl) (by kernel_rfl) (by kernel_rfl) (fun _ _ _ h => h) (Or.inl ⟨by rfl,?hy13⟩) (by assumption) ?rest13
       case hy13 => (intro w9 hSw; (try dsimp only at hSw); go_simp; (first | done | with_reducible rfl))
       (try simp only [Act.put,List.setIfInBounds_toArray,List.set_cons_zero,List.set_cons_succ])
       refine wpAnyH_take (i:=5) (oi:={ dst:=some 67,op:=_,type:=_,pos:=_,after:=_,guard:=_ }) (v:=?vv14) rfl (by kernel_rfl) (by kernel_rfl) (by kernel_rfl) (fun _ _ _ h => h) (Or.inl ⟨by rfl,?hy14⟩) (by assumption) ?rest14
       case hy14 => (intro w9 hSw; (try dsimp only at hSw); go_simp; (first | done | with_reducible rfl))
       (try simp only [Act.put,List.setIfInBounds_toArray,List.set_cons_zero,List.set_cons_succ])
       refine wpAnyH_take (i:=6) (oi:={ dst:=some 68,op:=_,type:=_,pos:=_,after:=_,guard:=_ }) (v:=?vv15) rfl (by kernel_rfl) (by kernel_rfl) (by kernel_rfl) (fun _ _ _ h => h) (Or.inl ⟨by rfl,?hy15⟩) (by assumption) ?rest15
       case hy15 => (intro w9 hSw; have c9:=(uh SF) w9 hSw; (try dsimp only at hSw); go_simp; (first | done | with_reducible rfl))
       (try simp only [Act.put,List.setIfInBounds_toArray,List.set_cons_zero,List.set_cons_succ])
       refine wpAnyH_ready (rs:=[7]) (by kernel_rfl) (by simp) ?_
       refine AllReadyH.cons (o:={ dst:=some 69,op:=_,type:=_,pos:=_,after:=_,guard:=_ }) rfl (fun K hK => ?_) AllReadyH.nil
       go_simp
       refine (uh CK _).mono ?_
       rintro e w8 ⟨rfl,rfl⟩
       refine hK.out _ _ (hHeld) (fun hHeldN => ?_)
       clear hK K hHeld
       have hHeld:=hHeldN
       clear hHeldN
       (try simp only [Act.put,List.setIfInBounds_toArray,List.set_cons_zero,List.set_cons_succ])
       refine wpAnyH_take (i:=8) (oi:={ dst:=some 70,op:=_,type:=_,pos:=_,after:=_,guard:=_ }) (v:=?vv16) rfl (by kernel_rfl) (by kernel_rfl) (by kernel_rfl) (fun _ _ _ h => h) (Or.inl ⟨by rfl,?hy16⟩) (by assumption) ?rest16
       case hy16 => (intro w9 hSw; (try dsimp only at hSw); go_simp; (first | done | with_reducible rfl))
       (try simp only [Act.put,List.setIfInBounds_toArray,List.set_cons_zero,List.set_cons_succ])
       refine wpAnyH_take (i:=9) (oi:={ dst:=some 71,op:=_,type:=_,pos:=_,after:=_,guard:=_ }) (v:=?vv17) rfl (by kernel_rfl) (by kernel_rfl) (by kernel_rfl) (fun _ _ _ h => h) (Or.inl ⟨by rfl,?hy17⟩) (by assumption) ?rest17
       case hy17 => (intro w9 hSw; (try dsimp only at hSw); go_simp; (first | done | with_reducible rfl))
       (try simp only [Act.put,List.setIfInBounds_toArray,List.set_cons_zero,List.set_cons_succ])
       refine wpAnyH_take (i:=10) (oi:={ dst:=some 72,op:=_,type:=_,pos:=_,after:=_,guard:=_ }) (v:=?vv18) rfl (by kernel_rfl) (by kernel_rfl) (by kernel_rfl) (fun _ _ _ h => h) (Or.inl ⟨by rfl,?hy18⟩) (by assumption) ?rest18
       case hy18 => (intro w9 hSw; (try dsimp only at hSw); go_simp; (first | done | with_reducible rfl))
       (try simp only [Act.put,List.setIfInBounds_toArray,List.set_cons_zero,List.set_cons_succ])
       refine wpAnyH_take (i:=11) (oi:={ dst:=some 73,op:=_,type:=_,pos:=_,after:=_,guard:=_ }) (v:=?vv19) rfl (by kernel_rfl) (by kernel_rfl) (by kernel_rfl) (fun _ _ _ h => h) (Or.inl ⟨by rfl,?hy19⟩) (by assumption) ?rest19
       case hy19 => (intro w9 hSw; (try dsimp only at hSw); go_simp; (first | done | with_reducible rfl))
       (try simp only [Act.put,List.setIfInBounds_toArray,List.set_cons_zero,List.set_cons_succ])
       refine wpAnyH_take (i:=12) (oi:={ dst:=some 74,op:=_,type:=_,pos:=_,after:=_,guard:=_ }) (v:=?vv20) rfl (by kernel_rfl) (by kernel_rfl) (by kernel_rfl) (fun _ _ _ h => h) (Or.inl ⟨by rfl,?hy20⟩) (by assumption) ?rest20
       case hy20 => (intro w9 hSw; (try dsimp only at hSw); go_simp; (first | done | with_reducible rfl))
       (try simp only [Act.put,List.setIfInBounds_toArray,List.set_cons_zero,List.set_cons_succ])
       refine wpAnyH_take (i:=13) (oi:={ dst:=some 75,op:=_,type:=_,pos:=_,after:=_,guard:=_ }) (v:=?vv21) rfl (by kernel_rfl) (by kernel_rfl) (by kernel_rfl) (fun _ _ _ h => h) (Or.inl ⟨by rfl,?hy21⟩) (by assumption) ?rest21
       case hy21 => (intro w9 hSw; (try dsimp only at hSw); go_simp; (first | done | with_reducible rfl))
       (try simp only [Act.put,List.setIfInBounds_toArray,List.set_cons_zero,List.set_cons_succ])
       refine wpAnyH_take (i:=14) (oi:={ dst:=some 76,op:=_,type:=_,pos:=_,after:=_,guard:=_ }) (v:=.agg (rrCells (tn,SS,mu)).toArray) rfl (by kernel_rfl) (by kernel_rfl) (by kernel_rfl) (fun _ _ _ h => h) (yields_loadG aggRow8 (by rfl) _ rfl rfl rfl (uh RF)) (by assumption) ?_
       (try simp only [Act.put,List.setIfInBounds_toArray,List.set_cons_zero,List.set_cons_succ])
       refine wpAnyH_take (i:=15) (oi:={ dst:=some 77,op:=_,type:=_,pos:=_,after:=_,guard:=_ }) (v:=.agg (atCells a).toArray) rfl (by kernel_rfl) (by kernel_rfl) (by kernel_rfl) (fun _ _ _ h => h) (yields_loadG aggAttr (by rfl) _ rfl rfl LA (uh AF)) (by assumption) ?_
       (try simp only [Act.put,List.setIfInBounds_toArray,List.set_cons_zero,List.set_cons_succ])
       refine wpAnyH_ready (rs:=[16]) (by kernel_rfl) (by simp) ?_
       refine AllReadyH.cons (o:={ dst:=some 78,op:=_,type:=_,pos:=_,after:=_,guard:=_ }) rfl (fun K hK => ?_) AllReadyH.nil
       go_simp
       refine (uh CMY _ hHeld).mono ?_
       rintro e w9 ⟨rfl,hb9⟩
       refine hK.out _ _ (bl_tr hHeld hb9) (fun hHeldN => ?_)
       clear hK K hHeld
       have hHeld:=hHeldN
       clear hHeldN
       (try simp only [Act.put,List.setIfInBounds_toArray,List.set_cons_zero,List.set_cons_succ])
       refine wpAnyH_take (i:=17) (oi:={ dst:=some 79,op:=_,type:=_,pos:=_,after:=_,guard:=_ }) (v:=?vv22) rfl (by kernel_rfl) (by kernel_rfl) (by kernel_rfl) (fun _ _ _ h => h) (Or.inl ⟨by rfl,?hy22⟩) (by assumption) ?rest22
       case hy22 => (intro w9 hSw; (try dsimp only at hSw); go_simp; (first | done | with_reducible rfl))
       (try simp only [Act.put,List.setIfInBounds_toArray,List.set_cons_zero,List.set_cons_succ])
       refine wpAnyH_take (i:=18) (oi:={ dst:=some 80,op:=_,type:=_,pos:=_,after:=_,guard:=_ }) (v:=?vv23) rfl (by kernel_rfl) (by kernel_rfl) (by kernel_rfl) (fun _ _ _ h => h) (Or.inl ⟨by rfl,?hy23⟩) (by assumption) ?rest23
       case hy23 => (intro w9 hSw; (try dsimp only at hSw); go_simp; (first | done | with_reducible rfl))
       (try simp only [Act.put,List.setIfInBounds_toArray,List.set_cons_zero,List.set_cons_succ])
       refine wpAnyH_done (by kernel_rfl) ?_ _
       have B9:=hide hHeld
       have B9w:=hide (bl_tr (uh B7w) hHeld)
       have B9r:=hide (bl_tr (uh B7) hHeld)
       have R9:=hide ((uh RR).below (uh B9r))
       clear hHeld hb9
       cases MY
       ·have hs:SV = none:=uh HNO (fun hk => by
         obtain ⟨u,hu⟩:=hk.2.2 a.d (uh HFN)
         rw [says_no (fun hh => by have:=hh.2; rw [show a.d.1 = tn from uh HJN,uh HMY] at this; cases this)] at hu
         cases hu)
        obtain ⟨D0,hD0⟩:=uh HV
        rw [hs] at hD0
        cases hD0
       ·have HOK:Hid (rowOk N l (tn,(so:Int),tst,tne)):=hide ⟨by simp only; have:=uh HCN; omega,fun h0 => by have:=uh HCN; simp only at h0; omega,fun y hy => by
         simp only at hy
         rw [uh HFN] at hy
         cases hy
         exact says_kd ((uh HKK).trans (uh HKD).symm) (by rw [show a.d.1 = tn from uh HJN]; exact uh HMY)⟩
        have HF1:=uh HFS
        have HR1:=uh HRS
        rw [uh HFN] at HF1 HR1
        have HF2:=hide HF1
        have HR2:=hide HR1
        have SM:=hide (uh HSM a (uh HJN) (uh HMY))
        clear HF1 HR1
        have GB9:=hide ((uh GB).below (uh B9r))
        have GA9:=hide (uh AF _ (uh B9))
        have CS:=hide (rset8_any N cs (refD N ats l n) a w.heap.size B w9 ((uh SE).below (uh B9r)) (by have:=(uh B9w).size; omega) ((uh HAJ).1.below8 (uh B9w)) (uh HAJ).2 (uh SM))
        go_wp2_with (first | (refine wpList_isLoad 35 rfl ?_; refine wpList_load8 rfl _ rfl rfl (uh GB9) (uh ca5) ?_) | (refine wpList_isLoad 45 rfl ?_; refine wpList_loadG aggAttr rfl _ rfl rfl LA (uh GA9) ?_))
        refine (uh CS).mono ?_
        rintro e w10 ⟨cn,rfl,hv10,hb10,hq10⟩
        have V10:=hide hv10
        have B10:=hide hb10
        have Q10:=hide hq10
        have GB10:=hide ((uh GB9).below hb10)
        clear hv10 hb10 hq10 CS
        go_wp2_with (refine wpList_isStore 35 rfl ?_; refine wpList_store8 rfl _ _ rfl rfl rfl (uh GB10) (uh V10).1 (uh ca5) (SeIn.ones (uh V10)) ?_; intro w11 b11 s11 z11; have GB11:=hide b11; have S11:=hide s11; clear b11 s11 z11)
        have IB10:=hide (uh Q10 _ (uh IB) (fun y hy => by have h1:=uh zr; have h2:=(uh B9r).size; exact ⟨by omega,by omega⟩))
        have V11:=hide ((uh V10).holdS (uh IB10) (uh S11).1.size (fun y hy hl => (uh S11).block hy.1 hl))
        have ST11:=hide (((uh ST).trans (Stay.below (bl_tr (uh B9r) (uh B10)) (by have:=uh zr; omega))).trans (uh S11))
        go_wp2_with fail
        go_roundw
        case rel => exact ⟨n + 1,k + 1,cn,by go_num,by go_num,by omega,hide (by rw [uh HF2,List.length_append,← uh HK]; rfl),hide (uh HOS (uh HOK)),GB11,hide (by rw [uh HR2]; exact uh V11),IB10,ST11⟩
        case measure => simp [intOf]; omega
      ·have tk:(a.kd != KD) = true:=by simp [hkd]
       have hs:SV = none:=uh HNO (fun hk => by
        obtain ⟨u,hu⟩:=hk.2.2 a.d (uh HFN)
        rw [says_no (fun hh => hkd (Eq.trans (show a.kd = _ from hh.1) (uh HKD)))] at hu
        cases hu)
       obtain ⟨D0,hD0⟩:=uh HV
       rw [hs] at hD0
       cases hD0
    ·skip
     have hi1:¬ (n:Int) < (ats.length:Int):=by omega
     have en:n = ats.length:=by omega
     subst en
     rw [List.take_of_length_le (Nat.le_refl _)] at HK OK
     have xr:=(uh XR).cell
     have xlr:=(uh XR).lt
     have hk9:k ≤ 9223372036854775807:=by
      have h1:=uh HK
      have h2:(foundL ats l).length ≤ ats.length:=List.length_filterMap_le _ _
      rw [h1]
      exact Nat.le_trans h2 lat
     have LLN:=uh LL
     by_cases hkl:k = asl.length
     ·have HEQ:Hid ((foundL ats l).length = l.length):=hide (by rw [← uh HK,hkl,LLN])
      clear LLN
      subst hkl
      have tl:((asl.length:Int) != (asl.length:Int)) = false:=by simp
      by_cases hb61:N = 61 ∧ asl.length ≠ 1
      ·obtain ⟨h61,hl1⟩:=hb61
       have e0:((0:Int),zeroD,(14:Int)) = R:=by
        have h0:=uh HR
        cases SV with
        | none => exact h0
        | some D =>
          simp only at h0
          rw [if_pos ⟨h61,by rw [uh LL]; exact hl1⟩] at h0
          exact h0
       have tN:(N == 61) = true:=by rw [h61]; rfl
       clear h61
       have t1:((asl.length:Int) != 1) = true:=by rw [bne_iff_ne]; omega
       clear hl1
       subst e0
       have ER:=hide (uh RR)
       have EB:=hide (uh BR)
       (try clear FR); (try clear CK); (try clear CM); (try clear XN); (try clear HNO); (try clear HSM); (try clear HOS); (try clear HFS); (try clear HRS); (try clear HFC); (try clear HTN); (try clear HMU); (try clear c0); (try clear c1); (try clear c2); (try clear IB); (try clear SE); (try clear GB); (try clear OK); (try clear HK); (try clear ST); (try clear PB); (try clear RW5); (try clear NOK); (try clear NLN); (try clear END); (try clear ROW); (try clear SML); (try clear CNT); (try clear HA); (try clear HI); (try clear HO); (try clear FC); (try clear LL); (try clear HR); (try clear XR); (try clear X5); (try clear R5); (try clear V5); (try clear BN); (try clear HAJ); (try clear AC); (try clear HFN); (try clear HJN); (try clear HCN); (try clear OA); (try clear GA); (try clear BA); (try clear B7); (try clear B7w); (try clear KF); (try clear SF); (try clear RF); (try clear AF); (try clear CMY); (try clear HKD); (try clear HMY); (try clear HKK); (try clear HAG); (try clear CP); (try clear HCP); (try clear HC1); (try clear HE); (try clear H61); (try clear HN1); (try clear HEQ); (try clear HX0); (try clear B9); (try clear B9r); (try clear ca5); (try clear BR); (try clear RR); (try clear HF2); (try clear HR2); (try clear hkd); (try clear hfn); (try clear hcn); (try clear hjn); (try clear hi1); (try clear hj1); (try clear G5); (try clear B5); (try clear kd1); (try clear LA); (try clear LB); (try clear nl); (try clear lat); (try clear B12); (try clear R12); (try clear R9); (try clear B9w); (try clear R8); (try clear B8w); (try clear R6); (try clear B6w); (try clear HW); (try clear hs)
       go_upto_region 22 with fail
       go_wp2_with (refine wpList_isStore 35 rfl ?_; refine wpList_store8 rfl _ _ rfl rfl rfl (uh ER) rfl rfl zero_ones ?_; intro w6 b6 s6 _; have B6:=hide b6; have S6:=hide s6; clear b6 s6)
       refine bodyPost_ret (results_se3 rfl rfl (uh B6) rfl) rfl ⟨_,rfl,(zero_in _ _ _),?_⟩
       exact bl_tr7 (uh EB) (bl_mono7 (uh S6).1 (Nat.le_succ _))
      ·have HN1:Hid (N ≠ 61 ∨ l.length = 1):=hide (by rw [uh LL]; by_cases h:N = 61; exact .inr (Classical.byContradiction fun h1 => hb61 ⟨h,h1⟩); exact .inl h)
       have HE:=hide (uh END (uh OK) (uh HEQ) (uh HN1))
       have TG:((N == 61) = false) ∨ (((N == 61) = true) ∧ ((asl.length:Int) != 1) = false):=by
        by_cases h:N = 61
        ·refine .inr ⟨by simp [h],?_⟩
         have:asl.length = 1:=Classical.byContradiction fun h1 => hb61 ⟨h,h1⟩
         rw [this]; rfl
        ·exact .inl (by simp [h])
       have H61:Hid (∀ D,SV = some D → (N,D,(0:Int)) = R):=hide (fun D hD => by
        have h0:=uh HR
        rw [hD] at h0
        simp only at h0
        rw [if_neg (by rw [uh LL]; exact hb61)] at h0
        exact h0)
       clear hb61
       have c24:wr.cell? ⟨g,24,none⟩ = some (.int .i64 (refD N ats l ats.length 24).x):=((uh GB).cell 24).trans (SeIn.int24 (uh SE))
       obtain ⟨X24,hX⟩:∃ x,(refD N ats l ats.length 24).x = x:=⟨_,rfl⟩
       rw [hX] at c24 HE
       clear hX
       have HCP:=hide (uh FC [112,97,100,115])
       have HC1:=hide (uh CNT (uh HEQ) [112,97,100,115])
       have CP:=hide (fun v (hv:Below w.heap.size w v) => rfind8_any qa ca asl [112,97,100,115] v ((uh HA).1.below hv) (fun y hy => ((uh HA).2 y hy).1.1) (isB_of rfl))
       obtain ⟨FP,hFP⟩:∃ i,findI asl [112,97,100,115] = i:=⟨_,rfl⟩
       rw [hFP] at CP HCP
       unfold strV at CP
       rw [lit_pads] at CP
       clear hFP
       rw [any_cnt8] at HE
       by_cases hx0:X24 = 0
       ·subst hx0
        have hs:SV = some (refD N ats l ats.length):=by rw [uh HE,if_pos (Or.inl rfl)]
        have e0:=uh H61 _ hs
        clear hs
        subst e0
        rcases TG with tg | ⟨tg,tg2⟩
        ·go_wp2_with fail
         have BL:=hide ((Below.refl _ _:Below wr.heap.size wr wr))
         have GL:=hide ((uh GB).below (uh BL))
         have RL:=hide ((uh RR).below (uh BL))
         refine wp_region_held_drew (S:=fun v => Box v g cs 35) (by kernel_rfl) ((uh GL).below (bdrew8 _)) (fun hHeld => ?_)
         refine wpAnyH_take (i:=0) (oi:={ dst:=some 113,op:=_,type:=_,pos:=_,after:=_,guard:=_ }) (v:=?vv34) rfl (by kernel_rfl) (by kernel_rfl) (by kernel_rfl) (fun _ _ _ h => h) (Or.inl ⟨by rfl,?hy34⟩) (by assumption) ?rest34
         case hy34 => (intro w9 hSw; (try dsimp only at hSw); go_simp; (first | done | with_reducible rfl))
         (try simp only [Act.put,List.setIfInBounds_toArray,List.set_cons_zero,List.set_cons_succ])
         refine wpAnyH_take (i:=1) (oi:={ dst:=some 114,op:=_,type:=_,pos:=_,after:=_,guard:=_ }) (v:=.agg cs) rfl (by kernel_rfl) (by kernel_rfl) (by kernel_rfl) (fun _ _ _ h => h) (yields_load8 (by rfl) _ rfl rfl (fun v hv => hv) (uh ca5)) (by assumption) ?_
         (try simp only [Act.put,List.setIfInBounds_toArray,List.set_cons_zero,List.set_cons_succ])
         refine wpAnyH_take (i:=2) (oi:={ dst:=some 2,op:=_,type:=_,pos:=_,after:=_,guard:=_ }) (v:=?vv35) rfl (by kernel_rfl) (by kernel_rfl) (by kernel_rfl) (fun _ _ _ h => h) (Or.inl ⟨by rfl,?hy35⟩) (by assumption) ?rest35
         case hy35 => (intro w9 hSw; (try dsimp only at hSw); go_simp; (first | done | with_reducible rfl))
         (try simp only [Act.put,List.setIfInBounds_toArray,List.set_cons_zero,List.set_cons_succ])
         refine wpAnyH_ready (rs:=[3]) (by kernel_rfl) (by simp) ?_
         refine AllReadyH.cons (o:={ dst:=none,op:=_,type:=_,pos:=_,after:=_,guard:=_ }) rfl (fun K hK => ?_) AllReadyH.nil
         rw [if_pos (by rfl)]
         refine wp_store8 _ _ rfl rfl rfl ((uh RL).below (bdrew8 _)) (uh ca5) rfl (SeIn.ones (uh SE)) ?_
         intro w13 b13 s13 z13
         have B13:=hide b13
         have S13:=hide s13
         clear b13 s13 z13
         refine hK.out _ _ ((uh S13).box hHeld (by have:=uh zr; omega)) (fun hHeldN => ?_)
         clear hK K hHeld
         have hHeld:=hHeldN
         clear hHeldN
         (try simp only [Act.put,List.setIfInBounds_toArray,List.set_cons_zero,List.set_cons_succ])
         refine wpAnyH_take (i:=4) (oi:={ dst:=some 4,op:=_,type:=_,pos:=_,after:=_,guard:=_ }) (v:=?vv36) rfl (by kernel_rfl) (by kernel_rfl) (by kernel_rfl) (fun _ _ _ h => h) (Or.inl ⟨by rfl,?hy36⟩) (by assumption) ?rest36
         case hy36 => (intro w9 hSw; (try dsimp only at hSw); go_simp; (first | done | with_reducible rfl))
         (try simp only [Act.put,List.setIfInBounds_toArray,List.set_cons_zero,List.set_cons_succ])
         refine wpAnyH_done (by kernel_rfl) ?_ _
         have BQ:=hide (bl_tr (uh BL) (bdrew8 _))
         go_wp2_with fail
         refine bodyPost_ret (results_se3 rfl rfl (uh B13) (uh ca5)) rfl ⟨cs,rfl,?_,bl_tr7 (bl_tr (uh BR) (uh BQ)) (bl_mono7 (uh S13).1 (Nat.le_succ _))⟩
         exact ((uh SE).below (uh BQ)).holdS (uh IB) (uh S13).1.size (fun y hy hl => (uh S13).block hy.2 hl)
        ·go_wp2_with fail
         have BL:=hide ((Below.refl _ _:Below wr.heap.size wr wr))
         have GL:=hide ((uh GB).below (uh BL))
         have RL:=hide ((uh RR).below (uh BL))
         refine wp_region_held_drew (S:=fun v => Box v g cs 35) (by kernel_rfl) ((uh GL).below (bdrew8 _)) (fun hHeld => ?_)
         refine wpAnyH_take (i:=0) (oi:={ dst:=some 113,op:=_,type:=_,pos:=_,after:=_,guard:=_ }) (v:=?vv37) rfl (by kernel_rfl) (by kernel_rfl) (by kernel_rfl) (fun _ _ _ h => h) (Or.inl ⟨by rfl,?hy37⟩) (by assumption) ?rest37
         case hy37 => (intro w9 hSw; (try dsimp only at hSw); go_simp; (first | done | with_reducible rfl))
         (try simp only [Act.put,List.setIfInBounds_toArray,List.set_cons_zero,List.set_cons_succ])
         refine wpAnyH_take (i:=1) (oi:={ dst:=some 114,op:=_,type:=_,pos:=_,after:=_,guard:=_ }) (v:=.agg cs) rfl (by kernel_rfl) (by kernel_rfl) (by kernel_rfl) (fun _ _ _ h => h) (yields_load8 (by rfl) _ rfl rfl (fun v hv => hv) (uh ca5)) (by assumption) ?_
         (try simp only [Act.put,List.setIfInBounds_toArray,List.set_cons_zero,List.set_cons_succ])
         refine wpAnyH_take (i:=2) (oi:={ dst:=some 2,op:=_,type:=_,pos:=_,after:=_,guard:=_ }) (v:=?vv38) rfl (by kernel_rfl) (by kernel_rfl) (by kernel_rfl) (fun _ _ _ h => h) (Or.inl ⟨by rfl,?hy38⟩) (by assumption) ?rest38
         case hy38 => (intro w9 hSw; (try dsimp only at hSw); go_simp; (first | done | with_reducible rfl))
         (try simp only [Act.put,List.setIfInBounds_toArray,List.set_cons_zero,List.set_cons_succ])
         refine wpAnyH_ready (rs:=[3]) (by kernel_rfl) (by simp) ?_
         refine AllReadyH.cons (o:={ dst:=none,op:=_,type:=_,pos:=_,after:=_,guard:=_ }) rfl (fun K hK => ?_) AllReadyH.nil
         rw [if_pos (by rfl)]
         refine wp_store8 _ _ rfl rfl rfl ((uh RL).below (bdrew8 _)) (uh ca5) rfl (SeIn.ones (uh SE)) ?_
         intro w13 b13 s13 z13
         have B13:=hide b13
         have S13:=hide s13
         clear b13 s13 z13
         refine hK.out _ _ ((uh S13).box hHeld (by have:=uh zr; omega)) (fun hHeldN => ?_)
         clear hK K hHeld
         have hHeld:=hHeldN
         clear hHeldN
         (try simp only [Act.put,List.setIfInBounds_toArray,List.set_cons_zero,List.set_cons_succ])
         refine wpAnyH_take (i:=4) (oi:={ dst:=some 4,op:=_,type:=_,pos:=_,after:=_,guard:=_ }) (v:=?vv39) rfl (by kernel_rfl) (by kernel_rfl) (by kernel_rfl) (fun _ _ _ h => h) (Or.inl ⟨by rfl,?hy39⟩) (by assumption) ?rest39
         case hy39 => (intro w9 hSw; (try dsimp only at hSw); go_simp; (first | done | with_reducible rfl))
         (try simp only [Act.put,List.setIfInBounds_toArray,List.set_cons_zero,List.set_cons_succ])
         refine wpAnyH_done (by kernel_rfl) ?_ _
         have BQ:=hide (bl_tr (uh BL) (bdrew8 _))
         go_wp2_with fail
         refine bodyPost_ret (results_se3 rfl rfl (uh B13) (uh ca5)) rfl ⟨cs,rfl,?_,bl_tr7 (bl_tr (uh BR) (uh BQ)) (bl_mono7 (uh S13).1 (Nat.le_succ _))⟩
         exact ((uh SE).below (uh BQ)).holdS (uh IB) (uh S13).1.size (fun y hy hl => (uh S13).block hy.2 hl)
       ·have tx:(X24 != 0) = true:=by simp [hx0]
        have HX0:=hide hx0
        clear hx0
        rcases uh HCP with ⟨hf,hcn⟩ | ⟨hf,hcn,hfn⟩ | ⟨j,hf,hj,hcn,hjn,hfn⟩
        ·exact absurd hcn (by have:=uh HC1; omega)
        ·subst hf
         have hs:SV = some (refD N ats l ats.length):=by rw [uh HE,if_pos (Or.inr (by rw [hcn]; rfl))]
         have e0:=uh H61 _ hs
         clear hs hcn hfn HCP
         subst e0
         rcases TG with tg | ⟨tg,tg2⟩
         ·go_wp2_with fail
          refine (uh CP _ (uh BR)).mono ?_
          rintro e w12 ⟨rfl,hb12⟩
          have B12:=hide hb12
          clear hb12 CP
          go_wp2_with fail
          have BL:=hide (uh B12)
          have GL:=hide ((uh GB).below (uh BL))
          have RL:=hide ((uh RR).below (uh BL))
          refine wp_region_held_drew (S:=fun v => Box v g cs 35) (by kernel_rfl) ((uh GL).below (bdrew8 _)) (fun hHeld => ?_)
          refine wpAnyH_take (i:=0) (oi:={ dst:=some 113,op:=_,type:=_,pos:=_,after:=_,guard:=_ }) (v:=?vv40) rfl (by kernel_rfl) (by kernel_rfl) (by kernel_rfl) (fun _ _ _ h => h) (Or.inl ⟨by rfl,?hy40⟩) (by assumption) ?rest40
          case hy40 => (intro w9 hSw; (try dsimp only at hSw); go_simp; (first | done | with_reducible rfl))
          (try simp only [Act.put,List.setIfInBounds_toArray,List.set_cons_zero,List.set_cons_succ])
          refine wpAnyH_take (i:=1) (oi:={ dst:=some 114,op:=_,type:=_,pos:=_,after:=_,guard:=_ }) (v:=.agg cs) rfl (by kernel_rfl) (by kernel_rfl) (by kernel_rfl) (fun _ _ _ h => h) (yields_load8 (by rfl) _ rfl rfl (fun v hv => hv) (uh ca5)) (by assumption) ?_
          (try simp only [Act.put,List.setIfInBounds_toArray,List.set_cons_zero,List.set_cons_succ])
          refine wpAnyH_take (i:=2) (oi:={ dst:=some 2,op:=_,type:=_,pos:=_,after:=_,guard:=_ }) (v:=?vv41) rfl (by kernel_rfl) (by kernel_rfl) (by kernel_rfl) (fun _ _ _ h => h) (Or.inl ⟨by rfl,?hy41⟩) (by assumption) ?rest41
          case hy41 => (intro w9 hSw; (try dsimp only at hSw); go_simp; (first | done | with_reducible rfl))
          (try simp only [Act.put,List.setIfInBounds_toArray,List.set_cons_zero,List.set_cons_succ])
          refine wpAnyH_ready (rs:=[3]) (by kernel_rfl) (by simp) ?_
          refine AllReadyH.cons (o:={ dst:=none,op:=_,type:=_,pos:=_,after:=_,guard:=_ }) rfl (fun K hK => ?_) AllReadyH.nil
          rw [if_pos (by rfl)]
          refine wp_store8 _ _ rfl rfl rfl ((uh RL).below (bdrew8 _)) (uh ca5) rfl (SeIn.ones (uh SE)) ?_
          intro w13 b13 s13 z13
          have B13:=hide b13
          have S13:=hide s13
          clear b13 s13 z13
          refine hK.out _ _ ((uh S13).box hHeld (by have:=uh zr; omega)) (fun hHeldN => ?_)
          clear hK K hHeld
          have hHeld:=hHeldN
          clear hHeldN
          (try simp only [Act.put,List.setIfInBounds_toArray,List.set_cons_zero,List.set_cons_succ])
          refine wpAnyH_take (i:=4) (oi:={ dst:=some 4,op:=_,type:=_,pos:=_,after:=_,guard:=_ }) (v:=?vv42) rfl (by kernel_rfl) (by kernel_rfl) (by kernel_rfl) (fun _ _ _ h => h) (Or.inl ⟨by rfl,?hy42⟩) (by assumption) ?rest42
          case hy42 => (intro w9 hSw; (try dsimp only at hSw); go_simp; (first | done | with_reducible rfl))
          (try simp only [Act.put,List.setIfInBounds_toArray,List.set_cons_zero,List.set_cons_succ])
          refine wpAnyH_done (by kernel_rfl) ?_ _
          have BQ:=hide (bl_tr (uh BL) (bdrew8 _))
          go_wp2_with fail
          refine bodyPost_ret (results_se3 rfl rfl (uh B13) (uh ca5)) rfl ⟨cs,rfl,?_,bl_tr7 (bl_tr (uh BR) (uh BQ)) (bl_mono7 (uh S13).1 (Nat.le_succ _))⟩
          exact ((uh SE).below (uh BQ)).holdS (uh IB) (uh S13).1.size (fun y hy hl => (uh S13).block hy.2 hl)
         ·go_wp2_with fail
          refine (uh CP _ (uh BR)).mono ?_
          rintro e w12 ⟨rfl,hb12⟩
          have B12:=hide hb12
          clear hb12 CP
          go_wp2_with fail
          have BL:=hide (uh B12)
          have GL:=hide ((uh GB).below (uh BL))
          have RL:=hide ((uh RR).below (uh BL))
          refine wp_region_held_drew (S:=fun v => Box v g cs 35) (by kernel_rfl) ((uh GL).below (bdrew8 _)) (fun hHeld => ?_)
          refine wpAnyH_take (i:=0) (oi:={ dst:=some 113,op:=_,type:=_,pos:=_,after:=_,guard:=_ }) (v:=?vv43) rfl (by kernel_rfl) (by kernel_rfl) (by kernel_rfl) (fun _ _ _ h => h) (Or.inl ⟨by rfl,?hy43⟩) (by assumption) ?rest43
          case hy43 => (intro w9 hSw; (try dsimp only at hSw); go_simp; (first | done | with_reducible rfl))
          (try simp only [Act.put,List.setIfInBounds_toArray,List.set_cons_zero,List.set_cons_succ])
          refine wpAnyH_take (i:=1) (oi:={ dst:=some 114,op:=_,type:=_,pos:=_,after:=_,guard:=_ }) (v:=.agg cs) rfl (by kernel_rfl) (by kernel_rfl) (by kernel_rfl) (fun _ _ _ h => h) (yields_load8 (by rfl) _ rfl rfl (fun v hv => hv) (uh ca5)) (by assumption) ?_
          (try simp only [Act.put,List.setIfInBounds_toArray,List.set_cons_zero,List.set_cons_succ])
          refine wpAnyH_take (i:=2) (oi:={ dst:=some 2,op:=_,type:=_,pos:=_,after:=_,guard:=_ }) (v:=?vv44) rfl (by kernel_rfl) (by kernel_rfl) (by kernel_rfl) (fun _ _ _ h => h) (Or.inl ⟨by rfl,?hy44⟩) (by assumption) ?rest44
          case hy44 => (intro w9 hSw; (try dsimp only at hSw); go_simp; (first | done | with_reducible rfl))
          (try simp only [Act.put,List.setIfInBounds_toArray,List.set_cons_zero,List.set_cons_succ])
          refine wpAnyH_ready (rs:=[3]) (by kernel_rfl) (by simp) ?_
          refine AllReadyH.cons (o:={ dst:=none,op:=_,type:=_,pos:=_,after:=_,guard:=_ }) rfl (fun K hK => ?_) AllReadyH.nil
          rw [if_pos (by rfl)]
          refine wp_store8 _ _ rfl rfl rfl ((uh RL).below (bdrew8 _)) (uh ca5) rfl (SeIn.ones (uh SE)) ?_
          intro w13 b13 s13 z13
          have B13:=hide b13
          have S13:=hide s13
          clear b13 s13 z13
          refine hK.out _ _ ((uh S13).box hHeld (by have:=uh zr; omega)) (fun hHeldN => ?_)
          clear hK K hHeld
          have hHeld:=hHeldN
          clear hHeldN
          (try simp only [Act.put,List.setIfInBounds_toArray,List.set_cons_zero,List.set_cons_succ])
          refine wpAnyH_take (i:=4) (oi:={ dst:=some 4,op:=_,type:=_,pos:=_,after:=_,guard:=_ }) (v:=?vv45) rfl (by kernel_rfl) (by kernel_rfl) (by kernel_rfl) (fun _ _ _ h => h) (Or.inl ⟨by rfl,?hy45⟩) (by assumption) ?rest45
          case hy45 => (intro w9 hSw; (try dsimp only at hSw); go_simp; (first | done | with_reducible rfl))
          (try simp only [Act.put,List.setIfInBounds_toArray,List.set_cons_zero,List.set_cons_succ])
          refine wpAnyH_done (by kernel_rfl) ?_ _
          have BQ:=hide (bl_tr (uh BL) (bdrew8 _))
          go_wp2_with fail
          refine bodyPost_ret (results_se3 rfl rfl (uh B13) (uh ca5)) rfl ⟨cs,rfl,?_,bl_tr7 (bl_tr (uh BR) (uh BQ)) (bl_mono7 (uh S13).1 (Nat.le_succ _))⟩
          exact ((uh SE).below (uh BQ)).holdS (uh IB) (uh S13).1.size (fun y hy hl => (uh S13).block hy.2 hl)
        ·subst hf
         have hs:SV = none:=by
          rw [uh HE,if_neg]
          rintro (h | h)
          ·exact uh HX0 h
          ·rw [hcn] at h; cases h
         obtain ⟨D0,hD0⟩:=uh HV
         rw [hs] at hD0
         cases hD0
     ·have hs:SV = none:=uh NLN (fun hh => hkl (by rw [uh HK,hh,LLN]))
      obtain ⟨D0,hD0⟩:=uh HV
      rw [hs] at hD0
      cases hD0
end Go.Proofs.Ytnmciappielkcaa
