import Derived.WalkMore
import Derived.Test.YtbmmcbagdomonaaGreatV43
set_option maxRecDepth 100000
set_option maxHeartbeats 40000000
namespace Go.Proofs.YtbmmcbagdomonaaGreat
open Go.RowKit
set_option linter.unusedVariables false
set_option linter.unusedSimpArgs false
theorem cidxB9_any (b:Nat) (l:List Bool) (w:World) (h:Bm w b l) (hl:l.length ≤ 1099511627776) :
  Calls Tryz.prog 58 #[.slice (some ⟨b,0,none⟩) l.length l.length,.bool false] w fun e w' => e = .returned (.int .i64 (idxI (fun b:Bool => decide (b = false)) l)) ∧ w' = w:=by
 have A1:=hide h
 have IF:=hide (idxI_found (fun b:Bool => decide (b = false)) default l)
 have IN:=hide (idxI_none (fun b:Bool => decide (b = false)) l)
 obtain ⟨I,hI⟩:∃ I,idxI (fun b:Bool => decide (b = false)) l = I:=⟨_,rfl⟩
 rw [hI] at IF IN ⊢
 clear h hI
 go_enter Tryz.func58,Tryz.ntmps58
 go_wp2_with fail
 go_loop [8] (fun iv => ∃ n:Nat,iv = .int .i64 n ∧ n ≤ l.length ∧ Hid ((l.take n).any (fun b:Bool => decide (b = false)) = false)) (fun iv => l.length - (intOf iv).toNat)
 case atStart => exact ⟨0,rfl,by omega,hide rfl⟩
 case round =>
  obtain ⟨n,rfl,hn,HN⟩:=hrel
  by_cases hlt:n < l.length
  ·have hi:(n:Int) < (l.length:Int):=by omega
   have k0:=(uh A1).at hlt
   have HT:=hide (any_take7 (fun b:Bool => decide (b = false)) default l n hlt)
   have HM:=hide (uh IF n hlt (uh HN))
   have hdef:(default:Bool) = false:=rfl
   rw [hdef] at HT HM
   clear hdef
   generalize l.getD n false = a at k0 HT HM
   cases a with
   | false =>
     have HI:Hid (I = n):=hide (uh HM rfl)
     clear HT HM HN
     go_wp2_with fail
     go_ret
     exact ⟨ret_int8 (uh HI).symm,rfl⟩
   | true =>
     have HN2:Hid ((l.take (n + 1)).any (fun b:Bool => decide (b = false)) = false):=hide (by rw [uh HT,uh HN]; rfl)
     clear HT HM HN
     go_wp2_with fail
     go_round
     case rel => exact ⟨n + 1,by go_num,by omega,HN2⟩
     case measure => simp [intOf]; omega
  ·have hi:¬ (n:Int) < (l.length:Int):=by omega
   have HE:Hid (I = -1):=hide (uh IN (by have:=uh HN; rw [List.take_of_length_le (by omega)] at this; exact this))
   clear HN
   go_wp2_with fail
   go_ret
   exact ⟨ret_int8 (uh HE).symm,rfl⟩
theorem Stay.drewN9 {b:Nat} {w w':World} (h:Stay b w w') (n:Nat):Stay b w (w'.drewN n):=⟨bl_tr7 h.1 ⟨rfl,rfl,rfl,Nat.le_refl _,fun _ _ => rfl⟩,h.2⟩
def ordV (K:List GnD × List GnD):Int × Int:=match K.2 with
 | [] => (0,0)
 | n :: _ => (12,n.src)
theorem cordered9_any (q:Option Addr) (c:Nat) (N:List GnA) (OK:Nat → Prop) (w:World) (h:Rg 40 gnCells noGnA GnIn OK w q c N) (b:Nat) (dl:List Bool) (hd:Bm w b dl) (hb:¬ OK b) (hl:dl.length ≤ 1099511627776) (hN:N.length ≤ 1024)
  (hin:∀ x ∈ N,(∀ v ∈ x.ins,v = -1 ∨ (0 ≤ v ∧ v < dl.length)) ∧ ∀ v ∈ x.outs,0 ≤ v ∧ v < dl.length) (K:List GnD × List GnD) (hK:K = kahnG N.length dl [] (N.map GnA.d)) :
  Calls Tryz.prog 26 #[.slice q N.length c,.slice (some ⟨b,0,none⟩) dl.length dl.length] w fun e w' => ∃ (p:Option Addr) (n c:Nat),e = .returned (.tuple #[.slice p n c,.int .i64 (ordV K).1,.int .i64 (ordV K).2]) ∧ ((ordV K).1 = 0 → ∃ L,RowO w' w.heap.size (.slice p n c) L ∧ L.map GnA.d = K.1 ∧ ∀ x ∈ L,x ∈ N) ∧ Stay b w w':=by
 obtain ⟨R,hR⟩:∃ R,ordV K = R:=⟨_,rfl⟩
 have HRV:=hide hR
 rw [hR]
 clear hR
 obtain ⟨i1,hi1,y1,z1,b1⟩:=info_parts Tryz.info9Gn
 obtain ⟨i2,hi2,y2,z2,b2⟩:=info_parts Tryz.info8bool
 have HRG:=hide h
 have HBM:=hide hd
 have HBO:=hide hb
 have HIN:=hide hin
 have HKK:=hide hK
 have hlen:=h.1.len
 have hbl:=hd.lt
 clear h hd hb hin hK
 go_enter Tryz.func26,Tryz.ntmps26
 go_wp2_with fail
 go_step3
 go_wp2_with (at_make; (refine wpList_make_full _ rfl _ _ 39 rfl w.heap.size 4 i2 (.bool false) 1 Tryz.underlying39 hi2 y2 z2 _ _ _ _ N.length rfl rfl (by omega) (by omega) (by rw [b2]; omega) (by unfold maxLen; omega) (by simp) ?_; intro w3 hown hgrow; have HM:Hid (Bm w3 w.heap.size (List.replicate N.length false)):=hide (by have:=Mrow.made bcWd8 false rfl hown; simpa [Bm] using this); have BB3:=hide ((Below.refl _ _).grown hgrow (Nat.le_refl _) (fun k hk => by cases hk)); clear hown hgrow))
 go_step3
 go_wp2_with fail
 obtain ⟨sb,hsb⟩:∃ sb,w.heap.size = sb:=⟨_,rfl⟩
 have HSB:=hide hsb
 have HBS:Hid (b < sb):=hide (by omega)
 rw [hsb] at HM BB3
 rw [hsb]
 have HSL:Hid (sb < w3.heap.size):=hide (uh HM).lt
 clear hsb hbl
 have HNL:=hide hlen
 clear hlen
 go_loopw [7] (fun rv wr => ∃ (LA:List GnA) (st dl':List Bool),LA.length ≤ N.length ∧ Hid (RowO wr w3.heap.size rv LA) ∧ Hid (∀ x ∈ LA,x ∈ N) ∧ Hid (Bm wr sb st) ∧ Hid (st.length = N.length) ∧ Hid (Bm wr b dl') ∧ Hid (dl'.length = dl.length) ∧ Hid (K = kahnG (N.length - LA.length) dl' (LA.map GnA.d) (remG (N.map GnA.d) st)) ∧ Hid ((remG (N.map GnA.d) st).length = N.length - LA.length) ∧ Hid (Stay b w wr) ∧ Hid (w3.heap.size ≤ wr.heap.size)) (fun rv _ => N.length - sliceLen rv)
 case atStart =>
  refine ⟨[],List.replicate N.length false,dl,by simp,hide (RowO.nil _ _),hide (fun x hx => by cases hx),HM,hide (by simp),hide ((uh HBM).below (by rw [uh HSB]; exact uh BB3)),hide rfl,hide ?_,hide ?_,hide (Stay.below (by rw [uh HSB]; exact uh BB3) (by rw [uh HSB]; exact Nat.le_of_lt (uh HBS))),hide (Nat.le_refl _)⟩
  ·have:=rem_all (N.map GnA.d)
   rw [List.length_map] at this
   rw [this]; exact uh HKK
  ·have:=rem_all (N.map GnA.d)
   rw [List.length_map] at this
   rw [this]; simp
 case round =>
  obtain ⟨LA,st,dl',hla,HRO,HLI,HST,HSTL,HDL,HDLL,HKA,HRL,HSY,HSZ⟩:=hrel
  obtain ⟨pr,cr,hrv⟩:=(uh HRO).slice
  subst hrv
  obtain ⟨u,hu⟩:∃ u,u = wr:=⟨_,rfl⟩
  subst hu
  have RGU:Hid (Rg 40 gnCells noGnA GnIn OK u q c N):=hide ((uh HRG).hold gnP (Hold.stay (uh HSY) (uh HBO)))
  have hnl:=uh HNL
  by_cases hlt:LA.length < N.length
  ·have hi:(LA.length:Int) < (N.length:Int):=by omega
   have HLT:=hide hlt
   go_wp2_with fail
   go_loopw [7,20] (fun rv iv wq => ∃ i:Nat,rv = .slice pr LA.length cr ∧ iv = .int .i64 i ∧ i ≤ N.length ∧ wq = u ∧ Hid (∀ j,j < i → st.getD j false = true ∨ readyG dl' ((N.map GnA.d).getD j noGnD).ins = false)) (fun _ iv _ => N.length - (intOf iv).toNat)
   case atStart => exact ⟨0,rfl,rfl,by omega,rfl,hide (fun j hj => absurd hj (by omega))⟩
   case round =>
    obtain ⟨i,rfl,rfl,hi2,hw,HJ⟩:=hrel
    subst hw
    by_cases hlt2:i < N.length
    ·have hi3:(i:Int) < (N.length:Int):=by omega
     obtain ⟨bg,og,hq,hbg,_⟩:=(uh HRG).1.lies (show 0 < N.length by omega)
     have A1:Hid (At8 wr bg (og + i * 40) (gnCells (N.getD i noGnA))):=hide (Rc.at9 (by have:=(uh RGU).1; rw [hq] at this; exact this) hlt2)
     have HGW:Hid (GnIn OK w (N.getD i noGnA)):=hide ((uh HRG).2.2 _ (getD_mem9 hlt2))
     have HGI:Hid (GnIn OK wr (N.getD i noGnA)):=hide ((uh RGU).2.2 _ (getD_mem9 hlt2))
     have HA8:=hide (fun v (hv:Hold OK w v) => Rc.at9 (show Rc 40 gnCells noGnA v (some ⟨bg,og,none⟩) c N by have:=((uh HRG).hold gnP hv).1; rw [hq] at this; exact this) hlt2)
     have HMEM:Hid ((N.getD i noGnA) ∈ N):=hide (getD_mem9 hlt2)
     have HDN:Hid ((N.map GnA.d).getD i noGnD = (N.getD i noGnA).d):=hide (getD_map9 GnA.d N noGnA _ hlt2)
     have HR:=hide (uh HIN _ (getD_mem9 (z:=noGnA) hlt2))
     have HI2:=hide hlt2
     have hsl:i < st.length:=by rw [uh HSTL]; exact hlt2
     have k0:=(uh HST).at hsl
     have kf:wr.frozen? ⟨sb,i,none⟩ = false:=Mrow.frozen (uh HST) i
     have kl:=(uh HST).lt
     have HPT:=hide ((uh HST).put hsl true)
     obtain ⟨bv,hbv⟩:∃ bv,st.getD i false = bv:=⟨_,rfl⟩
     have HBV:=hide hbv
     rw [hbv] at k0
     generalize N.getD i noGnA = x at A1 HGI HDN HR HGW HMEM HA8
     have c37:=(uh A1) 37 _ (gn_37 x)
     have c38:=(uh A1) 38 _ (gn_38 x)
     have HAD:=careDef9_any x.qi x.ci x.ins b dl' wr (uh HGI).2.2.1.1 (uh HDL) (by rw [uh HDLL]; omega) (by rw [uh HDLL]; exact (uh HR).1)
     rw [uh HDLL] at HAD
     have HAD2:=hide HAD
     subst hq
     clear HAD hsl hbv hbg
     cases bv with
     | true =>
       have HJ2:Hid (∀ j,j < i + 1 → st.getD j false = true ∨ readyG dl' ((N.map GnA.d).getD j noGnD).ins = false):=hide (fun j hj => by
        by_cases e:j < i
        ·exact uh HJ j e
        ·have:j = i:=by omega
         subst this; exact .inl (uh HBV))
       go_wp2_with fail
       go_roundw
       case rel => exact ⟨i + 1,rfl,by go_num,by omega,trivial,HJ2⟩
       case measure => simp [intOf]; omega
     | false =>
       obtain ⟨r,hr⟩:∃ r,readyG dl' x.ins = r:=⟨_,rfl⟩
       have HRR:=hide hr
       rw [hr] at HAD2
       clear hr
       cases r with
       | false =>
         have HJ2:Hid (∀ j,j < i + 1 → st.getD j false = true ∨ readyG dl' ((N.map GnA.d).getD j noGnD).ins = false):=hide (fun j hj => by
          by_cases e:j < i
          ·exact uh HJ j e
          ·have:j = i:=by omega
           subst this; rw [uh HDN]; exact .inr (uh HRR))
         go_wp2_with fail
         refine (uh HAD2).mono ?_
         rintro e w9 ⟨rfl,hv⟩
         replace hv:=hv.symm
         subst hv
         go_wp2_with fail
         go_roundw
         case rel => exact ⟨i + 1,rfl,by go_num,by omega,trivial,HJ2⟩
         case measure => simp [intOf]; omega
       | true =>
         go_wp2_with fail
         refine (uh HAD2).mono ?_
         rintro e w9 ⟨rfl,hv⟩
         replace hv:=hv.symm
         subst hv
         go_wp2_with fail
         obtain ⟨w4,hw4⟩:∃ w4,wr.setCell ⟨sb,i,none⟩ (.bool true) = w4:=⟨_,rfl⟩
         have S4:Hid (Stay sb wr w4):=hide (by rw [← hw4]; exact Stay.set8 _)
         have GR4:Hid (w.grownBy w4 (some b)):=hide (by rw [← hw4]; exact (gr_of_stay (uh HSY)).andThen gr_set (fun j hj => by simp only [Option.some.injEq] at hj; subst hj; exact .inl (Nat.le_of_eq (uh HSB))))
         have ST4:Hid (Bm w4 sb (st.set i true)):=hide (by rw [← hw4]; exact uh HPT)
         rw [hw4]
         clear hw4 k0 kf kl c37 c38
         have hbs:=uh HBS
         have hsl3:=uh HSL
         have D4:Hid (Bm w4 b dl'):=hide ((uh HDL).stay (uh S4) (by omega))
         have HH4:Hid (Hold OK w w4):=hide (gr_hold (uh GR4) (fun k hk e => by simp only [Option.some.injEq] at e; subst e; exact uh HBO hk))
         have RO4:=hide ((uh HRO).stay (uh S4) hsl3)
         have HDF:=cdefine9_any x.qo x.co x.outs b dl' w4 (gnP.hold (uh HGW) (uh HH4)).2.2.2.1.1 (uh D4) (fun b' o e hp hbb => by
          have:=(gnP.hold (uh HGW) (uh HH4)).2.2.2.1.2 b' o e hp
          rw [hbb] at this; exact uh HBO this) (by rw [uh HDLL]; omega) (by rw [uh HDLL]; exact (uh HR).2)
         rw [uh HDLL] at HDF
         refine HDF.mono ?_
         clear HDF
         rintro e w5 ⟨rfl,hB5,hS5⟩
         have DL5:=hide hB5
         have GR5:Hid (w.grownBy w5 (some b)):=hide ((uh GR4).trans (gr_of_stay hS5))
         have ST5:=hide ((uh ST4).stay hS5 (by omega))
         have RO5:=hide ((uh RO4).stay hS5 (by omega))
         have A5:=hide (uh HA8 w5 (gr_hold (uh GR5) (fun k hk e => by simp only [Option.some.injEq] at e; subst e; exact uh HBO hk)))
         have SZ5:Hid (w3.heap.size ≤ w5.heap.size):=hide (Nat.le_trans (uh HSZ) (Nat.le_trans (uh S4).1.size hS5.1.size))
         have HHS:Hid (w.heap.size ≤ w3.heap.size):=hide (by have:=uh HSB; omega)
         clear hB5 hS5 A1
         have hof:Hid (∀ k,k < w3.heap.size → (Value.slice pr LA.length cr).ownBlock ≠ some k):=hide (fun k hk e => absurd ((uh RO5).lt9 k e).1 (by omega))
         go_wp2_with (first
          | (refine wpList_isLoad 51 rfl ?_; (refine wpList_loadG aggGn rfl _ rfl rfl (gnWd.2.1 x) (uh A5) ?_))
          | ((refine wpList_slice1 rfl 29 51 _ rfl (gnCells x).toArray rfl i1 gnZ 40 Tryz.underlying29 hi1 y1 z1 (gnSize x) (by omega) (by omega) ?_))
          | (at_builtin; (refine wpList_append_gn rfl _ _ rfl w3.heap.size _ LA rfl ((uh RO5).below (al1p _ _)) ⟨w5.heap.size,0,none⟩ 1 x rfl (fun j u hj => by rw [Go.WideShapes.add_plain,Nat.zero_add,Box.cell (Box.new _ _ _)]; simpa using hj) (by omega) (Nat.le_trans (uh SZ5) (al1p _ _).size) ?_; intro v8 w8 r8 g8; obtain ⟨p8,c8,hv8⟩:=r8.slice; subst hv8; have RO8:=hide r8; have ST8:=hide (((uh ST5).below (al1p _ _)).gr g8 (uh hof _ hsl3)); have DL8:=hide (((uh DL5).below (al1p _ _)).gr g8 (uh hof _ (Nat.lt_trans hbs hsl3))); have SY8:Hid (Stay b w w8):=hide (Stay.grown9 (((uh GR5).trans (gr_below (al1p _ _) _)).andThen g8 (fun j hj => .inl (Nat.le_trans (uh HHS) ((uh RO5).lt9 j hj).1))) (by have:=uh HSB; omega)); have SZ8:=hide (Nat.le_trans (uh SZ5) (Nat.le_trans (al1p w5 _).size g8.size)); clear r8 g8)))
         have hlt9:=uh HLT
         have HPK:Hid (pickG dl' (remG (N.map GnA.d) st) = some (x.d,remG (N.map GnA.d) (st.set i true))):=hide (by
          have:=pick_at (N.map GnA.d) st dl' i (by rw [List.length_map]; exact uh HSTL) (by rw [List.length_map]; exact uh HI2) (uh HBV) (uh HJ) (by rw [uh HDN]; exact uh HRR)
          rw [uh HDN] at this; exact this)
         have K8:Hid (K = kahnG (N.length - (LA ++ [x]).length) (defG dl' x.outs) ((LA ++ [x]).map GnA.d) (remG (N.map GnA.d) (st.set i true))):=hide (by
          have e1:N.length - LA.length = (N.length - (LA ++ [x]).length) + 1:=by rw [List.length_append,List.length_singleton]; omega
          rw [uh HKA,e1,kahn_some (uh HPK),List.map_append]
          rfl)
         have RL8:Hid ((remG (N.map GnA.d) (st.set i true)).length = N.length - (LA ++ [x]).length):=hide (by
          have:=pick_len _ _ (uh HPK)
          rw [uh HRL] at this
          rw [List.length_append,List.length_singleton]; omega)
         have LI8:Hid (∀ y ∈ LA ++ [x],y ∈ N):=hide (fun y hy => by
          rcases List.mem_append.1 hy with g | g
          ·exact uh HLI y g
          ·simp only [List.mem_singleton] at g; rw [g]; exact uh HMEM)
         go_roundw
         case rel => exact ⟨LA ++ [x],st.set i true,defG dl' x.outs,by rw [List.length_append,List.length_singleton]; omega,(by have e:=RO8; rw [List.length_append,List.length_singleton] at e; exact e),LI8,ST8,hide (by rw [List.length_set]; exact uh HSTL),DL8,hide (by rw [defG_len]; exact uh HDLL),K8,RL8,SY8,SZ8⟩
         case measure => simp [sliceLen]; omega
    ·have hi3:¬ (i:Int) < (N.length:Int):=by omega
     have hie:i = N.length:=by omega
     subst hie
     have HPN:Hid (pickG dl' (remG (N.map GnA.d) st) = none):=hide (pick_no _ _ _ (by rw [List.length_map]; exact uh HSTL) (fun j hj => uh HJ j (by rw [List.length_map] at hj; exact hj)))
     obtain ⟨j,hj,hjl,r,hjr⟩:=rem_head (N.map GnA.d) st (by rw [List.length_map]; exact uh HSTL) (by rw [uh HRL]; omega)
     rw [List.length_map] at hjl
     rw [getD_map9 GnA.d N noGnA _ hjl] at hjr
     obtain ⟨bg,og,hq,hbg,_⟩:=(uh HRG).1.lies (show 0 < N.length by omega)
     have c39:=(Rc.at9 (show Rc 40 gnCells noGnA wr (some ⟨bg,og,none⟩) c N by have:=(uh RGU).1; rw [hq] at this; exact this) hjl) 39 _ (gn_39 (N.getD j noGnA))
     have HRE:Hid (R = (12,(N.getD j noGnA).src)):=hide (by
      have e1:N.length - LA.length = (N.length - LA.length - 1) + 1:=by omega
      rw [← uh HRV,uh HKA,e1,kahn_none (uh HPN)]
      unfold ordV
      rw [hjr]
      rfl)
     have HCI2:Hid (∀ n,Calls Tryz.prog 58 #[.slice (some ⟨sb,0,none⟩) N.length N.length,.bool false] (wr.drewN n) fun e w' => e = .returned (.int .i64 j) ∧ w' = wr.drewN n):=hide (fun n => by
      have HCI:=cidxB9_any sb st (wr.drewN n) (uh HST) (by rw [uh HSTL]; omega)
      rw [hj,uh HSTL] at HCI
      exact HCI)
     have HJL:=hide hjl
     have hjli:(j:Int) < (N.length:Int):=by omega
     clear hj hjr hbg
     generalize N.getD j noGnA = x at c39 HRE
     subst hq
     go_wp2_with fail
     go_quiet ((go_at_call 58; exact Calls.quiet_of_same (uh HCI2 _)))
     go_wp2_with fail
     rw [Exit.noGoto_ret]
     have hsy:=uh HSY
     have hre:=uh HRE
     exact bodyPost_ret (results_tmp3 rfl _ _ _) rfl ⟨_,_,_,(by rw [hre]; rfl),(fun e => absurd e (by rw [hre]; exact (by decide:¬ ((12:Int) = 0)))),hsy.drewN9 _⟩
  ·have hi:¬ (LA.length:Int) < (N.length:Int):=by omega
   have hle:N.length - LA.length = 0:=by omega
   have HRE:Hid (R = (0,0) ∧ K.1 = LA.map GnA.d):=hide (by
    have e2:remG (N.map GnA.d) st = []:=List.eq_nil_of_length_eq_zero (by rw [uh HRL]; exact hle)
    have e3:K = (LA.map GnA.d,[]):=by rw [uh HKA,hle,e2]; rfl
    exact ⟨by rw [← uh HRV,e3]; rfl,by rw [e3]⟩)
   go_wp2_with fail
   have hsy:=uh HSY
   have hro:=(uh HRO).mono (Nat.le_of_lt (by have:=uh HSB; have:=uh HSL; omega):w.heap.size ≤ w3.heap.size)
   have hli:=uh HLI
   have hre:=(uh HRE).1
   exact bodyPost_ret (results_tmp3 rfl _ _ _) rfl ⟨_,_,_,(by rw [hre]; rfl),(fun _ => ⟨LA,hro,(uh HRE).2.symm,hli⟩),hsy⟩
end Go.Proofs.YtbmmcbagdomonaaGreat
