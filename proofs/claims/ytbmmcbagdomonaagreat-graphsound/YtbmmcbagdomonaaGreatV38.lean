import Derived.Test.YtbmmcbagdomonaaGreatV22
import Derived.Test.YtbmmcbagdomonaaGreatV36
import Derived.Test.YtbmmcbagdomonaaGreatV37
set_option maxRecDepth 100000
set_option maxHeartbeats 40000000
namespace Go.Proofs.YtbmmcbagdomonaaGreat
open Go.RowKit
set_option linter.unusedVariables false
set_option linter.unusedSimpArgs false
def Sm9 (x:MoA):Prop:=MoSm x ∧ x.nodes.length ≤ 1024 ∧ x.inits.length ≤ 1024 ∧ x.inp.length ≤ 64 ∧ x.out.length ≤ 64 ∧ ∀ n ∈ x.nodes,n.ins.length ≤ 64 ∧ n.outs.length ≤ 64
theorem sm9_of {x:MoA} (h:checkM x.d = 0):Sm9 x:=by
 have hs:=check_small h
 rw [← check_code] at h
 have h1:mayM x.d = true:=by
  cases hm:mayM x.d
  ·rw [hm] at h; cases h
  ·rfl
 rw [h1] at h
 have h2:muchM x.d = false:=by
  cases hm:muchM x.d
  ·rfl
  ·rw [hm] at h; cases h
 unfold muchM MoA.d at h2
 simp only [Bool.or_eq_false_iff,decide_eq_false_iff_not,List.length_map] at h2
 obtain ⟨_,b1,b2,b3,_,b4,_,b5,_⟩:=h2
 refine ⟨hs,by omega,by omega,by omega,by omega,fun n hn => ?_⟩
 have:=any_no b2 _ (List.mem_map.2 ⟨n,hn,rfl⟩)
 unfold muchNo NoA.d at this
 simp only [Bool.or_eq_false_iff,decide_eq_false_iff_not] at this
 exact ⟨by omega,by omega⟩
def Sm9v (x:MoA):Prop:=∀ v ∈ x.inp,v.ds.length ≤ 8
theorem count_len9 {d:List Int} (h1:(countV d).2 ≠ 1) (h8:(countV d).2 ≠ 8):d.length ≤ 8:=by
 unfold countV at h1 h8
 split at h1
 ·exact absurd rfl h1
 ·rename_i h
  rw [if_neg h] at h8
  split at h8
  ·exact absurd rfl h8
  ·omega
theorem sm9v_of {x:MoA} (h:checkM x.d = 0):Sm9v x:=by
 rw [← check_code] at h
 have h1:mayM x.d = true:=by
  cases hm:mayM x.d
  ·rw [hm] at h; cases h
  ·rfl
 rw [h1] at h
 have h2:muchM x.d = false:=by
  cases hm:muchM x.d
  ·rfl
  ·rw [hm] at h; cases h
 unfold muchM MoA.d at h2
 unfold mayM MoA.d at h1
 simp only [Bool.or_eq_false_iff,Bool.and_eq_true] at h1 h2
 intro v hv
 have a:=any_no h2.2.2.2.2.2.2.1 _ (List.mem_map.2 ⟨v,hv,rfl⟩)
 have b:=(List.all_eq_true.1 h1.2.2.2.1) _ (List.mem_map.2 ⟨v,hv,rfl⟩)
 unfold muchV muchD VaA.d at a
 unfold mayV VaA.d at b
 simp only [Bool.or_eq_false_iff,Bool.and_eq_true] at a b
 exact count_len9 (by simpa using b.2) (by simpa using a.2)
theorem aggInit:AggT 61 6:=fun w => ⟨by kernel_rfl,by kernel_rfl⟩
theorem aggValue:AggT 63 3:=fun w => ⟨by kernel_rfl,by kernel_rfl⟩
theorem aggNode:AggT 55 5:=fun w => ⟨by kernel_rfl,by kernel_rfl⟩
def initZ:Array Value:=#[.string { data:=#[] },.int .i64 0,.slice none 0 0,.slice none 0 0,.slice none 0 0,.slice none 0 0]
def valueZ:Array Value:=#[.string { data:=#[] },.int .i64 0,.slice none 0 0]
def nodeZ:Array Value:=#[.string { data:=#[] },.string { data:=#[] },.slice none 0 0,.slice none 0 0,.slice none 0 0]
theorem inSize (x:InA):(inCells x).toArray.size = 6:=by simp [inWd.2.1 x]
theorem vaSize (x:VaA):(vaCells x).toArray.size = 3:=by simp [vaWd.2.1 x]
theorem noSize (x:NoA):(noCells x).toArray.size = 5:=by simp [noWd.2.1 x]
def namedV (m:ModelD):Int × Int :=
 match headG m with
 | none => (13,-1)
 | some _ => match firstG (fun i => (outsG (headG m) (m.2.2.1.take (i + 1))).isNone) m.2.2.1.length 0 with
   | some i => (13,i)
   | none => (0,0)
theorem named_head {m:ModelD} (h:headG m = none):namedV m = (13,-1):=by unfold namedV; rw [h]
theorem outs_le {o:Option (List Str)} {l:List NodeD} {i n:Nat} (h:i ≤ n) (hs:(outsG o (l.take n)).isSome = true):(outsG o (l.take i)).isSome = true:=by
 cases e:outsG o (l.take i) with
 | some _ => rfl
 | none =>
   have:outsG o (l.take n) = none:=outs_cut o (l.take n) i (by rw [List.take_take,Nat.min_eq_left h]; exact e)
   rw [this] at hs; cases hs
theorem named_at (m:ModelD) (n:Nat) (L L':List Str) (h0:headG m = some L') (hn:n < m.2.2.1.length) (h1:outsG (headG m) (m.2.2.1.take n) = some L) (h2:outsG (headG m) (m.2.2.1.take (n + 1)) = none):namedV m = (13,(n:Int)):=by
 unfold namedV
 rw [h0]
 simp only
 rw [← h0]
 rw [firstG_some _ _ 0 n (Nat.zero_le _) (by omega) (fun j _ hj => ?_) (by simp [h2])]
 have:=outs_le (o:=headG m) (l:=m.2.2.1) (i:=j + 1) (n:=n) (by omega) (by rw [h1]; rfl)
 cases e:outsG (headG m) (m.2.2.1.take (j + 1)) with
 | none => rw [e] at this; cases this
 | some _ => rfl
theorem named_ok (m:ModelD) (L L':List Str) (h0:headG m = some L') (h1:outsG (headG m) m.2.2.1 = some L):namedV m = (0,0):=by
 unfold namedV
 rw [h0]
 simp only
 rw [← h0]
 rw [firstG_none]
 intro j _ hj
 have:=outs_le (o:=headG m) (l:=m.2.2.1) (i:=j + 1) (n:=m.2.2.1.length) (by omega) (by rw [List.take_length,h1]; rfl)
 cases e:outsG (headG m) (m.2.2.1.take (j + 1)) with
 | none => rw [e] at this; cases this
 | some _ => rfl
theorem getD_map9 {α β:Type} (f:α → β) (l:List α) (z:α) (d:β) {n:Nat} (h:n < l.length):(l.map f).getD n d = f (l.getD n z):=by
 rw [List.getD_eq_getElem?_getD,List.getElem?_map,List.getElem?_eq_getElem h,List.getD_eq_getElem?_getD,List.getElem?_eq_getElem h]
 rfl
theorem cnamed9_any (x:MoA) (B:Nat) (w:World) (h:MoIn B w x) (hs:Sm9 x) (hne:∀ n ∈ x.nodes,∀ s ∈ n.outs,s ≠ []) :
  Calls Tryz.prog 22 #[moV x] w fun e w' => ∃ mv,e = .returned (.tuple #[mv,.int .i64 (namedV x.d).1,.int .i64 (namedV x.d).2]) ∧ ((namedV x.d).1 = 0 → ∃ mb L,mv = .map (some mb) ∧ outsG (headG x.d) x.d.2.2.1 = some L ∧ w.heap.size ≤ mb ∧ NM w' mb L) ∧ Below w.heap.size w w':=by
 obtain ⟨R,hR⟩:∃ R,namedV x.d = R:=⟨_,rfl⟩
 have HR:=hide hR
 rw [hR]
 clear hR
 have HNH:=hide (named_head (m:=x.d))
 have HNA:=hide (named_at x.d)
 have HNO:=hide (named_ok x.d)
 have HSM:=hide hs
 have HNE:=hide hne
 have HM:=hide h
 clear h hs hne
 have hh:headG x.d = addsG (addsG (some []) (x.inits.map fun c => c.nm)) (x.inp.map fun v => v.nm):=by unfold headG MoA.d; simp only [List.map_map]; rfl
 have hn9:x.d.2.2.1 = x.nodes.map NoA.d:=rfl
 obtain ⟨HG,hHG⟩:∃ G,headG x.d = G:=⟨_,rfl⟩
 rw [hHG] at HNH HNA HNO hh ⊢
 rw [hn9] at HNA HNO ⊢
 clear hHG hn9
 generalize x.d = xd at HR HNH HNA HNO
 have HH:=hide hh
 clear hh
 have hmm:=@run_makeMap Tryz.prog
 have HI:=hide (uh HM).2.2.2.1
 have HP:=hide (uh HM).2.2.2.2.1
 have HN:=hide (uh HM).2.2.1
 have hs1:=(uh HI).2.1.len
 have hs2:=(uh HP).2.1.len
 have hs3:=(uh HN).2.1.len
 obtain ⟨s0,s1,s2,s3,s4,s5⟩:=uh HSM
 have HS0:=hide s0
 have HS5:=hide s5
 clear s0 s5 HSM HM s4
 obtain ⟨ops,nm,nodes,qn,cn,inits,qi,ci,inp,qp,cp,out,qo,co⟩:=x
 unfold moV moCells strV
 simp only at HI HP HN hs1 hs2 hs3 s1 s2 s3 HH HNE HS5 HNA HNO ⊢
 go_enter Tryz.func22,Tryz.ntmps22
 obtain ⟨W,hW⟩:∃ W,(w.alloc (.cells #[.int .i64 ops,.string (strOfNums nm),.slice qn nodes.length cn,.slice qi inits.length ci,.slice qp inp.length cp,.slice qo out.length co] 26)).alloc (.map #[] 0) = W:=⟨_,rfl⟩
 have X:Hid (Box W w.heap.size #[.int .i64 ops,.string (strOfNums nm),.slice qn nodes.length cn,.slice qi inits.length ci,.slice qp inp.length cp,.slice qo out.length co] 26):=hide (by rw [← hW]; exact (Box.new _ _ _).alloc _)
 have BW:Hid (Below w.heap.size w W):=hide (by rw [← hW]; exact bl_tr (al1p _ _) (al1p _ _))
 have M0:Hid (NM W (w.heap.size + 1) []):=hide (by rw [← hW]; have:=NM.made (w.alloc (.cells #[.int .i64 ops,.string (strOfNums nm),.slice qn nodes.length cn,.slice qi inits.length ci,.slice qp inp.length cp,.slice qo out.length co] 26)); rw [World.alloc_size9] at this; exact this)
 obtain ⟨mb,hmb⟩:∃ mb,w.heap.size + 1 = mb:=⟨_,rfl⟩
 have HMB:=hide hmb
 have x1:=(uh X).cell
 have xl:=(uh X).lt
 go_wp2_with (first | (rw [hW,hmb]; clear hW hmb) | fail)
 rw [hmb] at M0
 go_loopw [18] (fun iv wr => ∃ (n:Nat) (L:List Str),iv = .int .i64 n ∧ n ≤ inits.length ∧ L.length ≤ 0 + n ∧ Hid (addsG (some []) ((inits.map fun c => c.nm).take n) = some L) ∧ Hid (NM wr mb L) ∧ Hid (Stay mb W wr)) (fun iv _ => inits.length - (intOf iv).toNat)
 case atStart => exact ⟨0,[],rfl,by omega,by simp,hide rfl,M0,hide (Stay.refl _ _)⟩
 case round =>
  obtain ⟨n,L,rfl,hn,hL,HA,HMP,HS⟩:=hrel
  have BR:Hid (Below w.heap.size w wr):=hide (bl_tr7 (uh BW) (bl_mono7 (uh HS).1 (by have:=uh HMB; omega)))
  by_cases hlt:n < inits.length
  ·have hi:(n:Int) < (inits.length:Int):=by omega
   obtain ⟨bq,oq,hq,hbq,_⟩:=(uh HI).2.1.lies (show 0 < inits.length by omega)
   subst hq
   have A1:Hid (At8 wr bq (oq + n * 6) (inCells (inits.getD n noInA))):=hide (Rc.at9 ((uh HI).2.1.below (uh BR)) hlt)
   have HT:Hid (addsG (some []) ((inits.map fun c => c.nm).take (n + 1)) = addG L (inits.getD n noInA).nm):=hide (by
    rw [adds_take _ _ _ (by rw [List.length_map]; exact hlt),uh HA,getD_map9 (fun c => c.nm) inits noInA [] hlt]; rfl)
   have HC:=hide (adds_cut (some []) (inits.map fun c => c.nm) (n + 1))
   have hb:isB (inits.getD n noInA).nm:=((uh HI).1 _ (getD_mem9 (z:=noInA) hlt)).1
   have hsz:(inits.getD n noInA).nm.length ≤ 100000:=(fun y hy => ((uh HS0).2.2.1 y hy).1) _ (getD_mem9 (z:=noInA) hlt)
   have kl:=(uh HMP).lt
   have kne:mb ≠ wr.heap.size:=by omega
   generalize (inits.getD n noInA) = y at A1 HT hb hsz
   have HB:=hide hb
   have HZ:=hide hsz
   clear hb hsz
   have HEZ:Hid (addG L y.nm = none → R = (13,-1)):=hide (fun he => by rw [← uh HR]; exact uh HNH ((fun e => by rw [uh HH,e,addO_none]) (uh HC ((uh HT).trans he))))
   clear HC
   by_cases h0:y.nm = []
   ·have t0:(strOfNums y.nm).toList.isEmpty = true:=by rw [str_isE]; exact decide_eq_true h0
    have e0:R = (13,-1):=uh HEZ (by unfold addG; rw [if_pos (.inl h0)])
    subst e0
    clear h0
    go_wp2_with (first
     | (refine wpList_isLoad 61 rfl ?_; refine wpList_loadG aggInit rfl _ rfl rfl (inWd.2.1 y) (uh A1) ?_)
     | (refine wpList_isStore 61 rfl ?_; (refine wpList_storeG aggInit rfl _ _ rfl rfl rfl (Box.new wr initZ 61) (inSize y) rfl (inWd.ones y) ?_; intro w5 b5 s5 z5; have G5:=hide b5; have S5:Hid (Stay wr.heap.size wr w5):=hide ((Stay.below (al1p _ _) (Nat.le_refl _)).trans s5); have v0:w5.cell? ⟨wr.heap.size,0,none⟩ = some (.string (strOfNums y.nm)):=((uh G5).cell 0).trans rfl; have M5:=hide ((uh HMP).stay (uh S5) kne); have T5:=hide (Stay.below (uh S5).1 (Nat.le_of_lt kl)); clear b5 s5 z5)))
    refine bodyPost_ret (results_tmp3 rfl _ _ _) rfl ⟨⟨_,rfl⟩,bl_tr7 (uh BR) (bl_mono7 (uh S5).1 (uh BR).size)⟩
   ·have t0:(strOfNums y.nm).toList.isEmpty = false:=by rw [str_isE]; exact decide_eq_false h0
    by_cases hf:0 ≤ findG L y.nm
    ·have e0:R = (13,-1):=uh HEZ (by unfold addG; rw [if_pos (.inr hf)])
     subst e0
     have HF:=hide hf
     clear h0 hf
     go_wp2_with (first
      | (refine wpList_isLoad 61 rfl ?_; refine wpList_loadG aggInit rfl _ rfl rfl (inWd.2.1 y) (uh A1) ?_)
      | (refine wpList_isStore 61 rfl ?_; (refine wpList_storeG aggInit rfl _ _ rfl rfl rfl (Box.new wr initZ 61) (inSize y) rfl (inWd.ones y) ?_; intro w5 b5 s5 z5; have G5:=hide b5; have S5:Hid (Stay wr.heap.size wr w5):=hide ((Stay.below (al1p _ _) (Nat.le_refl _)).trans s5); have v0:w5.cell? ⟨wr.heap.size,0,none⟩ = some (.string (strOfNums y.nm)):=((uh G5).cell 0).trans rfl; have M5:=hide ((uh HMP).stay (uh S5) kne); have T5:=hide (Stay.below (uh S5).1 (Nat.le_of_lt kl)); clear b5 s5 z5)))
     refine (cadd9_no mb L y.nm _ (uh M5) (uh HB) (uh HZ) (uh HF)).mono ?_
     rintro e w6 ⟨rfl,rfl⟩
     go_wp2_with fail
     refine bodyPost_ret (results_tmp3 rfl _ _ _) rfl ⟨⟨_,rfl⟩,bl_tr7 (uh BR) (bl_mono7 (uh S5).1 (uh BR).size)⟩
    ·have HF:Hid (findG L y.nm < 0):=hide (by omega)
     have HA2:Hid (addsG (some []) ((inits.map fun c => c.nm).take (n + 1)) = some (L ++ [y.nm])):=hide (by rw [uh HT]; unfold addG; rw [if_neg (by rintro (e | e); exact h0 e; exact hf e)])
     clear h0 hf
     go_wp2_with (first
      | (refine wpList_isLoad 61 rfl ?_; refine wpList_loadG aggInit rfl _ rfl rfl (inWd.2.1 y) (uh A1) ?_)
      | (refine wpList_isStore 61 rfl ?_; (refine wpList_storeG aggInit rfl _ _ rfl rfl rfl (Box.new wr initZ 61) (inSize y) rfl (inWd.ones y) ?_; intro w5 b5 s5 z5; have G5:=hide b5; have S5:Hid (Stay wr.heap.size wr w5):=hide ((Stay.below (al1p _ _) (Nat.le_refl _)).trans s5); have v0:w5.cell? ⟨wr.heap.size,0,none⟩ = some (.string (strOfNums y.nm)):=((uh G5).cell 0).trans rfl; have M5:=hide ((uh HMP).stay (uh S5) kne); have T5:=hide (Stay.below (uh S5).1 (Nat.le_of_lt kl)); clear b5 s5 z5)))
     refine (cadd9_yes mb L y.nm _ (uh M5) (uh HB) (uh HZ) (by omega) (uh HF)).mono ?_
     rintro e w6 ⟨rfl,hm6,hs6⟩
     have M6:=hide hm6
     have S6:=hide hs6
     clear hm6 hs6
     go_wp2_with fail
     go_roundw
     case rel => exact ⟨n + 1,L ++ [y.nm],by go_num,by omega,by rw [List.length_append,List.length_singleton]; omega,HA2,M6,hide ((uh HS).trans ((uh T5).trans (uh S6)))⟩
     case measure => simp [intOf]; omega
  ·have hi:¬ (n:Int) < (inits.length:Int):=by omega
   have e0:n = inits.length:=by omega
   subst e0
   rw [List.take_of_length_le (by simp)] at HA
   obtain ⟨L1,hL1⟩:∃ L',L' = L:=⟨_,rfl⟩
   subst hL1
   obtain ⟨v1,hv1⟩:∃ v,v = wr:=⟨_,rfl⟩
   subst hv1
   have HH2:Hid (HG = addsG (some L1) (inp.map fun v => v.nm)):=hide (by rw [uh HH,uh HA])
   have X1:Hid (Box v1 w.heap.size _ _):=hide (((uh HS).block (by have:=uh HMB; omega) (uh X).lt).trans (uh X))
   have BR1:=hide (uh BR)
   have HL1:Hid (L1.length ≤ 1024):=hide (by omega)
   have x2:=(uh X1).cell
   have xl2:=(uh X1).lt
   have M1:=hide (uh HMP)
   clear HA HMP HS BR hL hn hi hlt
   go_wp2_with fail
   go_loopw [36] (fun iv wr => ∃ (n:Nat) (L:List Str),iv = .int .i64 n ∧ n ≤ inp.length ∧ L.length ≤ 1024 + n ∧ Hid (addsG (some L1) ((inp.map fun c => c.nm).take n) = some L) ∧ Hid (NM wr mb L) ∧ Hid (Stay mb v1 wr)) (fun iv _ => inp.length - (intOf iv).toNat)
   case atStart => exact ⟨0,L1,rfl,by omega,by have:=uh HL1; omega,hide rfl,M1,hide (Stay.refl _ _)⟩
   case round =>
    obtain ⟨n,L,rfl,hn,hL,HA,HMP,HS⟩:=hrel
    have BR:Hid (Below w.heap.size w wr):=hide (bl_tr7 (uh BR1) (bl_mono7 (uh HS).1 (by have:=uh HMB; omega)))
    by_cases hlt:n < inp.length
    ·have hi:(n:Int) < (inp.length:Int):=by omega
     obtain ⟨bq,oq,hq,hbq,_⟩:=(uh HP).2.1.lies (show 0 < inp.length by omega)
     subst hq
     have A1:Hid (At8 wr bq (oq + n * 3) (vaCells (inp.getD n noVaA))):=hide (Rc.at9 ((uh HP).2.1.below (uh BR)) hlt)
     have HT:Hid (addsG (some L1) ((inp.map fun c => c.nm).take (n + 1)) = addG L (inp.getD n noVaA).nm):=hide (by
      rw [adds_take _ _ _ (by rw [List.length_map]; exact hlt),uh HA,getD_map9 (fun c => c.nm) inp noVaA [] hlt]; rfl)
     have HC:=hide (adds_cut (some L1) (inp.map fun c => c.nm) (n + 1))
     have hb:isB (inp.getD n noVaA).nm:=((uh HP).1 _ (getD_mem9 (z:=noVaA) hlt)).1
     have hsz:(inp.getD n noVaA).nm.length ≤ 100000:=((uh HS0).2.2.2.1) _ (getD_mem9 (z:=noVaA) hlt)
     have kl:=(uh HMP).lt
     have kne:mb ≠ wr.heap.size:=by omega
     generalize (inp.getD n noVaA) = y at A1 HT hb hsz
     have HB:=hide hb
     have HZ:=hide hsz
     clear hb hsz
     have HEZ:Hid (addG L y.nm = none → R = (13,-1)):=hide (fun he => by rw [← uh HR]; exact uh HNH ((fun e => (uh HH2).trans e) (uh HC ((uh HT).trans he))))
     clear HC
     by_cases h0:y.nm = []
     ·have t0:(strOfNums y.nm).toList.isEmpty = true:=by rw [str_isE]; exact decide_eq_true h0
      have e0:R = (13,-1):=uh HEZ (by unfold addG; rw [if_pos (.inl h0)])
      subst e0
      clear h0
      go_wp2_with (first
       | (refine wpList_isLoad 63 rfl ?_; refine wpList_loadG aggValue rfl _ rfl rfl (vaWd.2.1 y) (uh A1) ?_)
       | (refine wpList_isStore 63 rfl ?_; (refine wpList_storeG aggValue rfl _ _ rfl rfl rfl (Box.new wr valueZ 63) (vaSize y) rfl (vaWd.ones y) ?_; intro w5 b5 s5 z5; have G5:=hide b5; have S5:Hid (Stay wr.heap.size wr w5):=hide ((Stay.below (al1p _ _) (Nat.le_refl _)).trans s5); have v0:w5.cell? ⟨wr.heap.size,0,none⟩ = some (.string (strOfNums y.nm)):=((uh G5).cell 0).trans rfl; have M5:=hide ((uh HMP).stay (uh S5) kne); have T5:=hide (Stay.below (uh S5).1 (Nat.le_of_lt kl)); clear b5 s5 z5)))
      refine bodyPost_ret (results_tmp3 rfl _ _ _) rfl ⟨⟨_,rfl⟩,bl_tr7 (uh BR) (bl_mono7 (uh S5).1 (uh BR).size)⟩
     ·have t0:(strOfNums y.nm).toList.isEmpty = false:=by rw [str_isE]; exact decide_eq_false h0
      by_cases hf:0 ≤ findG L y.nm
      ·have e0:R = (13,-1):=uh HEZ (by unfold addG; rw [if_pos (.inr hf)])
       subst e0
       have HF:=hide hf
       clear h0 hf
       go_wp2_with (first
        | (refine wpList_isLoad 63 rfl ?_; refine wpList_loadG aggValue rfl _ rfl rfl (vaWd.2.1 y) (uh A1) ?_)
        | (refine wpList_isStore 63 rfl ?_; (refine wpList_storeG aggValue rfl _ _ rfl rfl rfl (Box.new wr valueZ 63) (vaSize y) rfl (vaWd.ones y) ?_; intro w5 b5 s5 z5; have G5:=hide b5; have S5:Hid (Stay wr.heap.size wr w5):=hide ((Stay.below (al1p _ _) (Nat.le_refl _)).trans s5); have v0:w5.cell? ⟨wr.heap.size,0,none⟩ = some (.string (strOfNums y.nm)):=((uh G5).cell 0).trans rfl; have M5:=hide ((uh HMP).stay (uh S5) kne); have T5:=hide (Stay.below (uh S5).1 (Nat.le_of_lt kl)); clear b5 s5 z5)))
       refine (cadd9_no mb L y.nm _ (uh M5) (uh HB) (uh HZ) (uh HF)).mono ?_
       rintro e w6 ⟨rfl,rfl⟩
       go_wp2_with fail
       refine bodyPost_ret (results_tmp3 rfl _ _ _) rfl ⟨⟨_,rfl⟩,bl_tr7 (uh BR) (bl_mono7 (uh S5).1 (uh BR).size)⟩
      ·have HF:Hid (findG L y.nm < 0):=hide (by omega)
       have HA2:Hid (addsG (some L1) ((inp.map fun c => c.nm).take (n + 1)) = some (L ++ [y.nm])):=hide (by rw [uh HT]; unfold addG; rw [if_neg (by rintro (e | e); exact h0 e; exact hf e)])
       clear h0 hf
       go_wp2_with (first
        | (refine wpList_isLoad 63 rfl ?_; refine wpList_loadG aggValue rfl _ rfl rfl (vaWd.2.1 y) (uh A1) ?_)
        | (refine wpList_isStore 63 rfl ?_; (refine wpList_storeG aggValue rfl _ _ rfl rfl rfl (Box.new wr valueZ 63) (vaSize y) rfl (vaWd.ones y) ?_; intro w5 b5 s5 z5; have G5:=hide b5; have S5:Hid (Stay wr.heap.size wr w5):=hide ((Stay.below (al1p _ _) (Nat.le_refl _)).trans s5); have v0:w5.cell? ⟨wr.heap.size,0,none⟩ = some (.string (strOfNums y.nm)):=((uh G5).cell 0).trans rfl; have M5:=hide ((uh HMP).stay (uh S5) kne); have T5:=hide (Stay.below (uh S5).1 (Nat.le_of_lt kl)); clear b5 s5 z5)))
       refine (cadd9_yes mb L y.nm _ (uh M5) (uh HB) (uh HZ) (by omega) (uh HF)).mono ?_
       rintro e w6 ⟨rfl,hm6,hs6⟩
       have M6:=hide hm6
       have S6:=hide hs6
       clear hm6 hs6
       go_wp2_with fail
       go_roundw
       case rel => exact ⟨n + 1,L ++ [y.nm],by go_num,by omega,by rw [List.length_append,List.length_singleton]; omega,HA2,M6,hide ((uh HS).trans ((uh T5).trans (uh S6)))⟩
       case measure => simp [intOf]; omega
    ·have hi:¬ (n:Int) < (inp.length:Int):=by omega
     have e0:n = inp.length:=by omega
     subst e0
     rw [List.take_of_length_le (by simp)] at HA
     obtain ⟨L2,hL2⟩:∃ L',L' = L:=⟨_,rfl⟩
     subst hL2
     obtain ⟨v2,hv2⟩:∃ v,v = wr:=⟨_,rfl⟩
     subst hv2
     have HH3:Hid (HG = some L2):=hide (by rw [uh HH2]; exact uh HA)
     have X2:Hid (Box v2 w.heap.size _ _):=hide (((uh HS).block (by have:=uh HMB; omega) (uh X1).lt).trans (uh X1))
     have BR2:=hide (uh BR)
     have HL2:Hid (L2.length ≤ 1088):=hide (by omega)
     have x3:=(uh X2).cell
     have xl3:=(uh X2).lt
     have M2:=hide (uh HMP)
     have LN:=hide hs3
     clear HA HMP HS HH BR HL1 hL hn hi hlt
     rw [uh HH3] at HNA HNO
     go_wp2_with fail
     go_loopw [54] (fun iv wr => ∃ (n:Nat) (L:List Str),iv = .int .i64 n ∧ n ≤ nodes.length ∧ L.length ≤ 1088 + 64 * n ∧ Hid (outsG (some L2) ((nodes.map NoA.d).take n) = some L) ∧ Hid (NM wr mb L) ∧ Hid (Stay mb v2 wr)) (fun iv _ => nodes.length - (intOf iv).toNat)
     case atStart => exact ⟨0,L2,rfl,by omega,by have:=uh HL2; omega,hide rfl,M2,hide (Stay.refl _ _)⟩
     case round =>
      obtain ⟨n,L,rfl,hn,hL,HA,HMP,HS⟩:=hrel
      have BR:Hid (Below w.heap.size w wr):=hide (bl_tr7 (uh BR2) (bl_mono7 (uh HS).1 (by have:=uh HMB; omega)))
      have hs9:=uh LN
      by_cases hlt:n < nodes.length
      ·have hi:(n:Int) < (nodes.length:Int):=by omega
       obtain ⟨bq,oq,hq,hbq,_⟩:=(uh HN).2.1.lies (show 0 < nodes.length by omega)
       subst hq
       have A1:Hid (At8 wr bq (oq + n * 5) (noCells (nodes.getD n noNoA))):=hide (Rc.at9 ((uh HN).2.1.below (uh BR)) hlt)
       have HT:Hid (outsG (some L2) ((nodes.map NoA.d).take (n + 1)) = addsG (some L) (nodes.getD n noNoA).outs):=hide (by
        rw [outs_take _ _ _ (by rw [List.length_map]; exact hlt),uh HA,getD_map9 NoA.d nodes noNoA _ hlt]; rfl)
       have HNI:Hid (NoIn B w (nodes.getD n noNoA)):=hide ((uh HN).1 _ (getD_mem9 (z:=noNoA) hlt))
       have HE1:=hide (uh HNE _ (getD_mem9 (z:=noNoA) hlt))
       have ho64:=(uh HS5 _ (getD_mem9 (z:=noNoA) hlt)).2
       have HZ:=hide (((uh HS0).2.1 _ (getD_mem9 (z:=noNoA) hlt)).2.2.2.2.1)
       have HERR:Hid (addsG (some L) (nodes.getD n noNoA).outs = none → R = (13,(n:Int))):=hide (fun he => by rw [← uh HR]; exact uh HNA n L L2 rfl (by rw [List.length_map]; exact hlt) (uh HA) ((uh HT).trans he))
       have kl:=(uh HMP).lt
       have kne:mb ≠ wr.heap.size:=by omega
       generalize (nodes.getD n noNoA) = y at A1 HT HNI HE1 ho64 HZ HERR
       have HY:=hide ho64
       have HLN:=hide hL
       go_wp2_with (first
        | (refine wpList_isLoad 55 rfl ?_; refine wpList_loadG aggNode rfl _ rfl rfl (noWd.2.1 y) (uh A1) ?_)
        | (refine wpList_isStore 55 rfl ?_; (refine wpList_storeG aggNode rfl _ _ rfl rfl rfl (Box.new wr nodeZ 55) (noSize y) rfl (noWd.ones y) ?_; intro w5 b5 s5 z5; have G5:=hide b5; have S5:Hid (Stay wr.heap.size wr w5):=hide ((Stay.below (al1p _ _) (Nat.le_refl _)).trans s5); have v3:w5.cell? ⟨wr.heap.size,3,none⟩ = some (.slice y.qo y.outs.length y.co):=((uh G5).cell 3).trans rfl; have M5:=hide ((uh HMP).stay (uh S5) kne); have T5:=hide (Stay.below (uh S5).1 (Nat.le_of_lt kl)); clear b5 s5 z5)))
       have BR5:Hid (Below w.heap.size w w5):=hide (bl_tr7 (uh BR) (bl_mono7 (uh S5).1 (uh BR).size))
       have HO:Hid (Ls strV w y.qo y.co y.outs):=hide (uh HNI).2.2.2.1.2.1
       have HOB:Hid (∀ s ∈ y.outs,isB s):=hide (uh HNI).2.2.2.1.1
       clear HNI A1 hL
       go_loopw [62] (fun iv wq => ∃ (k:Nat) (L':List Str),iv = .int .i64 k ∧ k ≤ y.outs.length ∧ L'.length ≤ L.length + k ∧ Hid (addsG (some L) (y.outs.take k) = some L') ∧ Hid (NM wq mb L') ∧ Hid (Stay mb w5 wq)) (fun iv _ => y.outs.length - (intOf iv).toNat)
       case atStart => exact ⟨0,L,rfl,by omega,by omega,hide rfl,M5,hide (Stay.refl _ _)⟩
       case round =>
        obtain ⟨k,L',rfl,hk,hL',HA',HM',HS'⟩:=hrel
        have BQ:Hid (Below w.heap.size w wr):=hide (bl_tr7 (uh BR5) (bl_mono7 (uh HS').1 (by have:=uh HMB; omega)))
        have ho:=uh HY
        have hl9:=uh HLN
        by_cases hlt2:k < y.outs.length
        ·have hi2:(k:Int) < (y.outs.length:Int):=by omega
         obtain ⟨bo,oo,hq2,hbo,hco⟩:=(((uh HO).below (uh BQ))).lies (show 0 < y.outs.length by omega)
         have k1:wr.cell? ⟨bo,oo + k,none⟩ = some (.string (strOfNums (y.outs.getD k []))):=hco k hlt2
         have HT2:Hid (addsG (some L) (y.outs.take (k + 1)) = addG L' (y.outs.getD k [])):=hide (by rw [adds_take _ _ _ hlt2,uh HA']; rfl)
         have HC2:=hide (adds_cut (some L) y.outs (k + 1))
         have HB:=hide (uh HOB _ (getD_mem9 (z:=[]) hlt2))
         have HZ2:=hide (uh HZ _ (getD_mem9 (z:=[]) hlt2))
         have h0:=uh HE1 _ (getD_mem9 (z:=[]) hlt2)
         clear hco
         generalize y.outs.getD k [] = s at k1 HT2 HB HZ2 h0
         by_cases hf:0 ≤ findG L' s
         ·have e0:R = (13,(n:Int)):=uh HERR (uh HC2 ((uh HT2).trans (by unfold addG; rw [if_pos (.inr hf)])))
          subst e0
          have HF:=hide hf
          clear h0 hf
          rw [hq2]
          go_wp2_with fail
          refine (cadd9_no mb L' s _ (uh HM') (uh HB) (uh HZ2) (uh HF)).mono ?_
          rintro e w6 ⟨rfl,rfl⟩
          go_wp2_with fail
          refine bodyPost_ret (results_tmp3 rfl _ _ _) rfl ⟨⟨_,rfl⟩,uh BQ⟩
         ·have HF:Hid (findG L' s < 0):=hide (by omega)
          have HA2:Hid (addsG (some L) (y.outs.take (k + 1)) = some (L' ++ [s])):=hide (by rw [uh HT2]; unfold addG; rw [if_neg (by rintro (e | e); exact h0 e; exact hf e)])
          clear h0 hf
          rw [hq2]
          go_wp2_with fail
          refine (cadd9_yes mb L' s _ (uh HM') (uh HB) (uh HZ2) (by omega) (uh HF)).mono ?_
          rintro e w6 ⟨rfl,hm6,hs6⟩
          have M6:=hide hm6
          have S6:=hide hs6
          clear hm6 hs6
          go_wp2_with fail
          go_roundw
          case rel => exact ⟨k + 1,L' ++ [s],by go_num,by omega,by rw [List.length_append,List.length_singleton]; omega,HA2,M6,hide ((uh HS').trans (uh S6))⟩
          case measure => simp [intOf]; omega
        ·have hi2:¬ (k:Int) < (y.outs.length:Int):=by omega
         have e0:k = y.outs.length:=by omega
         subst e0
         rw [List.take_length] at HA'
         go_wp2_with fail
         go_roundw
         case rel => exact ⟨n + 1,L',by go_num,by omega,by omega,hide ((uh HT).trans (uh HA')),HM',hide ((uh HS).trans ((uh T5).trans (uh HS')))⟩
         case measure => simp [intOf]; omega
      ·have hi:¬ (n:Int) < (nodes.length:Int):=by omega
       have e0:n = nodes.length:=by omega
       subst e0
       rw [List.take_of_length_le (by simp)] at HA
       have e1:R = (0,0):=by rw [← uh HR]; exact uh HNO L L2 rfl (uh HA)
       subst e1
       go_wp2_with fail
       exact bodyPost_ret (results_tmp3 rfl _ _ _) rfl ⟨_,rfl,⟨mb,rfl,L,by rw [uh HH3]; exact uh HA,by have:=uh HMB; omega,uh HMP⟩,uh BR⟩
end Go.Proofs.YtbmmcbagdomonaaGreat
