import Derived.Test.YtaikppgoahdjbabGreatV33
set_option maxRecDepth 100000
set_option maxHeartbeats 8000000
namespace Go.Proofs.YtaikppgoahdjbabGreat
open Go.RowKit
set_option linter.unusedVariables false
theorem ccut1_any (x:Int) (w:World) (h0:0 ≤ x):Calls Tryz.prog 196 #[.int .u64 x] w fun e w' => e = .returned (.int .u32 (x % 4294967296)) ∧ w' = w:=by
 go_enter Tryz.func196,Tryz.ntmps196
 go_wp2_with fail
 go_ret
 exact ⟨by first | rfl | (rw [IntKind.wrap_u32]; rfl) | simp [IntKind.wrap_u32],rfl⟩
theorem ccut2_any (x:Int) (w:World) (h0:0 ≤ x):Calls Tryz.prog 198 #[.int .u64 x] w fun e w' => e = .returned (.int .i64 (i64w x)) ∧ w' = w:=by
 unfold i64w
 go_enter Tryz.func198,Tryz.ntmps198
 go_wp2_with fail
 go_ret
 exact ⟨by first | rfl | (rw [IntKind.wrap_i64]; rfl) | simp [wrap64,IntKind.wrap_i64],rfl⟩
theorem ccut3_any (x:Int) (w:World) (h0:0 ≤ x):Calls Tryz.prog 199 #[.int .u64 x] w fun e w' => e = .returned (.int .i64 (i64w x)) ∧ w' = w:=by
 unfold i64w
 go_enter Tryz.func199,Tryz.ntmps199
 go_wp2_with fail
 go_ret
 exact ⟨by first | rfl | (rw [IntKind.wrap_i64]; rfl) | simp [wrap64,IntKind.wrap_i64],rfl⟩
theorem Tryz.infoU32d:(Tryz.prog.info? 118).map (fun i => (i.zero,i.size,i.bytes)) = some (some (.int .u32 0),1,4):=by kernel_rfl
theorem Tryz.infoB:(Tryz.prog.info? 4).map (fun i => (i.zero,i.size,i.bytes)) = some (some (.bool false),1,1):=by kernel_rfl
theorem ls_lit (w:World) (t:TypeId) (x:Bool):Ls Value.bool (w.alloc (Obj.cells #[.bool x] t)) (some ⟨w.heap.size,0,none⟩) 1 [x] :=
 ⟨Nat.le_refl _,by simp,fun _ => ⟨w.heap.size,0,rfl,by simp,fun i hi => by
  have e:i = 0:=by simp at hi; omega
  subst e
  exact (Box.new w #[.bool x] t).cell 0⟩,fun h => by cases h⟩
def u32c (x:Int):List Value:=[.int .u32 x]
theorem u32Wd:Wd 1 u32c:=⟨by decide,fun _ => rfl,fun a u hu => by simp [u32c] at hu; subst hu; rfl⟩
theorem own_u32 {t:TypeId} {w w':World} {v:Value} {l:List Int} (h:OwnR t 1 u32c w w' v l):OwnG t (Value.int .u32) w w' v l:=by
 obtain ⟨h1,h2⟩:=h
 rw [show l.flatMap u32c = l.map (Value.int .u32) from flat_one _ l] at h1
 exact ⟨h1,h2⟩
theorem range_next {α:Type} (f:Nat → α) (n:Nat):(List.range (n + 1)).map f = (List.range n).map f ++ [f n]:=by rw [List.range_succ,List.map_append]; rfl
theorem cpartedF_any (p:Option Addr) (c:Nat) (b:List Int) (N:Nat) (w:World) (h:Ints .u8 w p c b) (hN:b.length = N * 4) (hs:N ≤ 4194304) :
  Calls Tryz.prog 195 #[.slice p b.length c,.int .i64 4,.func (.func 196) #[] #[]] w fun e w' => ∃ v,e = .returned v ∧ OwnG 118 (Value.int .u32) w w' v ((List.range N).map (fun i => (fun x => x % 4294967296) (atP 4 b i))):=by
 obtain ⟨i1,hi1,y1,z1,b1⟩:=info_parts Tryz.infoU32d
 have A1:=hide h
 have hB:=wf_isB h.2.2.1
 have HBB:=hide hB
 have HC:=hide (fun x v h0 => ccut1_any x v h0)
 clear h hB
 have hq:IntKind.i64.wrap (Int.tdiv (b.length:Int) 4) = (N:Int):=by rw [hN,Int.tdiv_eq_ediv_of_nonneg (by omega),IntKind.wrap_i64]; omega
 have hq2:((b.length:Int)).tdiv 4 = (N:Int):=by rw [hN,Int.tdiv_eq_ediv_of_nonneg (by omega)]; omega
 have HN:=hide hN
 have hbl:b.length ≤ 40000000:=by omega
 obtain ⟨m0,hm0⟩:∃ m,b.length = m:=⟨_,rfl⟩
 have HM0:=hide hm0
 rw [hm0] at hq hq2 hbl ⊢
 clear hN hm0
 go_enter Tryz.func195,Tryz.ntmps195
 go_wp2_with (at_make; (refine wpList_make_full _ rfl _ _ 82 rfl w.heap.size 118 i1 (.int .u32 0) 1 Tryz.underlying82 hi1 y1 z1 _ _ _ _ N rfl rfl (by first | exact hq | exact hq2 | omega) (by first | exact hq | exact hq2 | omega) (by rw [b1]; omega) (by unfold maxLen; omega) (Nat.le_refl _) ?_; intro w1 hown hgrow; have HM:=hide (Mrow.made u32Wd (0:Int) rfl hown); have HB:=hide ((Below.refl w.heap.size w).grown hgrow (Nat.le_refl _) (fun k hk => by cases hk)); clear hown hgrow))
 go_loopw [18] (fun iv wr => ∃ n:Nat,iv = .int .i64 n ∧ n ≤ N ∧ Hid (Mrow 118 u32c wr w.heap.size ((List.range n).map (fun i => (fun x => x % 4294967296) (atP 4 b i)) ++ List.replicate (N - n) 0)) ∧ Hid (Below w.heap.size w wr)) (fun iv _ => N - (intOf iv).toNat)
 case atStart => exact ⟨0,rfl,by omega,hide (by rw [List.range_zero,List.map_nil,List.nil_append]; exact uh HM),HB⟩
 case round =>
  obtain ⟨n,rfl,hn,M,B⟩:=hrel
  by_cases hlt:n < N
  ·have hi:(n:Int) < (N:Int):=by omega
   obtain ⟨b3,o3,e3,hb3,hc3⟩:=((uh A1).below (uh B)).lies (by have:=uh HN; omega)
   subst e3
   have HC3:=hide hc3
   clear hc3
   obtain ⟨m,hm⟩:∃ m,N - n = m + 1:=⟨N - n - 1,by omega⟩
   rw [hm] at M
   have tl:((List.range n).map (fun i => (fun x => x % 4294967296) (atP 4 b i))).length = n:=by rw [List.length_map,List.length_range]
   have hl:((List.range n).map (fun i => (fun x => x % 4294967296) (atP 4 b i)) ++ List.replicate (m + 1) (0:Int)).length = N:=by rw [List.length_append,tl,List.length_replicate]; omega
   obtain ⟨V,hV⟩:∃ V,atP 4 b n = V:=⟨_,rfl⟩
   have M2:=hide (Mrow.set u32Wd (uh M) ((fun x => x % 4294967296) V) (i:=n) (by omega))
   have e1:((List.range n).map (fun i => (fun x => x % 4294967296) (atP 4 b i)) ++ List.replicate (m + 1) (0:Int)).set n ((fun x => x % 4294967296) V) = (List.range (n + 1)).map (fun i => (fun x => x % 4294967296) (atP 4 b i)) ++ List.replicate m 0:=by
    have:=set_mid ((List.range n).map (fun i => (fun x => x % 4294967296) (atP 4 b i))) m (0:Int) ((fun x => x % 4294967296) V)
    rw [tl] at this
    rw [this,range_next,hV]
   rw [e1,Nat.mul_one] at M2
   have c1:wr.cell? ⟨w.heap.size,n,none⟩ = some (.int .u32 (((List.range n).map (fun i => (fun x => x % 4294967296) (atP 4 b i)) ++ List.replicate (m + 1) (0:Int)).getD n 0)):=by
    have:=Mrow.at u32Wd (z:=(0:Int)) (uh M) (i:=n) (j:=0) (by omega) rfl
    rw [Nat.mul_one] at this
    exact this
   have f1:=(uh M).frozen n
   have hs1:w.heap.size < wr.heap.size:=lt_of_block (uh M)
   generalize ((List.range n).map (fun i => (fun x => x % 4294967296) (atP 4 b i)) ++ List.replicate (m + 1) (0:Int)).getD n 0 = c0 at c1
   have B2:=hide (setMany_below (u32c ((fun x => x % 4294967296) V)) wr w.heap.size n (uh B) (Nat.le_refl _))
   have HR:Hid (leV ((b.drop (n * 4)).take 4) = V):=hide hV
   have hnk:n * 4 + 4 ≤ b.length:=by have:=uh HN; omega
   have hlen:((b.drop (n * 4)).take 4).length = 4:=by simp; omega
   have HLEN:=hide hlen
   have HGET:Hid (∀ j,j < 4 → ((b.drop (n * 4)).take 4).getD j 0 = b.getD (n * 4 + j) 0):=hide (fun j hj => by
    simp [List.getD_eq_getElem?_getD,List.getElem?_take_of_lt hj])
   have v0:0 ≤ V:=by rw [← hV]; exact (leV_range _ (isB_take (isB_drop (uh HBB) _) _)).1
   generalize (b.drop (n * 4)).take 4 = dd at HR HLEN HGET
   clear e1 hl M tl hlen hV
   go_wp2_with fail
   go_loop [9,10] (fun xv iv => ∃ j:Nat,∃ y:Int,iv = .int .i64 ((j:Int) - 1) ∧ xv = .int .u64 y ∧ j ≤ 4 ∧ 0 ≤ y ∧ Hid (y < 256 ^ (4 - j)) ∧ Hid (y = leV (dd.drop j))) (fun _ iv => (intOf iv + 1).toNat)
   case atStart => exact ⟨4,0,rfl,rfl,by omega,by omega,hide (by simp),hide (by rw [List.drop_of_length_le (by rw [uh HLEN]; omega)]; rfl)⟩
   case round =>
    obtain ⟨j1,y,rfl,rfl,hj1,y0,HYB,HY⟩:=hrel
    by_cases h0:j1 = 0
    ·subst h0
     have HE:y = V:=by rw [uh HY,← uh HR]; rfl
     subst HE
     clear HY HYB
     go_wp2_with fail
     refine (uh HC _ _ y0).mono ?_
     rintro e v ⟨rfl,hv⟩
     replace hv:=hv.symm
     subst hv
     go_wp2_with fail
     go_roundw
     case rel => exact ⟨n + 1,by go_num,by omega,by rw [show N - (n + 1) = m by omega]; exact M2,B2⟩
     case measure => simp [intOf]; omega
    ·obtain ⟨j,rfl⟩:∃ j,j1 = j + 1:=⟨j1 - 1,by omega⟩
     have hjb:n * 4 + j < b.length:=by omega
     have hge:(0:Int) ≤ (j:Int):=by omega
     have hki:((j + 1:Nat):Int) - 1 = (j:Int):=by omega
     have k3:wr.cell? ⟨b3,o3 + (n * 4 + j),none⟩ = some (.int .u8 (b.getD (n * 4 + j) 0)):=uh HC3 (n * 4 + j) hjb
     have hk2:((n * 4 + j:Nat):Int) < (m0:Int):=by have:=uh HM0; omega
     have hmj:(n:Int) * 4 + (j:Int) = ((n * 4 + j:Nat):Int):=by omega
     obtain ⟨c0',c1'⟩:=uh HBB _ (getD_mem6 hjb)
     have HGJ:=hide (uh HGET j (by omega))
     have hpw:y < 72057594037927936:=by
      have h1:=uh HYB
      have h2:(256:Int) ^ (4 - (j + 1)) ≤ 256 ^ 7:=by
       have:=Nat.pow_le_pow_right (show 0 < 256 by decide) (show 4 - (j + 1) ≤ 7 by omega)
       have h3:((256 ^ (4 - (j + 1)):Nat):Int) ≤ ((256 ^ 7:Nat):Int):=Int.ofNat_le.2 this
       exact_mod_cast h3
      have h4:(256:Int) ^ 7 = 72057594037927936:=by decide
      omega
     generalize b.getD (n * 4 + j) 0 = x at k3 c0' c1' HGJ
     have HY2:Hid (y * 256 + x = leV (dd.drop j)):=hide (by rw [leV_drop (by rw [uh HLEN]; omega),uh HGJ,uh HY]; omega)
     have HB2:Hid (y * 256 + x < 256 ^ (4 - j)):=hide (by
      have h1:=uh HYB
      rw [show 4 - j = (4 - (j + 1)) + 1 by omega,Int.pow_succ]
      generalize (256:Int) ^ (4 - (j + 1)) = P at h1 ⊢
      omega)
     have hor:=or256 y x y0 c0' c1' (by omega)
     obtain ⟨MM,hM⟩:∃ M,n * 4 + j = M:=⟨_,rfl⟩
     rw [hM] at k3 hk2 hmj
     clear hM
     clear HY HYB hjb HGJ
     rw [hki]
     go_wp2_with fail
     go_round
     case rel => exact ⟨j,y * 256 + x,by go_num,rfl,by omega,by omega,HB2,HY2⟩
     case measure => simp [intOf]
  ·have hi:¬ (n:Int) < (N:Int):=by omega
   have en:n = N:=by omega
   subst en
   rw [Nat.sub_self,List.replicate_zero,List.append_nil] at M
   have HO:=hide (own_u32 (Mrow.own u32Wd (uh M) (Nat.le_refl _) (by rw [List.length_map,List.length_range]; unfold maxLen; omega) (uh B)))
   rw [List.length_map,List.length_range] at HO
   clear M
   go_wp2_with fail
   go_ret
   exact ⟨_,rfl,uh HO⟩
theorem cpartedI_any (p:Option Addr) (c:Nat) (b:List Int) (N:Nat) (w:World) (h:Ints .u8 w p c b) (hN:b.length = N * 8) (hs:N ≤ 4194304) :
  Calls Tryz.prog 197 #[.slice p b.length c,.int .i64 8,.func (.func 198) #[] #[]] w fun e w' => ∃ v,e = .returned v ∧ OwnG 2 (Value.int .i64) w w' v ((List.range N).map (fun i => (i64w) (atP 8 b i))):=by
 obtain ⟨i1,hi1,y1,z1,b1⟩:=info_parts Tryz.infoI64d
 have A1:=hide h
 have hB:=wf_isB h.2.2.1
 have HBB:=hide hB
 have HC:=hide (fun x v h0 => ccut2_any x v h0)
 clear h hB
 have hq:IntKind.i64.wrap (Int.tdiv (b.length:Int) 8) = (N:Int):=by rw [hN,Int.tdiv_eq_ediv_of_nonneg (by omega),IntKind.wrap_i64]; omega
 have hq2:((b.length:Int)).tdiv 8 = (N:Int):=by rw [hN,Int.tdiv_eq_ediv_of_nonneg (by omega)]; omega
 have HN:=hide hN
 have hbl:b.length ≤ 40000000:=by omega
 obtain ⟨m0,hm0⟩:∃ m,b.length = m:=⟨_,rfl⟩
 have HM0:=hide hm0
 rw [hm0] at hq hq2 hbl ⊢
 clear hN hm0
 go_enter Tryz.func197,Tryz.ntmps197
 go_wp2_with (at_make; (refine wpList_make_full _ rfl _ _ 83 rfl w.heap.size 2 i1 (.int .i64 0) 1 Tryz.underlying83 hi1 y1 z1 _ _ _ _ N rfl rfl (by first | exact hq | exact hq2 | omega) (by first | exact hq | exact hq2 | omega) (by rw [b1]; omega) (by unfold maxLen; omega) (Nat.le_refl _) ?_; intro w1 hown hgrow; have HM:=hide (Mrow.made i64Wd (0:Int) rfl hown); have HB:=hide ((Below.refl w.heap.size w).grown hgrow (Nat.le_refl _) (fun k hk => by cases hk)); clear hown hgrow))
 go_loopw [18] (fun iv wr => ∃ n:Nat,iv = .int .i64 n ∧ n ≤ N ∧ Hid (Mrow 2 i64c wr w.heap.size ((List.range n).map (fun i => (i64w) (atP 8 b i)) ++ List.replicate (N - n) 0)) ∧ Hid (Below w.heap.size w wr)) (fun iv _ => N - (intOf iv).toNat)
 case atStart => exact ⟨0,rfl,by omega,hide (by rw [List.range_zero,List.map_nil,List.nil_append]; exact uh HM),HB⟩
 case round =>
  obtain ⟨n,rfl,hn,M,B⟩:=hrel
  by_cases hlt:n < N
  ·have hi:(n:Int) < (N:Int):=by omega
   obtain ⟨b3,o3,e3,hb3,hc3⟩:=((uh A1).below (uh B)).lies (by have:=uh HN; omega)
   subst e3
   have HC3:=hide hc3
   clear hc3
   obtain ⟨m,hm⟩:∃ m,N - n = m + 1:=⟨N - n - 1,by omega⟩
   rw [hm] at M
   have tl:((List.range n).map (fun i => (i64w) (atP 8 b i))).length = n:=by rw [List.length_map,List.length_range]
   have hl:((List.range n).map (fun i => (i64w) (atP 8 b i)) ++ List.replicate (m + 1) (0:Int)).length = N:=by rw [List.length_append,tl,List.length_replicate]; omega
   obtain ⟨V,hV⟩:∃ V,atP 8 b n = V:=⟨_,rfl⟩
   have M2:=hide (Mrow.set i64Wd (uh M) ((i64w) V) (i:=n) (by omega))
   have e1:((List.range n).map (fun i => (i64w) (atP 8 b i)) ++ List.replicate (m + 1) (0:Int)).set n ((i64w) V) = (List.range (n + 1)).map (fun i => (i64w) (atP 8 b i)) ++ List.replicate m 0:=by
    have:=set_mid ((List.range n).map (fun i => (i64w) (atP 8 b i))) m (0:Int) ((i64w) V)
    rw [tl] at this
    rw [this,range_next,hV]
   rw [e1,Nat.mul_one] at M2
   have c1:wr.cell? ⟨w.heap.size,n,none⟩ = some (.int .i64 (((List.range n).map (fun i => (i64w) (atP 8 b i)) ++ List.replicate (m + 1) (0:Int)).getD n 0)):=by
    have:=Mrow.at i64Wd (z:=(0:Int)) (uh M) (i:=n) (j:=0) (by omega) rfl
    rw [Nat.mul_one] at this
    exact this
   have f1:=(uh M).frozen n
   have hs1:w.heap.size < wr.heap.size:=lt_of_block (uh M)
   generalize ((List.range n).map (fun i => (i64w) (atP 8 b i)) ++ List.replicate (m + 1) (0:Int)).getD n 0 = c0 at c1
   have B2:=hide (setMany_below (i64c ((i64w) V)) wr w.heap.size n (uh B) (Nat.le_refl _))
   have HR:Hid (leV ((b.drop (n * 8)).take 8) = V):=hide hV
   have hnk:n * 8 + 8 ≤ b.length:=by have:=uh HN; omega
   have hlen:((b.drop (n * 8)).take 8).length = 8:=by simp; omega
   have HLEN:=hide hlen
   have HGET:Hid (∀ j,j < 8 → ((b.drop (n * 8)).take 8).getD j 0 = b.getD (n * 8 + j) 0):=hide (fun j hj => by
    simp [List.getD_eq_getElem?_getD,List.getElem?_take_of_lt hj])
   have v0:0 ≤ V:=by rw [← hV]; exact (leV_range _ (isB_take (isB_drop (uh HBB) _) _)).1
   generalize (b.drop (n * 8)).take 8 = dd at HR HLEN HGET
   clear e1 hl M tl hlen hV
   go_wp2_with fail
   go_loop [9,10] (fun xv iv => ∃ j:Nat,∃ y:Int,iv = .int .i64 ((j:Int) - 1) ∧ xv = .int .u64 y ∧ j ≤ 8 ∧ 0 ≤ y ∧ Hid (y < 256 ^ (8 - j)) ∧ Hid (y = leV (dd.drop j))) (fun _ iv => (intOf iv + 1).toNat)
   case atStart => exact ⟨8,0,rfl,rfl,by omega,by omega,hide (by simp),hide (by rw [List.drop_of_length_le (by rw [uh HLEN]; omega)]; rfl)⟩
   case round =>
    obtain ⟨j1,y,rfl,rfl,hj1,y0,HYB,HY⟩:=hrel
    by_cases h0:j1 = 0
    ·subst h0
     have HE:y = V:=by rw [uh HY,← uh HR]; rfl
     subst HE
     clear HY HYB
     go_wp2_with fail
     refine (uh HC _ _ y0).mono ?_
     rintro e v ⟨rfl,hv⟩
     replace hv:=hv.symm
     subst hv
     go_wp2_with fail
     go_roundw
     case rel => exact ⟨n + 1,by go_num,by omega,by rw [show N - (n + 1) = m by omega]; exact M2,B2⟩
     case measure => simp [intOf]; omega
    ·obtain ⟨j,rfl⟩:∃ j,j1 = j + 1:=⟨j1 - 1,by omega⟩
     have hjb:n * 8 + j < b.length:=by omega
     have hge:(0:Int) ≤ (j:Int):=by omega
     have hki:((j + 1:Nat):Int) - 1 = (j:Int):=by omega
     have k3:wr.cell? ⟨b3,o3 + (n * 8 + j),none⟩ = some (.int .u8 (b.getD (n * 8 + j) 0)):=uh HC3 (n * 8 + j) hjb
     have hk2:((n * 8 + j:Nat):Int) < (m0:Int):=by have:=uh HM0; omega
     have hmj:(n:Int) * 8 + (j:Int) = ((n * 8 + j:Nat):Int):=by omega
     obtain ⟨c0',c1'⟩:=uh HBB _ (getD_mem6 hjb)
     have HGJ:=hide (uh HGET j (by omega))
     have hpw:y < 72057594037927936:=by
      have h1:=uh HYB
      have h2:(256:Int) ^ (8 - (j + 1)) ≤ 256 ^ 7:=by
       have:=Nat.pow_le_pow_right (show 0 < 256 by decide) (show 8 - (j + 1) ≤ 7 by omega)
       have h3:((256 ^ (8 - (j + 1)):Nat):Int) ≤ ((256 ^ 7:Nat):Int):=Int.ofNat_le.2 this
       exact_mod_cast h3
      have h4:(256:Int) ^ 7 = 72057594037927936:=by decide
      omega
     generalize b.getD (n * 8 + j) 0 = x at k3 c0' c1' HGJ
     have HY2:Hid (y * 256 + x = leV (dd.drop j)):=hide (by rw [leV_drop (by rw [uh HLEN]; omega),uh HGJ,uh HY]; omega)
     have HB2:Hid (y * 256 + x < 256 ^ (8 - j)):=hide (by
      have h1:=uh HYB
      rw [show 8 - j = (8 - (j + 1)) + 1 by omega,Int.pow_succ]
      generalize (256:Int) ^ (8 - (j + 1)) = P at h1 ⊢
      omega)
     have hor:=or256 y x y0 c0' c1' (by omega)
     obtain ⟨MM,hM⟩:∃ M,n * 8 + j = M:=⟨_,rfl⟩
     rw [hM] at k3 hk2 hmj
     clear hM
     clear HY HYB hjb HGJ
     rw [hki]
     go_wp2_with fail
     go_round
     case rel => exact ⟨j,y * 256 + x,by go_num,rfl,by omega,by omega,HB2,HY2⟩
     case measure => simp [intOf]
  ·have hi:¬ (n:Int) < (N:Int):=by omega
   have en:n = N:=by omega
   subst en
   rw [Nat.sub_self,List.replicate_zero,List.append_nil] at M
   have HO:=hide (own_i64 (Mrow.own i64Wd (uh M) (Nat.le_refl _) (by rw [List.length_map,List.length_range]; unfold maxLen; omega) (uh B)))
   rw [List.length_map,List.length_range] at HO
   clear M
   go_wp2_with fail
   go_ret
   exact ⟨_,rfl,uh HO⟩
theorem cpartedB_any (p:Option Addr) (c:Nat) (b:List Int) (N:Nat) (w:World) (h:Ints .u8 w p c b) (hN:b.length = N * 1) (hs:N ≤ 4194304) :
  Calls Tryz.prog 197 #[.slice p b.length c,.int .i64 1,.func (.func 199) #[] #[]] w fun e w' => ∃ v,e = .returned v ∧ OwnG 2 (Value.int .i64) w w' v ((List.range N).map (fun i => (i64w) (atP 1 b i))):=by
 obtain ⟨i1,hi1,y1,z1,b1⟩:=info_parts Tryz.infoI64d
 have A1:=hide h
 have hB:=wf_isB h.2.2.1
 have HBB:=hide hB
 have HC:=hide (fun x v h0 => ccut3_any x v h0)
 clear h hB
 have hq:IntKind.i64.wrap (Int.tdiv (b.length:Int) 1) = (N:Int):=by rw [hN,Int.tdiv_eq_ediv_of_nonneg (by omega),IntKind.wrap_i64]; omega
 have hq2:((b.length:Int)).tdiv 1 = (N:Int):=by rw [hN,Int.tdiv_eq_ediv_of_nonneg (by omega)]; omega
 have HN:=hide hN
 have hbl:b.length ≤ 40000000:=by omega
 obtain ⟨m0,hm0⟩:∃ m,b.length = m:=⟨_,rfl⟩
 have HM0:=hide hm0
 rw [hm0] at hq hq2 hbl ⊢
 clear hN hm0
 go_enter Tryz.func197,Tryz.ntmps197
 go_wp2_with (at_make; (refine wpList_make_full _ rfl _ _ 83 rfl w.heap.size 2 i1 (.int .i64 0) 1 Tryz.underlying83 hi1 y1 z1 _ _ _ _ N rfl rfl (by first | exact hq | exact hq2 | omega) (by first | exact hq | exact hq2 | omega) (by rw [b1]; omega) (by unfold maxLen; omega) (Nat.le_refl _) ?_; intro w1 hown hgrow; have HM:=hide (Mrow.made i64Wd (0:Int) rfl hown); have HB:=hide ((Below.refl w.heap.size w).grown hgrow (Nat.le_refl _) (fun k hk => by cases hk)); clear hown hgrow))
 go_loopw [18] (fun iv wr => ∃ n:Nat,iv = .int .i64 n ∧ n ≤ N ∧ Hid (Mrow 2 i64c wr w.heap.size ((List.range n).map (fun i => (i64w) (atP 1 b i)) ++ List.replicate (N - n) 0)) ∧ Hid (Below w.heap.size w wr)) (fun iv _ => N - (intOf iv).toNat)
 case atStart => exact ⟨0,rfl,by omega,hide (by rw [List.range_zero,List.map_nil,List.nil_append]; exact uh HM),HB⟩
 case round =>
  obtain ⟨n,rfl,hn,M,B⟩:=hrel
  by_cases hlt:n < N
  ·have hi:(n:Int) < (N:Int):=by omega
   obtain ⟨b3,o3,e3,hb3,hc3⟩:=((uh A1).below (uh B)).lies (by have:=uh HN; omega)
   subst e3
   have HC3:=hide hc3
   clear hc3
   obtain ⟨m,hm⟩:∃ m,N - n = m + 1:=⟨N - n - 1,by omega⟩
   rw [hm] at M
   have tl:((List.range n).map (fun i => (i64w) (atP 1 b i))).length = n:=by rw [List.length_map,List.length_range]
   have hl:((List.range n).map (fun i => (i64w) (atP 1 b i)) ++ List.replicate (m + 1) (0:Int)).length = N:=by rw [List.length_append,tl,List.length_replicate]; omega
   obtain ⟨V,hV⟩:∃ V,atP 1 b n = V:=⟨_,rfl⟩
   have M2:=hide (Mrow.set i64Wd (uh M) ((i64w) V) (i:=n) (by omega))
   have e1:((List.range n).map (fun i => (i64w) (atP 1 b i)) ++ List.replicate (m + 1) (0:Int)).set n ((i64w) V) = (List.range (n + 1)).map (fun i => (i64w) (atP 1 b i)) ++ List.replicate m 0:=by
    have:=set_mid ((List.range n).map (fun i => (i64w) (atP 1 b i))) m (0:Int) ((i64w) V)
    rw [tl] at this
    rw [this,range_next,hV]
   rw [e1,Nat.mul_one] at M2
   have c1:wr.cell? ⟨w.heap.size,n,none⟩ = some (.int .i64 (((List.range n).map (fun i => (i64w) (atP 1 b i)) ++ List.replicate (m + 1) (0:Int)).getD n 0)):=by
    have:=Mrow.at i64Wd (z:=(0:Int)) (uh M) (i:=n) (j:=0) (by omega) rfl
    rw [Nat.mul_one] at this
    exact this
   have f1:=(uh M).frozen n
   have hs1:w.heap.size < wr.heap.size:=lt_of_block (uh M)
   generalize ((List.range n).map (fun i => (i64w) (atP 1 b i)) ++ List.replicate (m + 1) (0:Int)).getD n 0 = c0 at c1
   have B2:=hide (setMany_below (i64c ((i64w) V)) wr w.heap.size n (uh B) (Nat.le_refl _))
   have HR:Hid (leV ((b.drop (n * 1)).take 1) = V):=hide hV
   have hnk:n * 1 + 1 ≤ b.length:=by have:=uh HN; omega
   have hlen:((b.drop (n * 1)).take 1).length = 1:=by simp; omega
   have HLEN:=hide hlen
   have HGET:Hid (∀ j,j < 1 → ((b.drop (n * 1)).take 1).getD j 0 = b.getD (n * 1 + j) 0):=hide (fun j hj => by
    simp [List.getD_eq_getElem?_getD,List.getElem?_take_of_lt hj])
   have v0:0 ≤ V:=by rw [← hV]; exact (leV_range _ (isB_take (isB_drop (uh HBB) _) _)).1
   generalize (b.drop (n * 1)).take 1 = dd at HR HLEN HGET
   clear e1 hl M tl hlen hV
   go_wp2_with fail
   go_loop [9,10] (fun xv iv => ∃ j:Nat,∃ y:Int,iv = .int .i64 ((j:Int) - 1) ∧ xv = .int .u64 y ∧ j ≤ 1 ∧ 0 ≤ y ∧ Hid (y < 256 ^ (1 - j)) ∧ Hid (y = leV (dd.drop j))) (fun _ iv => (intOf iv + 1).toNat)
   case atStart => exact ⟨1,0,rfl,rfl,by omega,by omega,hide (by simp),hide (by rw [List.drop_of_length_le (by rw [uh HLEN]; omega)]; rfl)⟩
   case round =>
    obtain ⟨j1,y,rfl,rfl,hj1,y0,HYB,HY⟩:=hrel
    by_cases h0:j1 = 0
    ·subst h0
     have HE:y = V:=by rw [uh HY,← uh HR]; rfl
     subst HE
     clear HY HYB
     go_wp2_with fail
     refine (uh HC _ _ y0).mono ?_
     rintro e v ⟨rfl,hv⟩
     replace hv:=hv.symm
     subst hv
     go_wp2_with fail
     go_roundw
     case rel => exact ⟨n + 1,by go_num,by omega,by rw [show N - (n + 1) = m by omega]; exact M2,B2⟩
     case measure => simp [intOf]; omega
    ·obtain ⟨j,rfl⟩:∃ j,j1 = j + 1:=⟨j1 - 1,by omega⟩
     have hj0:j = 0:=by omega
     subst hj0
     have hjb:n * 1 + 0 < b.length:=by omega
     have hki:((0 + 1:Nat):Int) - 1 = 0:=by omega
     have k3:wr.cell? ⟨b3,o3 + n,none⟩ = some (.int .u8 (b.getD (n * 1 + 0) 0)):=by have h3:=uh HC3 (n * 1 + 0) hjb; rw [Nat.add_zero,Nat.mul_one] at h3 ⊢; exact h3
     have hk2:(n:Int) < (m0:Int):=by have:=uh HM0; omega
     have hk4:n < m0:=by omega
     obtain ⟨c0',c1'⟩:=uh HBB _ (getD_mem6 hjb)
     have HGJ:=hide (uh HGET 0 (by omega))
     have hpw:y < 72057594037927936:=by
      have h1:=uh HYB
      have h2:(256:Int) ^ (1 - (0 + 1)) ≤ 256 ^ 7:=by
       have:=Nat.pow_le_pow_right (show 0 < 256 by decide) (show 1 - (0 + 1) ≤ 7 by omega)
       have h3:((256 ^ (1 - (0 + 1)):Nat):Int) ≤ ((256 ^ 7:Nat):Int):=Int.ofNat_le.2 this
       exact_mod_cast h3
      have h4:(256:Int) ^ 7 = 72057594037927936:=by decide
      omega
     generalize b.getD (n * 1 + 0) 0 = x at k3 c0' c1' HGJ
     have HY2:Hid (y * 256 + x = leV (dd.drop 0)):=hide (by rw [leV_drop (by rw [uh HLEN]; omega),uh HGJ,uh HY]; omega)
     have HB2:Hid (y * 256 + x < 256 ^ (1 - 0)):=hide (by
      have h1:=uh HYB
      rw [show 1 - 0 = (1 - (0 + 1)) + 1 by omega,Int.pow_succ]
      generalize (256:Int) ^ (1 - (0 + 1)) = P at h1 ⊢
      omega)
     have hor:=or256 y x y0 c0' c1' (by omega)
     clear HY HYB hjb HGJ
     rw [hki]
     go_wp2_with fail
     go_round
     case rel => exact ⟨0,y * 256 + x,by go_num,rfl,by omega,by omega,HB2,HY2⟩
     case measure => simp [intOf]
  ·have hi:¬ (n:Int) < (N:Int):=by omega
   have en:n = N:=by omega
   subst en
   rw [Nat.sub_self,List.replicate_zero,List.append_nil] at M
   have HO:=hide (own_i64 (Mrow.own i64Wd (uh M) (Nat.le_refl _) (by rw [List.length_map,List.length_range]; unfold maxLen; omega) (uh B)))
   rw [List.length_map,List.length_range] at HO
   clear M
   go_wp2_with fail
   go_ret
   exact ⟨_,rfl,uh HO⟩
def truthsOK (l:List Int):Bool:=!l.any (fun x => x != 0 && x != 1)
theorem ctruths_any (p:Option Addr) (c:Nat) (l:List Int) (w:World) (h:Ls (Value.int .i64) w p c l) (hs:l.length ≤ 100000000) :
  Calls Tryz.prog 183 #[.slice p l.length c] w fun e w' => ∃ v,e = .returned (.tuple #[v,.bool (truthsOK l)]) ∧ OwnG 4 Value.bool w w' v (if truthsOK l = true then l.map (· == 1) else []):=by
 obtain ⟨i1,hi1,y1,z1,b1⟩:=info_parts Tryz.infoB
 have A1:=hide h
 obtain ⟨D,hD⟩:∃ D,truthsOK l = D:=⟨_,rfl⟩
 have HD:=hide hD
 rw [hD]
 clear h hD
 obtain ⟨RL,hRL⟩:∃ RL,(if D = true then l.map (· == 1) else []) = RL:=⟨_,rfl⟩
 have HRL:=hide hRL
 rw [hRL]
 clear hRL
 go_enter Tryz.func183,Tryz.ntmps183
 go_wp2_with fail
 go_loopw [4,9] (fun v iv wr => ∃ n:Nat,iv = .int .i64 n ∧ n ≤ l.length ∧ Hid ((l.take n).any (fun x => x != 0 && x != 1) = false) ∧ Hid (OwnG 4 Value.bool w wr v ((l.take n).map (· == 1)))) (fun _ iv _ => l.length - (intOf iv).toNat)
 case atStart => exact ⟨0,rfl,by omega,hide rfl,hide (OwnG.nil _ _ _ (Below.refl _ _))⟩
 case round =>
  obtain ⟨n,rfl,hn,HN,O⟩:=hrel
  by_cases hlt:n < l.length
  ·have hi:(n:Int) < (l.length:Int):=by omega
   obtain ⟨b,o,rfl,hb,hc⟩:=((uh A1).below (uh O).2).lies (by omega)
   have k1:wr.cell? ⟨b,o + n,none⟩ = some (.int .i64 (l.getD n 0)):=hc n hlt
   have HT:=hide (any_take7 (fun x:Int => x != 0 && x != 1) 0 l n hlt)
   have HM:=hide (any_mem7 (P:=fun x:Int => x != 0 && x != 1) (z:=0) hlt)
   have HT2:=hide (map_take7 (fun x:Int => x == 1) 0 l n hlt)
   have tl:((l.take n).map (fun x:Int => x == 1)).length = n:=by rw [List.length_map,List.length_take]; omega
   generalize l.getD n 0 = x at k1 HT HM HT2
   clear hc
   by_cases hx:x = 0 ∨ x = 1
   ·have HN2:Hid ((l.take (n + 1)).any (fun x => x != 0 && x != 1) = false):=hide (by rw [uh HT,uh HN]; rcases hx with e | e <;> subst e <;> rfl)
    obtain ⟨Q,hQ⟩:∃ Q,(l.take n).map (fun x:Int => x == 1) = Q:=⟨_,rfl⟩
    rw [hQ] at HT2 tl O
    have tl2:Q.length ≤ 100000000:=by omega
    clear HT HM HN hQ tl
    rcases hx with e | e
    ·subst e
     go_wp2_with (at_builtin; (refine wpList_append_ls rfl _ _ 84 rfl w 4 i1 (.bool false) 1 Tryz.underlying84 hi1 y1 z1 b1 rfl bool_one _ Q rfl ((uh O).below (al1p _ _)) (some ⟨_,0,none⟩) 1 [false] rfl (ls_lit _ _ _) (by unfold maxLen; simp only [List.length_singleton]; omega) (by simp only [List.length_singleton]; omega) ?_; intro v2 w2 O2; have HO2:=hide O2; clear O2))
     go_roundw
     case rel => exact ⟨n + 1,by go_num,by omega,HN2,hide (by rw [uh HT2]; exact uh HO2)⟩
     case measure => simp [intOf]; omega
    ·subst e
     go_wp2_with (at_builtin; (refine wpList_append_ls rfl _ _ 84 rfl w 4 i1 (.bool false) 1 Tryz.underlying84 hi1 y1 z1 b1 rfl bool_one _ Q rfl ((uh O).below (al1p _ _)) (some ⟨_,0,none⟩) 1 [true] rfl (ls_lit _ _ _) (by unfold maxLen; simp only [List.length_singleton]; omega) (by simp only [List.length_singleton]; omega) ?_; intro v2 w2 O2; have HO2:=hide O2; clear O2))
     go_roundw
     case rel => exact ⟨n + 1,by go_num,by omega,HN2,hide (by rw [uh HT2]; exact uh HO2)⟩
     case measure => simp [intOf]; omega
   ·have t0:(x != 0) = true:=by simp; omega
    have t1:(x != 1) = true:=by simp; omega
    have HE:D = false:=by rw [← uh HD]; unfold truthsOK; rw [uh HM (by rw [t0,t1]; rfl)]; rfl
    subst HE
    have HE2:RL = []:=by rw [← uh HRL]; rfl
    subst HE2
    clear HT HM HT2 HN hx tl
    have OB:=hide (uh O).2
    go_wp2_with fail
    go_ret2
    exact ⟨_,rfl,OwnG.nil _ _ _ (uh OB)⟩
  ·have hi:¬ (n:Int) < (l.length:Int):=by omega
   rw [List.take_of_length_le (by omega)] at HN O
   have HE:D = true:=by rw [← uh HD]; unfold truthsOK; rw [uh HN]; rfl
   subst HE
   have HE2:RL = l.map (· == 1):=by rw [← uh HRL]; rfl
   subst HE2
   go_wp2_with fail
   go_ret2
   exact ⟨_,rfl,uh O⟩
end Go.Proofs.YtaikppgoahdjbabGreat
