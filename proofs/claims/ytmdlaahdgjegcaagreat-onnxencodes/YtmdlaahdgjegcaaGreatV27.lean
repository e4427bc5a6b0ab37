import Derived.Test.YtmdlaahdgjegcaaGreatV05
import Derived.Test.YtmdlaahdgjegcaaGreatV25
import Derived.Test.YtmdlaahdgjegcaaGreatV26
set_option maxRecDepth 100000
set_option maxHeartbeats 8000000
namespace Go.Proofs.YtmdlaahdgjegcaaGreat
open Go.RowKit
set_option linter.unusedVariables false
theorem ccut1_any (x:Int) (w:World) (h0:0 ≤ x):Calls Tryz.prog 254 #[.int .u64 x] w fun e w' => e = .returned (.int .u32 (x % 4294967296)) ∧ w' = w:=by
 go_enter Tryz.func254,Tryz.ntmps254
 go_wp2_with fail
 go_ret
 exact ⟨by first | rfl | (rw [IntKind.wrap_u32]; rfl) | simp [IntKind.wrap_u32],rfl⟩
theorem ccut2_any (x:Int) (w:World) (h0:0 ≤ x):Calls Tryz.prog 256 #[.int .u64 x] w fun e w' => e = .returned (.int .i64 (i64w x)) ∧ w' = w:=by
 unfold i64w
 go_enter Tryz.func256,Tryz.ntmps256
 go_wp2_with fail
 go_ret
 exact ⟨by first | rfl | (rw [IntKind.wrap_i64]; rfl) | simp [wrap64,IntKind.wrap_i64],rfl⟩
theorem ccut3_any (x:Int) (w:World) (h0:0 ≤ x):Calls Tryz.prog 257 #[.int .u64 x] w fun e w' => e = .returned (.int .i64 (i64w x)) ∧ w' = w:=by
 unfold i64w
 go_enter Tryz.func257,Tryz.ntmps257
 go_wp2_with fail
 go_ret
 exact ⟨by first | rfl | (rw [IntKind.wrap_i64]; rfl) | simp [wrap64,IntKind.wrap_i64],rfl⟩
theorem Tryz.infoU32d:(Tryz.prog.info? 84).map (fun i => (i.zero,i.size,i.bytes)) = some (some (.int .u32 0),1,4):=by kernel_rfl
theorem Tryz.infoB:(Tryz.prog.info? 4).map (fun i => (i.zero,i.size,i.bytes)) = some (some (.bool false),1,1):=by kernel_rfl
theorem ls_lit (w:World) (t:TypeId) (x:Bool):Ls Value.bool (w.alloc (Obj.cells #[.bool x] t)) (some ⟨w.heap.size,0,none⟩) 1 [x] :=
 ⟨Nat.le_refl _,by simp,fun _ => ⟨w.heap.size,0,rfl,by simp,fun i hi => by
  have e:i = 0:=by simp at hi; omega
  subst e
  exact (Box.new w #[.bool x] t).cell 0⟩,fun h => by cases h⟩
def u32c (x:Int):List Value:=[.int .u32 x]
theorem u32Wd:Wd 1 u32c:=⟨by decide,fun _ => rfl,fun a u hu => by simp [u32c] at hu; subst hu; rfl⟩
theorem own_u32 {t:TypeId} {w w':World} {v:Value} {l:List Int} (h:OwnR t 1 u32c w w' v l):OwnG t (Value.int .u32) w w' v l:=by
 obtain ⟨h1,h2⟩:=h
 rw [show l.flatMap u32c = l.map (Value.int .u32) from flat_one _ l] at h1
 exact ⟨h1,h2⟩
theorem range_next {α:Type} (f:Nat → α) (n:Nat):(List.range (n + 1)).map f = (List.range n).map f ++ [f n]:=by rw [List.range_succ,List.map_append]; rfl
theorem cpartedF_any (p:Option Addr) (c:Nat) (b:List Int) (N:Nat) (w:World) (h:Ints .u8 w p c b) (hN:b.length = N * 4) (hs:N ≤ 4194304) :
  Calls Tryz.prog 253 #[.slice p b.length c,.int .i64 4,.func (.func 254) #[] #[]] w fun e w' => ∃ v,e = .returned v ∧ OwnG 84 (Value.int .u32) w w' v ((List.range N).map (fun i => (fun x => x % 4294967296) (atP 4 b i))):=by
 obtain ⟨i1,hi1,y1,z1,b1⟩:=info_parts Tryz.infoU32d
 have A1:=hide h
 have hB:=wf_isB h.2.2.1
 have HBB:=hide hB
 have HC:=hide (fun x v h0 => ccut1_any x v h0)
 clear h hB
 have hq:IntKind.i64.wrap (Int.tdiv (b.length:Int) 4) = (N:Int):=by rw [hN,Int.tdiv_eq_ediv_of_nonneg (by omega),IntKind.wrap_i64]; omega
 have hq2:((b.length:Int)).tdiv 4 = (N:Int):=by rw [hN,Int.tdiv_eq_ediv_of_nonneg (by omega)]; omega
 have HN:=hide hN
 have hbl:b.length ≤ 40000000:=by omega
 obtain ⟨m0,hm0⟩:∃ m,b.length = m:=⟨_,rfl⟩
 have HM0:=hide hm0
 rw [hm0] at hq hq2 hbl ⊢
 clear hN hm0
 go_enter Tryz.func253,Tryz.ntmps253
 go_wp2_with (at_make; (refine wpList_make_full _ rfl _ _ 76 rfl w.heap.size 84 i1 (.int .u32 0) 1 Tryz.underlying76 hi1 y1 z1 _ _ _ _ N rfl rfl (by first | exact hq | exact hq2 | omega) (by first | exact hq | exact hq2 | omega) (by rw [b1]; omega) (by unfold maxLen; omega) (Nat.le_refl _) ?_; intro w1 hown hgrow; have HM:=hide (Mrow.made u32Wd (0:Int) rfl hown); have HB:=hide ((Below.refl w.heap.size w).grown hgrow (Nat.le_refl _) (fun k hk => by cases hk)); clear hown hgrow))
 go_loopw [18] (fun iv wr => ∃ n:Nat,iv = .int .i64 n ∧ n ≤ N ∧ Hid (Mrow 84 u32c wr w.heap.size ((List.range n).map (fun i => (fun x => x % 4294967296) (atP 4 b i)) ++ List.replicate (N - n) 0)) ∧ Hid (Below w.heap.size w wr)) (fun iv _ => N - (intOf iv).toNat)
 case atStart => exact ⟨0,rfl,by omega,hide (by rw [List.range_zero,List.map_nil,List.nil_append]; exact uh HM),HB⟩
 case round =>
  obtain ⟨n,rfl,hn,M,B⟩:=hrel
  by_cases hlt:n < N
  ·have hi:(n:Int) < (N:Int):=by omega
   obtain ⟨b3,o3,e3,hb3,hc3⟩:=((uh A1).below (uh B)).lies (by have:=uh HN; omega)
   subst e3
   have HC3:=hide hc3
   clear hc3
   obtain ⟨m,hm⟩:∃ m,N - n = m + 1:=⟨N - n - 1,by omega⟩
   rw [hm] at M
   have tl:((List.range n).map (fun i => (fun x => x % 4294967296) (atP 4 b i))).length = n:=by rw [List.length_map,List.length_range]
   have hl:((List.range n).map (fun i => (fun x => x % 4294967296) (atP 4 b i)) ++ List.replicate (m + 1) (0:Int)).length = N:=by rw [List.length_append,tl,List.length_replicate]; omega
   obtain ⟨V,hV⟩:∃ V,atP 4 b n = V:=⟨_,rfl⟩
   have M2:=hide (Mrow.set u32Wd (uh M) ((fun x => x % 4294967296) V) (i:=n) (by omega))
   have e1:((List.range n).map (fun i => (fun x => x % 4294967296) (atP 4 b i)) ++ List.replicate (m + 1) (0:Int)).set n ((fun x => x % 4294967296) V) = (List.range (n + 1)).map (fun i => (fun x => x % 4294967296) (atP 4 b i)) ++ List.replicate m 0:=by
    have:=set_mid ((List.range n).map (fun i => (fun x => x % 4294967296) (atP 4 b i))) m (0:Int) ((fun x => x % 4294967296) V)
    rw [tl] at this
    rw [this,range_next,hV]
   rw [e1,Nat.mul_one] at M2
   have c1:wr.cell? ⟨w.heap.size,n,none⟩ = some (.int .u32 (((List.range n).map (fun i => (fun x => x % 4294967296) (atP 4 b i)) ++ List.replicate (m + 1) (0:Int)).getD n 0)):=by
    have:=Mrow.at u32Wd (z:=(0:Int)) (uh M) (i:=n) (j:=0) (by omega) rfl
    rw [Nat.mul_one] at this
    exact this
   have f1:=(uh M).frozen n
   have hs1:w.heap.size < wr.heap.size:=lt_of_block (uh M)
   generalize ((List.range n).map (fun i => (fun x => x % 4294967296) (atP 4 b i)) ++ List.replicate (m + 1) (0:Int)).getD n 0 = c0 at c1
   have B2:=hide (setMany_below (u32c ((fun x => x % 4294967296) V)) wr w.heap.size n (uh B) (Nat.le_refl _))
   have HR:Hid (leV ((b.drop (n * 4)).take 4) = V):=hide hV
   have hnk:n * 4 + 4 ≤ b.length:=by have:=uh HN; omega
   have hlen:((b.drop (n * 4)).take 4).length = 4:=by simp; omega
   have HLEN:=hide hlen
   have HGET:Hid (∀ j,j < 4 → ((b.drop (n * 4)).take 4).getD j 0 = b.getD (n * 4 + j) 0):=hide (fun j hj => by
    simp [List.getD_eq_getElem?_getD,List.getElem?_take_of_lt hj])
   have v0:0 ≤ V:=by rw [← hV]; exact (leV_range _ (isB_take (isB_drop (uh HBB) _) _)).1
   generalize (b.drop (n * 4)).take 4 = dd at HR HLEN HGET
   clear e1 hl M tl hlen hV
   go_wp2_with fail
   go_loop [9,10] (fun xv iv => ∃ j:Nat,∃ y:Int,iv = .int .i64 ((j:Int) - 1) ∧ xv = .int .u64 y ∧ j ≤ 4 ∧ 0 ≤ y ∧ Hid (y < 256 ^ (4 - j)) ∧ Hid (y = leV (dd.drop j))) (fun _ iv => (intOf iv + 1).toNat)
   case atStart => exact ⟨4,0,rfl,rfl,by omega,by omega,hide (by simp),hide (by rw [List.drop_of_length_le (by rw [uh HLEN]; omega)]; rfl)⟩
   case round =>
    obtain ⟨j1,y,rfl,rfl,hj1,y0,HYB,HY⟩:=hrel
    by_cases h0:j1 = 0
    ·subst h0
     have HE:y = V:=by rw [uh HY,← uh HR]; rfl
     subst HE
     clear HY HYB
     go_wp2_with fail
     refine (uh HC _ _ y0).mono ?_
     rintro e v ⟨rfl,hv⟩
     replace hv:=hv.symm
     subst hv
     go_wp2_with fail
     go_roundw
     case rel => exact ⟨n + 1,by go_num,by omega,by rw [show N - (n + 1) = m by omega]; exact M2,B2⟩
     case measure => simp [intOf]; omega
    ·obtain ⟨j,rfl⟩:∃ j,j1 = j + 1:=⟨j1 - 1,by omega⟩
     have hjb:n * 4 + j < b.length:=by omega
     have hge:(0:Int) ≤ (j:Int):=by omega
     have hki:((j + 1:Nat):Int) - 1 = (j:Int):=by omega
     have k3:wr.cell? ⟨b3,o3 + (n * 4 + j),none⟩ = some (.int .u8 (b.getD (n * 4 + j) 0)):=uh HC3 (n * 4 + j) hjb
     have hk2:((n * 4 + j:Nat):Int) < (m0:Int):=by have:=uh HM0; omega
     have hmj:(n:Int) * 4 + (j:Int) = ((n * 4 + j:Nat):Int):=by omega
     obtain ⟨c0',c1'⟩:=uh HBB _ (getD_mem6 hjb)
     have HGJ:=hide (uh HGET j (by omega))
     have hpw:y < 72057594037927936:=by
      have h1:=uh HYB
      have h2:(256:Int) ^ (4 - (j + 1)) ≤ 256 ^ 7:=by
       have:=Nat.pow_le_pow_right (show 0 < 256 by decide) (show 4 - (j + 1) ≤ 7 by omega)
       have h3:((256 ^ (4 - (j + 1)):Nat):Int) ≤ ((256 ^ 7:Nat):Int):=Int.ofNat_le.2 this
       exact_mod_cast h3
      have h4:(256:Int) ^ 7 = 72057594037927936:=by decide
      omega
     generalize b.getD (n * 4 + j) 0 = x at k3 c0' c1' HGJ
     have HY2:Hid (y * 256 + x = leV (dd.drop j)):=hide (by rw [leV_drop (by rw [uh HLEN]; omega),uh HGJ,uh HY]; omega)
     have HB2:Hid (y * 256 + x < 256 ^ (4 - j)):=hide (by
      have h1:=uh HYB
      rw [show 4 - j = (4 - (j + 1)) + 1 by omega,Int.pow_succ]
      generalize (256:Int) ^ (4 - (j + 1)) = P at h1 ⊢
      omega)
     have hor:=or256 y x y0 c0' c1' (by omega)
     obtain ⟨MM,hM⟩:∃ M,n * 4 + j = M:=⟨_,rfl⟩
     rw [hM] at k3 hk2 hmj
     clear hM
     clear HY HYB hjb HGJ
     rw [hki]
     go_wp2_with fail
     go_round
     case rel => exact ⟨j,y * 256 + x,by go_num,rfl,by omega,by omega,HB2,HY2⟩
     case measure => simp [intOf]
  ·have hi:¬ (n:Int) < (N:Int):=by omega
   have en:n = N:=by omega
   subst en
   rw [Nat.sub_self,List.replicate_zero,List.append_nil] at M
   have HO:=hide (own_u32 (Mrow.own u32Wd (uh M) (Nat.le_refl _) (by rw [List.length_map,List.length_range]; unfold maxLen; omega) (uh B)))
   rw [List.length_map,List.length_range] at HO
   clear M
   go_wp2_with fail
   go_ret
   exact ⟨_,rfl,uh HO⟩
theorem cpartedI_any (p:Option Addr) (c:Nat) (b:List Int) (N:Nat) (w:World) (h:Ints .u8 w p c b) (hN:b.length = N * 8) (hs:N ≤ 4194304) :
  Calls Tryz.prog 255 #[.slice p b.length c,.int .i64 8,.func (.func 256) #[] #[]] w fun e w' => ∃ v,e = .returned v ∧ OwnG 2 (Value.int .i64) w w' v ((List.range N).map (fun i => (i64w) (atP 8 b i))):=by
 obtain ⟨i1,hi1,y1,z1,b1⟩:=info_parts Tryz.infoI64d
 have A1:=hide h
 have hB:=wf_isB h.2.2.1
 have HBB:=hide hB
 have HC:=hide (fun x v h0 => ccut2_any x v h0)
 clear h hB
 have hq:IntKind.i64.wrap (Int.tdiv (b.length:Int) 8) = (N:Int):=by rw [hN,Int.tdiv_eq_ediv_of_nonneg (by omega),IntKind.wrap_i64]; omega
 have hq2:((b.length:Int)).tdiv 8 = (N:Int):=by rw [hN,Int.tdiv_eq_ediv_of_nonneg (by omega)]; omega
 have HN:=hide hN
 have hbl:b.length ≤ 40000000:=by omega
 obtain ⟨m0,hm0⟩:∃ m,b.length = m:=⟨_,rfl⟩
 have HM0:=hide hm0
 rw [hm0] at hq hq2 hbl ⊢
 clear hN hm0
 go_enter Tryz.func255,Tryz.ntmps255
 go_wp2_with (at_make; (refine wpList_make_full _ rfl _ _ 77 rfl w.heap.size 2 i1 (.int .i64 0) 1 Tryz.underlying77 hi1 y1 z1 _ _ _ _ N rfl rfl (by first | exact hq | exact hq2 | omega) (by first | exact hq | exact hq2 | omega) (by rw [b1]; omega) (by unfold maxLen; omega) (Nat.le_refl _) ?_; intro w1 hown hgrow; have HM:=hide (Mrow.made i64Wd (0:Int) rfl hown); have HB:=hide ((Below.refl w.heap.size w).grown hgrow (Nat.le_refl _) (fun k hk => by cases hk)); clear hown hgrow))
 go_loopw [18] (fun iv wr => ∃ n:Nat,iv = .int .i64 n ∧ n ≤ N ∧ Hid (Mrow 2 i64c wr w.heap.size ((List.range n).map (fun i => (i64w) (atP 8 b i)) ++ List.replicate (N - n) 0)) ∧ Hid (Below w.heap.size w wr)) (fun iv _ => N - (intOf iv).toNat)
 case atStart => exact ⟨0,rfl,by omega,hide (by rw [List.range_zero,List.map_nil,List.nil_append]; exact uh HM),HB⟩
 case round =>
  obtain ⟨n,rfl,hn,M,B⟩:=hrel
  by_cases hlt:n < N
  ·have hi:(n:Int) < (N:Int):=by omega
   obtain ⟨b3,o3,e3,hb3,hc3⟩:=((uh A1).below (uh B)).lies (by have:=uh HN; omega)
   subst e3
   have HC3:=hide hc3
   clear hc3
   obtain ⟨m,hm⟩:∃ m,N - n = m + 1:=⟨N - n - 1,by omega⟩
   rw [hm] at M
   have tl:((List.range n).map (fun i => (i64w) (atP 8 b i))).length = n:=by rw [List.length_map,List.length_range]
   have hl:((List.range n).map (fun i => (i64w) (atP 8 b i)) ++ List.replicate (m + 1) (0:Int)).length = N:=by rw [List.length_append,tl,List.length_replicate]; omega
   obtain ⟨V,hV⟩:∃ V,atP 8 b n = V:=⟨_,rfl⟩
   have M2:=hide (Mrow.set i64Wd (uh M) ((i64w) V) (i:=n) (by omega))
   have e1:((List.range n).map (fun i => (i64w) (atP 8 b i)) ++ List.replicate (m + 1) (0:Int)).set n ((i64w) V) = (List.range (n + 1)).map (fun i => (i64w) (atP 8 b i)) ++ List.replicate m 0:=by
    have:=set_mid ((List.range n).map (fun i => (i64w) (atP 8 b i))) m (0:Int) ((i64w) V)
    rw [tl] at this
    rw [this,range_next,hV]
   rw [e1,Nat.mul_one] at M2
   have c1:wr.cell? ⟨w.heap.size,n,none⟩ = some (.int .i64 (((List.range n).map (fun i => (i64w) (atP 8 b i)) ++ List.replicate (m + 1) (0:Int)).getD n 0)):=by
    have:=Mrow.at i64Wd (z:=(0:Int)) (uh M) (i:=n) (j:=0) (by omega) rfl
    rw [Nat.mul_one] at this
    exact this
   have f1:=(uh M).frozen n
   have hs1:w.heap.size < wr.heap.size:=lt_of_block (uh M)
   generalize ((List.range n).map (fun i => (i64w) (atP 8 b i)) ++ List.replicate (m + 1) (0:Int)).getD n 0 = c0 at c1
   have B2:=hide (setMany_below (i64c ((i64w) V)) wr w.heap.size n (uh B) (Nat.le_refl _))
   have HR:Hid (leV ((b.drop (n * 8)).take 8) = V):=hide hV
   have hnk:n * 8 + 8 ≤ b.length:=by have:=uh HN; omega
   have hlen:((b.drop (n * 8)).take 8).length = 8:=by simp; omega
   have HLEN:=hide hlen
   have HGET:Hid (∀ j,j < 8 → ((b.drop (n * 8)).take 8).getD j 0 = b.getD (n * 8 + j) 0):=hide (fun j hj => by
    simp [List.getD_eq_getElem?_getD,List.getElem?_take_of_lt hj])
   have v0:0 ≤ V:=by rw [← hV]; exact (leV_range _ (isB_take (isB_drop (uh HBB) _) _)).1
   generalize (b.drop (n * 8)).take 8 = dd at HR HLEN HGET
   clear e1 hl M tl hlen hV
   go_wp2_with fail
   go_loop [9,10] (fun xv iv => ∃ j:Nat,∃ y:Int,iv = .int .i64 ((j:Int) - 1) ∧ xv = .int .u64 y ∧ j ≤ 8 ∧ 0 ≤ y ∧ Hid (y < 256 ^ (8 - j)) ∧ Hid (y = leV (dd.drop j))) (fun _ iv => (intOf iv + 1).toNat)
   case atStart => exact ⟨8,0,rfl,rfl,by omega,by omega,hide (by simp),hide (by rw [List.drop_of_length_le (by rw [uh HLEN]; omega)]; rfl)⟩
   case round =>
    obtain ⟨j1,y,rfl,rfl,hj1,y0,HYB,HY⟩:=hrel
    by_cases h0:j1 = 0
    ·subst h0
     have HE:y = V:=by rw [uh HY,← uh HR]; rfl
     subst HE
     clear HY HYB
     go_wp2_with fail
     refine (uh HC _ _ y0).mono ?_
     rintro e v ⟨rfl,hv⟩
     replace hv:=hv.symm
     subst hv
     go_wp2_with fail
     go_roundw
     case rel => exact ⟨n + 1,by go_num,by omega,by rw [show N - (n + 1) = m by omega]; exact M2,B2⟩
     case measure => simp [intOf]; omega
    ·obtain ⟨j,rfl⟩:∃ j,j1 = j + 1:=⟨j1 - 1,by omega⟩
     have hjb:n * 8 + j < b.length:=by omega
     have hge:(0:Int) ≤ (j:Int):=by omega
     have hki:((j + 1:Nat):Int) - 1 = (j:Int):=by omega
     have k3:wr.cell? ⟨b3,o3 + (n * 8 + j),none⟩ = some (.int .u8 (b.getD (n * 8 + j) 0)):=uh HC3 (n * 8 + j) hjb
     have hk2:((n * 8 + j:Nat):Int) < (m0:Int):=by have:=uh HM0; omega
     have hmj:(n:Int) * 8 + (j:Int) = ((n * 8 + j:Nat):Int):=by omega
     obtain ⟨c0',c1'⟩:=uh HBB _ (getD_mem6 hjb)
     have HGJ:=hide (uh HGET j (by omega))
     have hpw:y < 72057594037927936:=by
      have h1:=uh HYB
      have h2:(256:Int) ^ (8 - (j + 1)) ≤ 256 ^ 7:=by
       have:=Nat.pow_le_pow_right (show 0 < 256 by decide) (show 8 - (j + 1) ≤ 7 by omega)
       have h3:((256 ^ (8 - (j + 1)):Nat):Int) ≤ ((256 ^ 7:Nat):Int):=Int.ofNat_le.2 this
       exact_mod_cast h3
      have h4:(256:Int) ^ 7 = 72057594037927936:=by decide
      omega
     generalize b.getD (n * 8 + j) 0 = x at k3 c0' c1' HGJ
     have HY2:Hid (y * 256 + x = leV (dd.drop j)):=hide (by rw [leV_drop (by rw [uh HLEN]; omega),uh HGJ,uh HY]; omega)
     have HB2:Hid (y * 256 + x < 256 ^ (8 - j)):=hide (by
      have h1:=uh HYB
      rw [show 8 - j = (8 - (j + 1)) + 1 by omega,Int.pow_succ]
      generalize (256:Int) ^ (8 - (j + 1)) = P at h1 ⊢
      omega)
     have hor:=or256 y x y0 c0' c1' (by omega)
     obtain ⟨MM,hM⟩:∃ M,n * 8 + j = M:=⟨_,rfl⟩
     rw [hM] at k3 hk2 hmj
     clear hM
     clear HY HYB hjb HGJ
     rw [hki]
     go_wp2_with fail
     go_round
     case rel => exact ⟨j,y * 256 + x,by go_num,rfl,by omega,by omega,HB2,HY2⟩
     case measure => simp [intOf]
  ·have hi:¬ (n:Int) < (N:Int):=by omega
   have en:n = N:=by omega
   subst en
   rw [Nat.sub_self,List.replicate_zero,List.append_nil] at M
   have HO:=hide (own_i64 (Mrow.own i64Wd (uh M) (Nat.le_refl _) (by rw [List.length_map,List.length_range]; unfold maxLen; omega) (uh B)))
   rw [List.length_map,List.length_range] at HO
   clear M
   go_wp2_with fail
   go_ret
   exact ⟨_,rfl,uh HO⟩
theorem cpartedB_any (p:Option Addr) (c:Nat) (b:List Int) (N:Nat) (w:World) (h:Ints .u8 w p c b) (hN:b.length = N * 1) (hs:N ≤ 4194304) :
  Calls Tryz.prog 255 #[.slice p b.length c,.int .i64 1,.func (.func 257) #[] #[]] w fun e w' => ∃ v,e = .returned v ∧ OwnG 2 (Value.int .i64) w w' v ((List.range N).map (fun i => (i64w) (atP 1 b i))):=by
 obtain ⟨i1,hi1,y1,z1,b1⟩:=info_parts Tryz.infoI64d
 have A1:=hide h
 have hB:=wf_isB h.2.2.1
 have HBB:=hide hB
 have HC:=hide (fun x v h0 => ccut3_any x v h0)
 clear h hB
 have hq:IntKind.i64.wrap (Int.tdiv (b.length:Int) 1) = (N:Int):=by rw [hN,Int.tdiv_eq_ediv_of_nonneg (by omega),IntKind.wrap_i64]; omega
 have hq2:((b.length:Int)).tdiv 1 = (N:Int):=by rw [hN,Int.tdiv_eq_ediv_of_nonneg (by omega)]; omega
 have HN:=hide hN
 have hbl:b.length ≤ 40000000:=by omega
 obtain ⟨m0,hm0⟩:∃ m,b.length = m:=⟨_,rfl⟩
 have HM0:=hide hm0
 rw [hm0] at hq hq2 hbl ⊢
 clear hN hm0
 go_enter Tryz.func255,Tryz.ntmps255
 go_wp2_with (at_make; (refine wpList_make_full _ rfl _ _ 77 rfl w.heap.size 2 i1 (.int .i64 0) 1 Tryz.underlying77 hi1 y1 z1 _ _ _ _ N rfl rfl (by first | exact hq | exact hq2 | omega) (by first | exact hq | exact hq2 | omega) (by rw [b1]; omega) (by unfold maxLen; omega) (Nat.le_refl _) ?_; intro w1 hown hgrow; have HM:=hide (Mrow.made i64Wd (0:Int) rfl hown); have HB:=hide ((Below.refl w.heap.size w).grown hgrow (Nat.le_refl _) (fun k hk => by cases hk)); clear hown hgrow))
 go_loopw [18] (fun iv wr => ∃ n:Nat,iv = .int .i64 n ∧ n ≤ N ∧ Hid (Mrow 2 i64c wr w.heap.size ((List.range n).map (fun i => (i64w) (atP 1 b i)) ++ List.replicate (N - n) 0)) ∧ Hid (Below w.heap.size w wr)) (fun iv _ => N - (intOf iv).toNat)
 case atStart => exact ⟨0,rfl,by omega,hide (by rw [List.range_zero,List.map_nil,List.nil_append]; exact uh HM),HB⟩
 case round =>
  obtain ⟨n,rfl,hn,M,B⟩:=hrel
  by_cases hlt:n < N
  ·have hi:(n:Int) < (N:Int):=by omega
   obtain ⟨b3,o3,e3,hb3,hc3⟩:=((uh A1).below (uh B)).lies (by have:=uh HN; omega)
   subst e3
   have HC3:=hide hc3
   clear hc3
   obtain ⟨m,hm⟩:∃ m,N - n = m + 1:=⟨N - n - 1,by omega⟩
   rw [hm] at M
   have tl:((List.range n).map (fun i => (i64w) (atP 1 b i))).length = n:=by rw [List.length_map,List.length_range]
   have hl:((List.range n).map (fun i => (i64w) (atP 1 b i)) ++ List.replicate (m + 1) (0:Int)).length = N:=by rw [List.length_append,tl,List.length_replicate]; omega
   obtain ⟨V,hV⟩:∃ V,atP 1 b n = V:=⟨_,rfl⟩
   have M2:=hide (Mrow.set i64Wd (uh M) ((i64w) V) (i:=n) (by omega))
   have e1:((List.range n).map (fun i => (i64w) (atP 1 b i)) ++ List.replicate (m + 1) (0:Int)).set n ((i64w) V) = (List.range (n + 1)).map (fun i => (i64w) (atP 1 b i)) ++ List.replicate m 0:=by
    have:=set_mid ((List.range n).map (fun i => (i64w) (atP 1 b i))) m (0:Int) ((i64w) V)
    rw [tl] at this
    rw [this,range_next,hV]
   rw [e1,Nat.mul_one] at M2
   have c1:wr.cell? ⟨w.heap.size,n,none⟩ = some (.int .i64 (((List.range n).map (fun i => (i64w) (atP 1 b i)) ++ List.replicate (m + 1) (0:Int)).getD n 0)):=by
    have:=Mrow.at i64Wd (z:=(0:Int)) (uh M) (i:=n) (j:=0) (by omega) rfl
    rw [Nat.mul_one] at this
    exact this
   have f1:=(uh M).frozen n
   have hs1:w.heap.size < wr.heap.size:=lt_of_block (uh M)
   generalize ((List.range n).map (fun i => (i64w) (atP 1 b i)) ++ List.replicate (m + 1) (0:Int)).getD n 0 = c0 at c1
   have B2:=hide (setMany_below (i64c ((i64w) V)) wr w.heap.size n (uh B) (Nat.le_refl _))
   have HR:Hid (leV ((b.drop (n * 1)).take 1) = V):=hide hV
   have hnk:n * 1 + 1 ≤ b.length:=by have:=uh HN; omega
   have hlen:((b.drop (n * 1)).take 1).length = 1:=by simp; omega
   have HLEN:=hide hlen
   have HGET:Hid (∀ j,j < 1 → ((b.drop (n * 1)).take 1).getD j 0 = b.getD (n * 1 + j) 0):=hide (fun j hj => by
    simp [List.getD_eq_getElem?_getD,List.getElem?_take_of_lt hj])
   have v0:0 ≤ V:=by rw [← hV]; exact (leV_range _ (isB_take (isB_drop (uh HBB) _) _)).1
   generalize (b.drop (n * 1)).take 1 = dd at HR HLEN HGET
   clear e1 hl M tl hlen hV
   go_wp2_with fail
   go_loop [9,10] (fun xv iv => ∃ j:Nat,∃ y:Int,iv = .int .i64 ((j:Int) - 1) ∧ xv = .int .u64 y ∧ j ≤ 1 ∧ 0 ≤ y ∧ Hid (y < 256 ^ (1 - j)) ∧ Hid (y = leV (dd.drop j))) (fun _ iv => (intOf iv + 1).toNat)
   case atStart => exact ⟨1,0,rfl,rfl,by omega,by omega,hide (by simp),hide (by rw [List.drop_of_length_le (by rw [uh HLEN]; omega)]; rfl)⟩
   case round =>
    obtain ⟨j1,y,rfl,rfl,hj1,y0,HYB,HY⟩:=hrel
    by_cases h0:j1 = 0
    ·subst h0
     have HE:y = V:=by rw [uh HY,← uh HR]; rfl
     subst HE
     clear HY HYB
     go_wp2_with fail
     refine (uh HC _ _ y0).mono ?_
     rintro e v ⟨rfl,hv⟩
     replace hv:=hv.symm
     subst hv
     go_wp2_with fail
     go_roundw
     case rel => exact ⟨n + 1,by go_num,by omega,by rw [show N - (n + 1) = m by omega]; exact M2,B2⟩
     case measure => simp [intOf]; omega
    ·obtain ⟨j,rfl⟩:∃ j,j1 = j + 1:=⟨j1 - 1,by omega⟩
     have hj0:j = 0:=by omega
     subst hj0
     have hjb:n * 1 + 0 < b.length:=by omega
     have hki:((0 + 1:Nat):Int) - 1 = 0:=by omega
     have k3:wr.cell? ⟨b3,o3 + n,none⟩ = some (.int .u8 (b.getD (n * 1 + 0) 0)):=by have h3:=uh HC3 (n * 1 + 0) hjb; rw [Nat.add_zero,Nat.mul_one] at h3 ⊢; exact h3
     have hk2:(n:Int) < (m0:Int):=by have:=uh HM0; omega
     have hk4:n < m0:=by omega
     obtain ⟨c0',c1'⟩:=uh HBB _ (getD_mem6 hjb)
     have HGJ:=hide (uh HGET 0 (by omega))
     have hpw:y < 72057594037927936:=by
      have h1:=uh HYB
      have h2:(256:Int) ^ (1 - (0 + 1)) ≤ 256 ^ 7:=by
       have:=Nat.pow_le_pow_right (show 0 < 256 by decide) (show 1 - (0 + 1) ≤ 7 by omega)
       have h3:((256 ^ (1 - (0 + 1)):Nat):Int) ≤ ((256 ^ 7:Nat):Int):=Int.ofNat_le.2 this
       exact_mod_cast h3
      have h4:(256:Int) ^ 7 = 72057594037927936:=by decide
      omega
     generalize b.getD (n * 1 + 0) 0 = x at k3 c0' c1' HGJ
     have HY2:Hid (y * 256 + x = leV (dd.drop 0)):=hide (by rw [leV_drop (by rw [uh HLEN]; omega),uh HGJ,uh HY]; omega)
     have HB2:Hid (y * 256 + x < 256 ^ (1 - 0)):=hide (by
      have h1:=uh HYB
      rw [show 1 - 0 = (1 - (0 + 1)) + 1 by omega,Int.pow_succ]
      generalize (256:Int) ^ (1 - (0 + 1)) = P at h1 ⊢
      omega)
     have hor:=or256 y x y0 c0' c1' (by omega)
     clear HY HYB hjb HGJ
     rw [hki]
     go_wp2_with fail
     go_round
     case rel => exact ⟨0,y * 256 + x,by go_num,rfl,by omega,by omega,HB2,HY2⟩
     case measure => simp [intOf]
  ·have hi:¬ (n:Int) < (N:Int):=by omega
   have en:n = N:=by omega
   subst en
   rw [Nat.sub_self,List.replicate_zero,List.append_nil] at M
   have HO:=hide (own_i64 (Mrow.own i64Wd (uh M) (Nat.le_refl _) (by rw [List.length_map,List.length_range]; unfold maxLen; omega) (uh B)))
   rw [List.length_map,List.length_range] at HO
   clear M
   go_wp2_with fail
   go_ret
   exact ⟨_,rfl,uh HO⟩
def truthsOK (l:List Int):Bool:=!l.any (fun x => x != 0 && x != 1)
theorem ctruths_any (p:Option Addr) (c:Nat) (l:List Int) (w:World) (h:Ls (Value.int .i64) w p c l) (hs:l.length ≤ 100000000) :
  Calls Tryz.prog 237 #[.slice p l.length c] w fun e w' => ∃ v,e = .returned (.tuple #[v,.bool (truthsOK l)]) ∧ OwnG 4 Value.bool w w' v (if truthsOK l = true then l.map (· == 1) else []):=by
 obtain ⟨i1,hi1,y1,z1,b1⟩:=info_parts Tryz.infoB
 have A1:=hide h
 obtain ⟨D,hD⟩:∃ D,truthsOK l = D:=⟨_,rfl⟩
 have HD:=hide hD
 rw [hD]
 clear h hD
 obtain ⟨RL,hRL⟩:∃ RL,(if D = true then l.map (· == 1) else []) = RL:=⟨_,rfl⟩
 have HRL:=hide hRL
 rw [hRL]
 clear hRL
 go_enter Tryz.func237,Tryz.ntmps237
 go_wp2_with fail
 go_loopw [4,9] (fun v iv wr => ∃ n:Nat,iv = .int .i64 n ∧ n ≤ l.length ∧ Hid ((l.take n).any (fun x => x != 0 && x != 1) = false) ∧ Hid (OwnG 4 Value.bool w wr v ((l.take n).map (· == 1)))) (fun _ iv _ => l.length - (intOf iv).toNat)
 case atStart => exact ⟨0,rfl,by omega,hide rfl,hide (OwnG.nil _ _ _ (Below.refl _ _))⟩
 case round =>
  obtain ⟨n,rfl,hn,HN,O⟩:=hrel
  by_cases hlt:n < l.length
  ·have hi:(n:Int) < (l.length:Int):=by omega
   obtain ⟨b,o,rfl,hb,hc⟩:=((uh A1).below (uh O).2).lies (by omega)
   have k1:wr.cell? ⟨b,o + n,none⟩ = some (.int .i64 (l.getD n 0)):=hc n hlt
   have HT:=hide (any_take7 (fun x:Int => x != 0 && x != 1) 0 l n hlt)
   have HM:=hide (any_mem7 (P:=fun x:Int => x != 0 && x != 1) (z:=0) hlt)
   have HT2:=hide (map_take7 (fun x:Int => x == 1) 0 l n hlt)
   have tl:((l.take n).map (fun x:Int => x == 1)).length = n:=by rw [List.length_map,List.length_take]; omega
   generalize l.getD n 0 = x at k1 HT HM HT2
   clear hc
   by_cases hx:x = 0 ∨ x = 1
   ·have HN2:Hid ((l.take (n + 1)).any (fun x => x != 0 && x != 1) = false):=hide (by rw [uh HT,uh HN]; rcases hx with e | e <;> subst e <;> rfl)
    obtain ⟨Q,hQ⟩:∃ Q,(l.take n).map (fun x:Int => x == 1) = Q:=⟨_,rfl⟩
    rw [hQ] at HT2 tl O
    have tl2:Q.length ≤ 100000000:=by omega
    clear HT HM HN hQ tl
    rcases hx with e | e
    ·subst e
     go_wp2_with (at_builtin; (refine wpList_append_ls rfl _ _ 78 rfl w 4 i1 (.bool false) 1 Tryz.underlying78 hi1 y1 z1 b1 rfl bool_one _ Q rfl ((uh O).below (al1p _ _)) (some ⟨_,0,none⟩) 1 [false] rfl (ls_lit _ _ _) (by unfold maxLen; simp only [List.length_singleton]; omega) (by simp only [List.length_singleton]; omega) ?_; intro v2 w2 O2; have HO2:=hide O2; clear O2))
     go_roundw
     case rel => exact ⟨n + 1,by go_num,by omega,HN2,hide (by rw [uh HT2]; exact uh HO2)⟩
     case measure => simp [intOf]; omega
    ·subst e
     go_wp2_with (at_builtin; (refine wpList_append_ls rfl _ _ 78 rfl w 4 i1 (.bool false) 1 Tryz.underlying78 hi1 y1 z1 b1 rfl bool_one _ Q rfl ((uh O).below (al1p _ _)) (some ⟨_,0,none⟩) 1 [true] rfl (ls_lit _ _ _) (by unfold maxLen; simp only [List.length_singleton]; omega) (by simp only [List.length_singleton]; omega) ?_; intro v2 w2 O2; have HO2:=hide O2; clear O2))
     go_roundw
     case rel => exact ⟨n + 1,by go_num,by omega,HN2,hide (by rw [uh HT2]; exact uh HO2)⟩
     case measure => simp [intOf]; omega
   ·have t0:(x != 0) = true:=by simp; omega
    have t1:(x != 1) = true:=by simp; omega
    have HE:D = false:=by rw [← uh HD]; unfold truthsOK; rw [uh HM (by rw [t0,t1]; rfl)]; rfl
    subst HE
    have HE2:RL = []:=by rw [← uh HRL]; rfl
    subst HE2
    clear HT HM HT2 HN hx tl
    have OB:=hide (uh O).2
    go_wp2_with fail
    go_ret2
    exact ⟨_,rfl,OwnG.nil _ _ _ (uh OB)⟩
  ·have hi:¬ (n:Int) < (l.length:Int):=by omega
   rw [List.take_of_length_le (by omega)] at HN O
   have HE:D = true:=by rw [← uh HD]; unfold truthsOK; rw [uh HN]; rfl
   subst HE
   have HE2:RL = l.map (· == 1):=by rw [← uh HRL]; rfl
   subst HE2
   go_wp2_with fail
   go_ret2
   exact ⟨_,rfl,uh O⟩
theorem clisted_any (qf:Option Addr) (nf cf:Nat) (qs:Option Addr) (ns cs:Nat) (qn:Option Addr) (nn cn:Nat) (qr:Option Addr) (nr cr:Nat) (is:Bool) (w:World) (h1:nf ≤ 100000000) (h2:ns ≤ 100000000) (h3:nn ≤ 100000000) :
  Calls Tryz.prog 235 #[.agg #[.slice qf nf cf,.slice qs ns cs,.slice qn nn cn,.slice qr nr cr,.bool is]] w fun e w' => e = .returned (.int .i64 ((nf:Int) + ns + nn)) ∧ Below w.heap.size w w':=by
 have HB:=hide (fun o => al1p w o)
 go_enter Tryz.func235,Tryz.ntmps235
 go_wp2_with fail
 go_ret
 exact ⟨rfl,uh HB _⟩
theorem ccutF_any (p:Option Addr) (c:Nat) (b:List Int) (N:Nat) (w:World) (h:Ints .u8 w p c b) (hN:b.length = N * 4) (hs:N ≤ 4194304) :
  Calls Tryz.prog 236 #[.int .i64 1,.slice p b.length c] w fun e w' => ∃ q1 d1,e = .returned (.agg #[.slice q1 N d1,.slice none 0 0,.slice none 0 0,.slice none 0 0,.bool false]) ∧ Hid (w'.ownsRow w.heap.size 84 1 (.slice q1 N d1) N (((List.range N).map (fun i => (fun x => x % 4294967296) (atP 4 b i))).map (Value.int .u32)) ∧ Below w.heap.size w w'):=by
 have C1:=hide (fun v => cwidth_any 1 v)
 rw [show widthV 1 = 4 from rfl] at C1
 have C2:=hide (fun v (hv:Below w.heap.size w v) => cpartedF_any p c b N v (h.below hv) hN hs)
 have nl:=h.len
 have hll:((List.range N).map (fun i => (fun x => x % 4294967296) (atP 4 b i))).length = N:=by rw [List.length_map,List.length_range]
 have HLL:=hide hll
 generalize (List.range N).map (fun i => (fun x => x % 4294967296) (atP 4 b i)) = XS at C2 HLL ⊢
 clear h hN hll
 have Y0:=hide (Box.new w #[.slice none 0 0,.slice none 0 0,.slice none 0 0,.slice none 0 0,.bool false] 228)
 go_enter Tryz.func236,Tryz.ntmps236
 go_wp2_with fail
 refine (uh C1 _).mono ?_
 rintro e v ⟨rfl,hv⟩
 replace hv:=hv.symm
 subst hv
 go_wp2_with fail
 refine (uh C2 _ (al1p _ _)).mono ?_
 rintro e w1 ⟨v1,rfl,hO⟩
 obtain ⟨q1,d1,rfl,_,_⟩:=hO.form
 have O1:=hide hO.1
 have B1:=hide (bl_tr (al1p w _) hO.2)
 have Y1:=hide ((uh Y0).below hO.2)
 have y1:=(uh Y1).cell
 have z1:=(uh Y1).frozen
 rw [uh HLL] at O1
 rw [uh HLL]
 clear hO
 go_wp2_with fail
 have Y2:=hide ((uh Y1).set5 (.slice q1 N d1) (.slice none 0 0) (.slice none 0 0) (.slice none 0 0) (.bool false))
 have O2:=hide (ownsRow_base (ownsRow_set (ownsRow_set (ownsRow_set (ownsRow_set (ownsRow_set (uh O1) (g:=w.heap.size) (by simp) 0 (.slice q1 N d1)) (g:=w.heap.size) (by simp) 1 (.slice none 0 0)) (g:=w.heap.size) (by simp) 2 (.slice none 0 0)) (g:=w.heap.size) (by simp) 3 (.slice none 0 0)) (g:=w.heap.size) (by simp) 4 (.bool false)) (show w.heap.size ≤ _ by simp))
 have B2:=hide (bset5 (uh B1) (Nat.le_refl w.heap.size) (.slice q1 N d1) (.slice none 0 0) (.slice none 0 0) (.slice none 0 0) (.bool false))
 refine bodyPost_ret ?_ rfl ⟨q1,d1,rfl,hide ⟨uh O2,uh B2⟩⟩
 simp [results,Tryz.results236,go_sem,(uh Y2).cell]
theorem ccutI_any (p:Option Addr) (c:Nat) (b:List Int) (N:Nat) (w:World) (h:Ints .u8 w p c b) (hN:b.length = N * 8) (hs:N ≤ 4194304) :
  Calls Tryz.prog 236 #[.int .i64 7,.slice p b.length c] w fun e w' => ∃ q1 d1,e = .returned (.agg #[.slice none 0 0,.slice none 0 0,.slice q1 N d1,.slice none 0 0,.bool false]) ∧ Hid (w'.ownsRow w.heap.size 2 1 (.slice q1 N d1) N (((List.range N).map (fun i => (i64w) (atP 8 b i))).map (Value.int .i64)) ∧ Below w.heap.size w w'):=by
 have C1:=hide (fun v => cwidth_any 7 v)
 rw [show widthV 7 = 8 from rfl] at C1
 have C2:=hide (fun v (hv:Below w.heap.size w v) => cpartedI_any p c b N v (h.below hv) hN hs)
 have nl:=h.len
 have hll:((List.range N).map (fun i => (i64w) (atP 8 b i))).length = N:=by rw [List.length_map,List.length_range]
 have HLL:=hide hll
 generalize (List.range N).map (fun i => (i64w) (atP 8 b i)) = XS at C2 HLL ⊢
 clear h hN hll
 have Y0:=hide (Box.new w #[.slice none 0 0,.slice none 0 0,.slice none 0 0,.slice none 0 0,.bool false] 228)
 go_enter Tryz.func236,Tryz.ntmps236
 go_wp2_with fail
 refine (uh C1 _).mono ?_
 rintro e v ⟨rfl,hv⟩
 replace hv:=hv.symm
 subst hv
 go_wp2_with fail
 refine (uh C2 _ (al1p _ _)).mono ?_
 rintro e w1 ⟨v1,rfl,hO⟩
 obtain ⟨q1,d1,rfl,_,_⟩:=hO.form
 have O1:=hide hO.1
 have B1:=hide (bl_tr (al1p w _) hO.2)
 have Y1:=hide ((uh Y0).below hO.2)
 have y1:=(uh Y1).cell
 have z1:=(uh Y1).frozen
 rw [uh HLL] at O1
 rw [uh HLL]
 clear hO
 go_wp2_with fail
 have Y2:=hide ((uh Y1).set5 (.slice none 0 0) (.slice none 0 0) (.slice q1 N d1) (.slice none 0 0) (.bool false))
 have O2:=hide (ownsRow_base (ownsRow_set (ownsRow_set (ownsRow_set (ownsRow_set (ownsRow_set (uh O1) (g:=w.heap.size) (by simp) 0 (.slice none 0 0)) (g:=w.heap.size) (by simp) 1 (.slice none 0 0)) (g:=w.heap.size) (by simp) 2 (.slice q1 N d1)) (g:=w.heap.size) (by simp) 3 (.slice none 0 0)) (g:=w.heap.size) (by simp) 4 (.bool false)) (show w.heap.size ≤ _ by simp))
 have B2:=hide (bset5 (uh B1) (Nat.le_refl w.heap.size) (.slice none 0 0) (.slice none 0 0) (.slice q1 N d1) (.slice none 0 0) (.bool false))
 refine bodyPost_ret ?_ rfl ⟨q1,d1,rfl,hide ⟨uh O2,uh B2⟩⟩
 simp [results,Tryz.results236,go_sem,(uh Y2).cell]
theorem ccutB_any (p:Option Addr) (c:Nat) (b:List Int) (N:Nat) (w:World) (h:Ints .u8 w p c b) (hN:b.length = N * 1) (hs:N ≤ 4194304) :
  Calls Tryz.prog 236 #[.int .i64 9,.slice p b.length c] w fun e w' => ∃ q1 d1,e = .returned (.agg #[.slice none 0 0,.slice q1 N d1,.slice none 0 0,.slice none 0 0,.bool false]) ∧ Hid (w'.ownsRow w.heap.size 2 1 (.slice q1 N d1) N (((List.range N).map (fun i => (i64w) (atP 1 b i))).map (Value.int .i64)) ∧ Below w.heap.size w w'):=by
 have C1:=hide (fun v => cwidth_any 9 v)
 rw [show widthV 9 = 1 from rfl] at C1
 have C2:=hide (fun v (hv:Below w.heap.size w v) => cpartedB_any p c b N v (h.below hv) hN hs)
 have nl:=h.len
 have hll:((List.range N).map (fun i => (i64w) (atP 1 b i))).length = N:=by rw [List.length_map,List.length_range]
 have HLL:=hide hll
 generalize (List.range N).map (fun i => (i64w) (atP 1 b i)) = XS at C2 HLL ⊢
 clear h hN hll
 have Y0:=hide (Box.new w #[.slice none 0 0,.slice none 0 0,.slice none 0 0,.slice none 0 0,.bool false] 228)
 go_enter Tryz.func236,Tryz.ntmps236
 go_wp2_with fail
 refine (uh C1 _).mono ?_
 rintro e v ⟨rfl,hv⟩
 replace hv:=hv.symm
 subst hv
 go_wp2_with fail
 refine (uh C2 _ (al1p _ _)).mono ?_
 rintro e w1 ⟨v1,rfl,hO⟩
 obtain ⟨q1,d1,rfl,_,_⟩:=hO.form
 have O1:=hide hO.1
 have B1:=hide (bl_tr (al1p w _) hO.2)
 have Y1:=hide ((uh Y0).below hO.2)
 have y1:=(uh Y1).cell
 have z1:=(uh Y1).frozen
 rw [uh HLL] at O1
 rw [uh HLL]
 clear hO
 go_wp2_with fail
 have Y2:=hide ((uh Y1).set5 (.slice none 0 0) (.slice q1 N d1) (.slice none 0 0) (.slice none 0 0) (.bool false))
 have O2:=hide (ownsRow_base (ownsRow_set (ownsRow_set (ownsRow_set (ownsRow_set (ownsRow_set (uh O1) (g:=w.heap.size) (by simp) 0 (.slice none 0 0)) (g:=w.heap.size) (by simp) 1 (.slice q1 N d1)) (g:=w.heap.size) (by simp) 2 (.slice none 0 0)) (g:=w.heap.size) (by simp) 3 (.slice none 0 0)) (g:=w.heap.size) (by simp) 4 (.bool false)) (show w.heap.size ≤ _ by simp))
 have B2:=hide (bset5 (uh B1) (Nat.le_refl w.heap.size) (.slice none 0 0) (.slice q1 N d1) (.slice none 0 0) (.slice none 0 0) (.bool false))
 refine bodyPost_ret ?_ rfl ⟨q1,d1,rfl,hide ⟨uh O2,uh B2⟩⟩
 simp [results,Tryz.results236,go_sem,(uh Y2).cell]
structure StA where
 fl:List Int
 qf:Option Addr
 cf:Nat
 sm:List Int
 qs:Option Addr
 cs:Nat
 nu:List Int
 qn:Option Addr
 cn:Nat
 rw:List Int
 qr:Option Addr
 cr:Nat
 isR:Bool
def stCells (a:StA):Array Value:=#[.slice a.qf a.fl.length a.cf,.slice a.qs a.sm.length a.cs,.slice a.qn a.nu.length a.cn,.slice a.qr a.rw.length a.cr,.bool a.isR]
def StIn (g B:Nat) (w:World) (a:StA):Prop:=w.ownsRow B 84 1 (.slice a.qf a.fl.length a.cf) a.fl.length (a.fl.map (Value.int .u32)) ∧ w.ownsRow B 2 1 (.slice a.qs a.sm.length a.cs) a.sm.length (a.sm.map (Value.int .i64)) ∧ w.ownsRow B 2 1 (.slice a.qn a.nu.length a.cn) a.nu.length (a.nu.map (Value.int .i64)) ∧ Ints .u8 w a.qr a.cr a.rw ∧ Off g a.qr a.rw.length
def storedF (l:List Fld):F3:=f3 (f3 (f3 (bad3 ((lastV l 9 2).2.2 != 0)) (floatsP l 4).2) (intsP l 5).2) (intsP l 7).2
theorem own_form7 {base k n:Nat} {e:TypeId} {w:World} {v:Value} {xs:List Value} (h:w.ownsRow base e k v n xs):∃ q d,v = .slice q n d:=own_slice h
theorem ownsRow_off {base k n r:Nat} {e t:TypeId} {w w':World} {v:Value} {xs:List Value} {cs:Array Value} (h:w.ownsRow base e k v n xs) (hb:Box w r cs t) (ht:t ≠ e) (s:Stay r w w'):w'.ownsRow base e k v n xs:=by
 obtain ⟨l1,h1⟩:=h
 refine ⟨l1,?_⟩
 rcases h1 with ⟨rfl,h0⟩ | ⟨b,cap,cur,rfl,hb1,hh,hc,hm,hs2,ht2⟩
 ·exact .inl ⟨rfl,h0⟩
 ·refine .inr ⟨b,cap,cur,rfl,hb1,(s.block (fun e2 => ?_) (lt_of_block hh)).trans hh,hc,hm,hs2,ht2⟩
  subst e2
  unfold Box at hb
  rw [hb] at hh
  simp only [Option.some.injEq,Obj.cells.injEq] at hh
  exact ht hh.2.1
theorem creadStored_any (g:Nat) (q:Option Addr) (d:Nat) (L:List FA) (w:World) (hw:WstE g w) (h:MsIn g w q d L) :
  Calls Tryz.prog 184 #[msV q L.length d g] w fun e w' => ∃ a:StA,e = .returned (.agg (stCells a)) ∧ Hid ((a.fl = (floatsP (L.map FA.f) 4).1 ∧ a.sm = (intsP (L.map FA.f) 5).1 ∧ a.nu = (intsP (L.map FA.f) 7).1 ∧ a.rw = (lastV (L.map FA.f) 9 2).1.2.2.2 ∧ a.isR = (lastV (L.map FA.f) 9 2).2.1) ∧ StIn g w.heap.size w' a ∧ RE g (storedF (L.map FA.f)) w w'):=by
 have C1:=hide (fun v (sv:Stay g w v) (hv:WstE g v) => clastm_any g q d L 9 2 v hv (h.stay sv))
 have C2:=hide (fun v (sv:Stay g w v) (hv:WstE g v) => cflts_any g q d L 4 v hv (h.stay sv))
 have C3:=hide (fun v (sv:Stay g w v) (hv:WstE g v) => cnums_any g q d L 5 v hv (h.stay sv))
 have C4:=hide (fun v (sv:Stay g w v) (hv:WstE g v) => cnums_any g q d L 7 v hv (h.stay sv))
 have HW:=hide hw
 have gl:=hw.lt
 unfold storedF
 clear hw h
 generalize lastV (L.map FA.f) 9 2 = R at C1 ⊢
 obtain ⟨R1,R2,R3⟩:=R
 simp only at C1 ⊢
 generalize (R3 != 0) = DD at C1 ⊢
 generalize floatsP (L.map FA.f) 4 = FL at C2 ⊢
 obtain ⟨F1,F2⟩:=FL
 generalize intsP (L.map FA.f) 5 = NS at C3 ⊢
 obtain ⟨N1,N2⟩:=NS
 generalize intsP (L.map FA.f) 7 = KS at C4 ⊢
 obtain ⟨K1,K2⟩:=KS
 simp only at C2 C3 C4 ⊢
 unfold msV at C1 C2 C3 C4 ⊢
 have A0:=hide (al2p w (Obj.cells #[.slice q L.length d,.pointer (some ⟨g,0,none⟩)] 58) (Obj.cells #[.slice none 0 0,.slice none 0 0,.slice none 0 0,.slice none 0 0,.bool false] 228))
 have X0:=hide (Box.alloc (Box.new w #[.slice q L.length d,.pointer (some ⟨g,0,none⟩)] 58) (Obj.cells #[.slice none 0 0,.slice none 0 0,.slice none 0 0,.slice none 0 0,.bool false] 228))
 have Y0:Hid (Box ((w.alloc (Obj.cells #[.slice q L.length d,.pointer (some ⟨g,0,none⟩)] 58)).alloc (Obj.cells #[.slice none 0 0,.slice none 0 0,.slice none 0 0,.slice none 0 0,.bool false] 228)) (w.heap.size + 1) #[.slice none 0 0,.slice none 0 0,.slice none 0 0,.slice none 0 0,.bool false] 228):=hide (by have h:=Box.new (w.alloc (Obj.cells #[.slice q L.length d,.pointer (some ⟨g,0,none⟩)] 58)) #[.slice none 0 0,.slice none 0 0,.slice none 0 0,.slice none 0 0,.bool false] 228; rw [alloc_size6] at h; exact h)
 go_enter Tryz.func184,Tryz.ntmps184
 go_wp2_with fail
 refine (uh C1 _ (Stay.below (uh A0) (by omega)) ((uh HW).below (uh A0))).mono ?_
 rintro e w1 ⟨a,rfl,hq⟩
 obtain ⟨h1,h2,h3,hr⟩:=uh hq
 obtain ⟨an,awr,ax,ad,aq,ac⟩:=a
 have HF1:=hide h1
 have l0:w.heap.size + 1 < w1.heap.size:=(hr.1.box (uh Y0) (by omega)).lt
 have D1:Hid (Below w1.heap.size w1 ((w1.alloc (Obj.cells #[.int .i64 an,.int .i64 awr,.int .u64 ax,.slice aq ad.length ac] 148)).drew)):=hide (bl_tr (al1p w1 _) (bdrewp _))
 have R1':=hide (((((RE.below (uh A0) (uh HW)).trans hr).trans (RE.below (uh D1) (hr.wst ((uh HW).below (uh A0)))))).eq (f':=bad3 DD) (by rw [no_f3,f3_no]))
 have X1:=hide (hr.1.box (uh X0) (by omega))
 have Y1:=hide (hr.1.box (uh Y0) (by omega))
 have x1:=fun o => ((uh X1).alloc o).cell
 have X1d:=hide ((uh X1).below (uh D1))
 have Y1d:=hide ((uh Y1).below (uh D1))
 have G1:Hid (Box (w1.alloc (Obj.cells #[.int .i64 an,.int .i64 awr,.int .u64 ax,.slice aq ad.length ac] 148)) w1.heap.size #[.int .i64 an,.int .i64 awr,.int .u64 ax,.slice aq ad.length ac] 148):=hide (Box.new w1 _ _)
 have G1d:=hide ((uh G1).below (bdrewp _))
 have HI1:=hide (h2.below (uh D1))
 have HO1:Hid (Off g aq ad.length):=hide (h3 g (by simp; omega))
 have PR:Hid (Off (w.heap.size + 1) aq ad.length):=hide (h3 (w.heap.size + 1) (by simp))
 have xa:=((uh X1).alloc (Obj.cells #[.int .i64 an,.int .i64 awr,.int .u64 ax,.slice aq ad.length ac] 148)).cell
 have xd:=(uh X1d).cell
 have ga:=(uh G1).cell
 have gd:=(uh G1d).cell
 clear hq h1 h2 h3 hr x1 C1
 unfold faV
 simp only
 go_wp2_with fail
 go_region_held3 (fun v => (∀ j,v.cell? ⟨w.heap.size,j,none⟩ = (#[.slice q L.length d,.pointer (some ⟨g,0,none⟩)]:Array Value)[j]?) ∧ (∀ j,v.cell? ⟨w1.heap.size,j,none⟩ = (#[.int .i64 an,.int .i64 awr,.int .u64 ax,.slice aq ad.length ac]:Array Value)[j]?)) (refine ⟨?_,?_⟩ <;> with_reducible assumption)
  (first
   | (go_at_call 181; (refine (uh C4 _ (uh R3').1 ((uh R3').wst (uh HW))).mono ?_; rintro e w4 ⟨v4,rfl,hq⟩; obtain ⟨g4,hr⟩:=uh hq; obtain ⟨q4,d4,e4⟩:=own_form7 g4; subst e4; have R4':=hide ((uh R3').trans hr); have O4:=hide (ownsRow_base g4 (uh R3').1.1.size); have O34:=hide (ownsRow_stay (uh O3) gl hr.1); have O24:=hide (ownsRow_stay (uh O23) gl hr.1); have HI4:=hide ((uh HI3).stay (uh HO1) hr.1); have X4:=hide (hr.1.box (uh X3) (by omega)); have G4:=hide (hr.1.box (uh G3) (by omega)); have Y4:=hide (hr.1.box (uh Y3) (by omega)); have x4:=(uh X4).cell; have g4c:=(uh G4).cell; have y4:=(uh Y4).cell; have z4:=(uh Y4).frozen; have x4s:=(Box.off5 (uh X4) (show w.heap.size ≠ w.heap.size + 1 by omega) (.slice q2 F1.length d2) (.slice q3 N1.length d3) (.slice q4 K1.length d4) (.slice aq ad.length ac) (.bool R2)).cell; have g4s:=(Box.off5 (uh G4) (show w1.heap.size ≠ w.heap.size + 1 by omega) (.slice q2 F1.length d2) (.slice q3 N1.length d3) (.slice q4 K1.length d4) (.slice aq ad.length ac) (.bool R2)).cell; clear hq g4 hr))
   | (go_at_call 181; (refine (uh C3 _ (uh R2').1 ((uh R2').wst (uh HW))).mono ?_; rintro e w3 ⟨v3,rfl,hq⟩; obtain ⟨g3,hr⟩:=uh hq; obtain ⟨q3,d3,e3⟩:=own_form7 g3; subst e3; have R3':=hide ((uh R2').trans hr); have O3:=hide (ownsRow_base g3 (uh R2').1.1.size); have O23:=hide (ownsRow_stay (uh O2) gl hr.1); have HI3:=hide ((uh HI2).stay (uh HO1) hr.1); have X3:=hide (hr.1.box (uh X2) (by omega)); have G3:=hide (hr.1.box (uh G2) (by omega)); have Y3:=hide (hr.1.box (uh Y2) (by omega)); have x3:=(uh X3).cell; have g3c:=(uh G3).cell; clear hq g3 hr))
   | (go_at_call 229; (refine (uh C2 _ (uh R1').1 ((uh R1').wst (uh HW))).mono ?_; rintro e w2 ⟨v2,rfl,hq⟩; obtain ⟨g2,hr⟩:=uh hq; obtain ⟨q2,d2,e2⟩:=own_form7 g2; subst e2; have R2':=hide ((uh R1').trans hr); have O2:=hide (ownsRow_base g2 (uh R1').1.1.size); have HI2:=hide ((uh HI1).stay (uh HO1) hr.1); have X2:=hide (hr.1.box (uh X1d) (by omega)); have G2:=hide (hr.1.box (uh G1d) (by omega)); have Y2:=hide (hr.1.box (uh Y1d) (by omega)); have x2:=(uh X2).cell; have g2c:=(uh G2).cell; clear hq g2 hr)))
 go_wp2_with fail
 have SS:Hid (Stay (w.heap.size + 1) w4 _):=hide (((((Stay.set (w.heap.size + 1) w4 0 (.slice q2 F1.length d2)).trans (Stay.set _ _ 1 (.slice q3 N1.length d3))).trans (Stay.set _ _ 2 (.slice q4 K1.length d4))).trans (Stay.set _ _ 3 (.slice aq ad.length ac))).trans (Stay.set _ _ 4 (.bool R2)))
 have Y5:=hide ((uh Y4).set5 (.slice q2 F1.length d2) (.slice q3 N1.length d3) (.slice q4 K1.length d4) (.slice aq ad.length ac) (.bool R2))
 have R5:=hide ((((((uh R4').setNew (show w.heap.size ≤ w.heap.size + 1 by omega) gl 0 (.slice q2 F1.length d2)).setNew (show w.heap.size ≤ w.heap.size + 1 by omega) gl 1 (.slice q3 N1.length d3)).setNew (show w.heap.size ≤ w.heap.size + 1 by omega) gl 2 (.slice q4 K1.length d4)).setNew (show w.heap.size ≤ w.heap.size + 1 by omega) gl 3 (.slice aq ad.length ac)).setNew (show w.heap.size ≤ w.heap.size + 1 by omega) gl 4 (.bool R2))
 have P2:=hide (ownsRow_off (uh O24) (uh Y4) (by decide) (uh SS))
 have P3:=hide (ownsRow_off (uh O34) (uh Y4) (by decide) (uh SS))
 have P4:=hide (ownsRow_off (uh O4) (uh Y4) (by decide) (uh SS))
 have PI:=hide (((uh HI4).2.2.2).stay7 (uh PR) (uh SS))
 refine bodyPost_ret ?_ rfl ⟨⟨F1,q2,d2,N1,q3,d3,K1,q4,d4,ad,aq,ac,R2⟩,rfl,hide ⟨⟨rfl,rfl,rfl,by rw [← uh HF1]; rfl,rfl⟩,⟨uh P2,uh P3,uh P4,uh PI,uh HO1⟩,uh R5⟩⟩
 simp [results,Tryz.results184,go_sem,(uh Y5).cell,stCells]
theorem no_iff (a b:F3):f3 a b = no3 ↔ a = no3 ∧ b = no3:=⟨f3_eq_no,fun h => by rw [h.1,h.2]; rfl⟩
theorem no_cons (x:F3) (r:List F3):fAll (x :: r) = no3 ↔ x = no3 ∧ fAll r = no3:=by rw [fAll_cons,no_iff]
theorem no_nil:fAll [] = no3:=rfl
theorem no_app (l m:List F3):fAll (l ++ m) = no3 ↔ fAll l = no3 ∧ fAll m = no3:=by rw [fAll_append,no_iff]
theorem no_bad (b:Bool):bad3 b = no3 ↔ b = false:=by cases b <;> simp [bad3,no3]
theorem no_odd (b:Bool):odd3 b = no3 ↔ b = false:=by cases b <;> simp [odd3,no3]
theorem no_big (b:Bool):big3 b = no3 ↔ b = false:=by cases b <;> simp [big3,no3]
theorem no_map {α:Type} (F:α → F3) (l:List α):fAll (l.map F) = no3 ↔ ∀ x ∈ l,F x = no3 :=
 ⟨fun h x hx => fAll_no h _ (List.mem_map.2 ⟨x,hx,rfl⟩),fun h => by
  induction l with
  | nil => rfl
  | cons x r ih => rw [List.map_cons,no_cons]; exact ⟨h x (by simp),ih (fun y hy => h y (by simp [hy]))⟩⟩
def trV (l:List Int):List Bool:=if truthsOK l = true then l.map (· == 1) else []
def stE (kind n:Int) (fl sm nu rw:List Int) (isR:Bool):Ten × Bool :=
 if isR = true then
  if 0 < fl.length + sm.length + nu.length ∨ (rw.length:Int) ≠ n * widthV kind then (noTen,false)
  else if kind = 1 then ((1,[],(List.range n.toNat).map (fun i => (fun x => x % 4294967296) (atP 4 rw i)),[],[]),true)
  else if kind = 7 then ((7,[],[],(List.range n.toNat).map (fun i => i64w (atP 8 rw i)),[]),true)
  else ((9,[],[],[],trV ((List.range n.toNat).map (fun i => i64w (atP 1 rw i)))),truthsOK ((List.range n.toNat).map (fun i => i64w (atP 1 rw i))))
 else if kind = 1 then ((1,[],fl,[],[]),decide ((fl.length:Int) = n ∧ sm.length = 0 ∧ nu.length = 0))
 else if kind = 7 then ((7,[],[],nu,[]),decide ((nu.length:Int) = n ∧ fl.length = 0 ∧ sm.length = 0))
 else ((9,[],[],[],trV sm),decide (truthsOK sm = true ∧ (sm.length:Int) = n ∧ fl.length = 0 ∧ nu.length = 0))
def stL (l:List Fld):Ten × Bool:=stE (wholeP l 2).1 (countV (intsP l 1).1).1 (floatsP l 4).1 (intsP l 5).1 (intsP l 7).1 (lastV l 9 2).1.2.2.2 (lastV l 9 2).2.1
def tensorBF (l:List Fld):F3 :=
 f3 (f3 (f3 (f3 (f3 (f3 (f3 (f3 (f3 (f3 (wholeP l 2).2 (bad3 ((wholeP l 2).1 == 0))) (odd3 (widthV (wholeP l 2).1 == 0))) (bad3 ((lastV l 3 2).2.2 != 0))) (odd3 (lastV l 3 2).2.1)) (wholeP l 14).2) (odd3 ((wholeP l 14).1 != 0))) (nameP l 8).2) (intsP l 1).2) (dimsP (intsP l 1).1).2) (storedF l)
def tensorOn (l:List Fld):Bool:=(countV (intsP l 1).1).2 == 0 && widthV (wholeP l 2).1 != 0
def tensorCF (l:List Fld):F3:=f3 (tensorBF l) (if tensorOn l = true then bad3 (!(stL l).2) else no3)
def tensorC (l:List Fld):InitD:=((nameP l 8).1,((stL l).1.1,(intsP l 1).1,(stL l).1.2.2))
def dimC (b:List Int):Int:=(wholeP (fieldsP b).1 1).1
def dimCF (b:List Int):F3:=f3 (wholeP (fieldsP b).1 1).2 (odd3 (!(lastV (fieldsP b).1 1 0).2.1))
def inL (l:List Fld) (num:Int):List Fld:=(fieldsP (messageP l num).1.1).1
def inF (l:List Fld) (num:Int):F3:=f3 (messageP l num).2 (fieldsP (messageP l num).1.1).2
def inIs (l:List Fld) (num:Int):Bool:=(messageP l num).1.2
def msF (l:List Fld) (num:Int) (F:List Fld → F3):F3:=f3 (bad3 ((allV l num).any fun f => f.2.1 != 2)) (fAll ((dsV l num).map fun b => f3 (fieldsP b).2 (F (fieldsP b).1)))
def valueC (l:List Fld):ValD:=((nameP l 1).1,(wholeP (inL (inL l 2) 1) 1).1,(dsV (inL (inL (inL l 2) 1) 2) 1).map dimC)
def valueCF (l:List Fld):F3 :=
 f3 (f3 (f3 (f3 (f3 (f3 (f3 (f3 (f3 (f3 (inF l 2) (bad3 (!inIs l 2))) (inF (inL l 2) 1)) (odd3 (!inIs (inL l 2) 1))) (inF (inL (inL l 2) 1) 2)) (odd3 (!inIs (inL (inL l 2) 1) 2))) (nameP l 1).2) (wholeP (inL (inL l 2) 1) 1).2)
  (f3 (bad3 ((allV (inL (inL (inL l 2) 1) 2) 1).any fun f => f.2.1 != 2)) (fAll ((dsV (inL (inL (inL l 2) 1) 2) 1).map fun b => f3 (fieldsP b).2 (dimCF b))))) (odd3 (widthV (wholeP (inL (inL l 2) 1) 1).1 == 0))) (dimsP ((dsV (inL (inL (inL l 2) 1) 2) 1).map dimC)).2
def attrC (l:List Fld):AttrD :=
 let k:=(wholeP l 20).1
 let t:TenD:=if inIs l 5 = true then (tensorC (inL l 5)).2 else noTen
 if k = 1 then ((nameP l 1).1,1,(lastF l 2 5).1.2.2.1 % 4294967296,0,[],noTen,[],[])
 else if k = 2 then ((nameP l 1).1,2,0,(wholeP l 3).1,[],noTen,[],[])
 else if k = 3 then ((nameP l 1).1,3,0,0,(textP l 4).1,noTen,[],[])
 else if k = 4 then ((nameP l 1).1,4,0,0,[],t,[],[])
 else if k = 6 then ((nameP l 1).1,6,0,0,[],noTen,(floatsP l 7).1,[])
 else if k = 7 then ((nameP l 1).1,7,0,0,[],noTen,[],(intsP l 8).1)
 else ([],0,0,0,[],noTen,[],[])
def attrCF (l:List Fld):F3 :=
 f3 (f3 (f3 (f3 (f3 (f3 (f3 (f3 (f3 (f3 (f3 (f3 (f3 (f3 (nameP l 1).2 (wholeP l 20).2) (lastF l 2 5).2) (wholeP l 3).2) (textP l 4).2) (floatsP l 7).2) (intsP l 8).2) (big3 (decide (4096 < (textP l 4).1.length)))) (big3 (decide (4096 < (floatsP l 7).1.length)))) (big3 (decide (4096 < (intsP l 8).1.length)))) (inF l 5)) (bad3 (!inIs l 5 && (wholeP l 20).1 == 4))) (if inIs l 5 = true then tensorCF (inL l 5) else no3)) (odd3 (!kindB (wholeP l 20).1))) (bad3 ((wholeP l 20).1 == 0))
def nameF (l:List Fld) (num:Int):F3:=f3 (bad3 ((allV l num).any fun f => f.2.1 != 2)) (fAll ((dsV l num).map fun b => big3 (decide (256 < b.length))))
def nodeC (l:List Fld):NodeD:=((nameP l 4).1,(nameP l 3).1,dsV l 1,dsV l 2,(dsV l 5).map fun b => attrC (fieldsP b).1)
def nodeCF (l:List Fld):F3 :=
 f3 (f3 (f3 (f3 (f3 (f3 (f3 (f3 (f3 (f3 (nameP l 4).2 (nameP l 3).2) (nameF l 1)) (nameF l 2)) (msF l 5 attrCF)) (bad3 (decide ((nameP l 4).1 = [])))) (textP l 7).2) (odd3 (!oursB (textP l 7).1))) (big3 (decide (64 < (dsV l 1).length)))) (big3 (decide (64 < (dsV l 2).length)))) (big3 (decide (64 < (dsV l 5).length)))
def graphC (l:List Fld):ModelD:=(17,(nameP l 2).1,(dsV l 1).map (fun b => nodeC (fieldsP b).1),(dsV l 5).map (fun b => tensorC (fieldsP b).1),(dsV l 11).map (fun b => valueC (fieldsP b).1),(dsV l 12).map (fun b => valueC (fieldsP b).1))
def graphCF (l:List Fld):F3 :=
 f3 (f3 (f3 (f3 (f3 (f3 (f3 (f3 (f3 (f3 (bad3 ((lastV l 15 2).2.2 != 0)) (odd3 (lastV l 15 2).2.1)) (nameP l 2).2) (msF l 1 nodeCF)) (msF l 5 tensorCF)) (msF l 11 valueCF)) (msF l 12 valueCF)) (big3 (decide (1024 < (dsV l 1).length)))) (big3 (decide (1024 < (dsV l 5).length)))) (big3 (decide (64 < (dsV l 11).length)))) (big3 (decide (64 < (dsV l 12).length)))
def setCF (l:List Fld):F3:=f3 (textP l 1).2 (wholeP l 2).2
def modelCF (l:List Fld):F3:=f3 (f3 (f3 (f3 (f3 (wholeP l 1).2 (msF l 8 setCF)) (odd3 (!(versF 0 (dsV l 8) == 17)))) (inF l 7)) (bad3 (!inIs l 7))) (graphCF (inL l 7))
def decodeF (b:List Int):F3:=f3 (fieldsP b).2 (modelCF (fieldsP b).1)
theorem last_no (l:List Fld) (num:Int):bad3 ((lastV l num 2).2.2 != 0) = no3 ↔ (eachP l num l.length).2 = no3:=by
 have hl:¬ l.length < (allV l num).length:=by
  have:=List.length_filter_le (fun f:Fld => f.1 == num) l
  unfold allV; omega
 unfold eachP lastV
 simp only
 rw [no_iff,no_bad,no_bad,no_big]
 by_cases h:(allV l num).any (fun f => f.2.1 != 2) = true
 ·simp [h]
 ·rw [if_neg h]
  simp only [Bool.not_eq_true] at h
  split <;> simp [h,hl]
theorem last_is {l:List Fld} {num:Int} (h:(lastV l num 2).2.2 = 0):(lastV l num 2).2.1 = decide (0 < (allV l num).length) ∧ (0 < (allV l num).length → (lastV l num 2).1 = (allV l num).getD ((allV l num).length - 1) noFld):=by
 unfold lastV at h ⊢
 by_cases h1:(allV l num).any (fun f => f.2.1 != 2) = true
 ·rw [if_pos h1] at h; exact absurd h (by decide)
 ·rw [if_neg h1]
  by_cases h2:(allV l num).length = 0
  ·rw [if_pos h2]; simp [h2]
  ·rw [if_neg h2]; simp; omega
theorem ds_each (l:List Fld) (num:Int) (most:Nat):(eachP l num most).1 = dsV l num:=rfl
theorem ds_len (l:List Fld) (num:Int):(dsV l num).length = (allV l num).length:=by unfold dsV; rw [List.length_map]
theorem width_known (k:Int):(widthV k == 0) = !knownB k:=by
 unfold widthV knownB
 by_cases h1:k = 1
 ·subst h1; rfl
 by_cases h7:k = 7
 ·subst h7; rfl
 by_cases h9:k = 9
 ·subst h9; rfl
 rw [if_neg h1,if_neg h7,if_neg h9]
 have e1:(k == 1) = false:=by simpa using h1
 have e7:(k == 7) = false:=by simpa using h7
 have e9:(k == 9) = false:=by simpa using h9
 rw [e1,e7,e9]; rfl
theorem at1 {rw:List Int} (h:isB rw) (i:Nat):0 ≤ atP 1 rw i ∧ atP 1 rw i < 256:=by
 unfold atP
 have hb:=isB_take (isB_drop h (i * 1)) 1
 have hl:((rw.drop (i * 1)).take 1).length ≤ 1:=by rw [List.length_take]; omega
 generalize (rw.drop (i * 1)).take 1 = s at hb hl
 match s,hb,hl with
 | [],_,_ => simp [leV]
 | [c],hb,_ => have:=hb c (by simp); simp [leV]; omega
 | _ :: _ :: _,_,hl => simp at hl
theorem i64_small {x:Int} (h0:0 ≤ x) (h1:x < 256):i64w x = x:=by
 unfold i64w
 rw [IntKind.wrap_i64]
 omega
theorem truths_iff {l:List Int}:truthsOK l = true ↔ l.any (fun x => x != 0 && x != 1) = false:=by
 unfold truthsOK
 cases l.any (fun x => x != 0 && x != 1) <;> simp
theorem elem_eq {l:List Fld} (hl:OkL l) {t n:Int} (hk:knownB t = true) (hn:0 ≤ n) (h9:(lastV l 9 2).2.2 = 0) :
  ((f3 (floatsP l 4).2 (f3 (intsP l 5).2 (intsP l 7).2) = no3 ∧ (stE t n (floatsP l 4).1 (intsP l 5).1 (intsP l 7).1 (lastV l 9 2).1.2.2.2 (lastV l 9 2).2.1).2 = true) ↔ (elementsP t n l).2 = no3) ∧
   ((elementsP t n l).2 = no3 → (stE t n (floatsP l 4).1 (intsP l 5).1 (intsP l 7).1 (lastV l 9 2).1.2.2.2 (lastV l 9 2).2.1).1 = (t,[],(elementsP t n l).1)):=by
 obtain ⟨i1,i2⟩:=last_is h9
 have hB:isB (lastV l 9 2).1.2.2.2:=(last_ok hl 9 2).2.2
 unfold elementsP
 simp only
 generalize floatsP l 4 = f
 generalize intsP l 5 = s
 generalize intsP l 7 = u
 by_cases hr:0 < (allV l 9).length
 ·rw [if_pos hr,i1,decide_eq_true hr,← i2 hr]
  generalize (lastV l 9 2).1.2.2.2 = rw at hB
  unfold stE
  rw [if_pos rfl]
  by_cases ha:0 < f.1.length + s.1.length + u.1.length
  ·rw [if_pos (.inl ha)]
   simp only [no_iff,no_bad,decide_eq_true ha]
   simp
  ·rw [decide_eq_false ha]
   have hz:(0 < f.1.length + s.1.length + u.1.length ∨ (rw.length:Int) ≠ n * widthV t) ↔ ¬ (rw.length:Int) = n * widthV t:=⟨fun h => h.elim (fun x => absurd x ha) id,.inr⟩
   rcases known_cases hk with rfl | rfl | rfl
   ·have hw:widthV 1 = 4:=rfl
    have hs:((sizeP 1:Nat):Int) = 4:=rfl
    rw [hw] at hz
    rw [hw]
    unfold rawP
    rw [hs]
    by_cases he:(rw.length:Int) = n * 4
    ·rw [if_neg (by rw [hz]; exact fun h => h he),if_pos he]
     rw [if_pos rfl,if_pos rfl,List.map_map]
     simp only [no_iff,no_bad]
     exact ⟨by simp [no3],fun _ => rfl⟩
    ·rw [if_pos (by rw [hz]; exact he),if_neg he]
     simp only [no_iff,no_bad]
     simp
   ·have hw:widthV 7 = 8:=rfl
    have hs:((sizeP 7:Nat):Int) = 8:=rfl
    rw [hw] at hz
    rw [hw]
    unfold rawP
    rw [hs]
    by_cases he:(rw.length:Int) = n * 8
    ·rw [if_neg (by rw [hz]; exact fun h => h he),if_pos he]
     rw [if_neg (by decide),if_pos rfl,if_neg (by decide),if_pos rfl,List.map_map]
     simp only [no_iff,no_bad]
     exact ⟨by simp [no3],fun _ => rfl⟩
    ·rw [if_pos (by rw [hz]; exact he),if_neg he]
     simp only [no_iff,no_bad]
     simp
   ·have hw:widthV 9 = 1:=rfl
    have hs:((sizeP 9:Nat):Int) = 1:=rfl
    rw [hw] at hz
    rw [hw]
    unfold rawP
    rw [hs]
    by_cases he:(rw.length:Int) = n * 1
    ·rw [if_neg (by rw [hz]; exact fun h => h he),if_pos he]
     rw [if_neg (by decide),if_neg (by decide),if_neg (by decide),if_neg (by decide)]
     simp only [no_iff,no_bad]
     have hx:(List.range n.toNat).map (fun i => i64w (atP 1 rw i)) = (List.range n.toNat).map (atP (sizeP 9) rw):=List.map_congr_left (fun i _ => i64_small (at1 hB i).1 (at1 hB i).2)
     rw [hx]
     have hp:∀ x ∈ (List.range n.toNat).map (atP (sizeP 9) rw),0 ≤ x ∧ x < 256:=fun x hx => by
      obtain ⟨i,_,rfl⟩:=List.mem_map.1 hx
      exact at1 hB i
     generalize (List.range n.toNat).map (atP (sizeP 9) rw) = xs at hp
     have hq:truthsOK xs = true ↔ xs.any (fun x => decide (1 < x)) = false:=by
      rw [truths_iff]
      simp only [List.any_eq_false]
      constructor
      ·intro h x hx
       have:=h x hx
       have:=hp x hx
       simp at *
       omega
      ·intro h x hx
       have:=h x hx
       have:=hp x hx
       simp at *
       omega
     refine ⟨by rw [hq]; simp,fun h => ?_⟩
     have h1:truthsOK xs = true:=hq.2 h.2.2
     unfold trV
     rw [if_pos h1]
    ·rw [if_pos (by rw [hz]; exact he),if_neg he]
     simp only [no_iff,no_bad]
     simp
 ·rw [if_neg hr,i1,decide_eq_false hr]
  generalize (lastV l 9 2).1.2.2.2 = rw at hB
  unfold stE
  rw [if_neg (by decide)]
  rcases known_cases hk with rfl | rfl | rfl
  ·rw [if_pos rfl,if_pos rfl]
   simp only [no_iff,no_bad,decide_eq_true_eq,decide_eq_false_iff_not]
   refine ⟨⟨fun h => ⟨h.1,by have:=h.2; omega⟩,fun h => ⟨h.1,by have:=h.2; omega⟩⟩,fun _ => by trivial⟩
  ·rw [if_neg (by decide),if_pos rfl,if_neg (by decide),if_pos rfl]
   simp only [no_iff,no_bad,decide_eq_true_eq,decide_eq_false_iff_not]
   refine ⟨⟨fun h => ⟨h.1,by have:=h.2; omega⟩,fun h => ⟨h.1,by have:=h.2; omega⟩⟩,fun _ => by trivial⟩
  ·rw [if_neg (by decide),if_neg (by decide),if_neg (by decide),if_neg (by decide)]
   unfold boolsP
   simp only [no_iff,no_bad,decide_eq_true_eq,decide_eq_false_iff_not,← truths_iff]
   refine ⟨⟨fun h => ⟨h.1,h.2.1,by have:=h.2.2; omega⟩,fun h => ⟨h.1,h.2.1,by have:=h.2.2; omega⟩⟩,fun h => ?_⟩
   unfold trV
   rw [if_pos h.2.1]
theorem dims_no (d:List Int):(dimsP d).2 = no3 ↔ (countV d).2 = 0:=by
 unfold dimsP
 simp only [no_iff,no_bad,no_big]
 rcases count_cases d with h | h | h <;> simp [h]
theorem len_ds (l:List Fld) (num:Int):(eachP l num l.length).1.length = (allV l num).length:=by unfold eachP; simp
theorem last_none2 {l:List Fld} {num:Int} (h:(lastV l num 2).2.2 = 0):(lastV l num 2).2.1 = false ↔ (allV l num).length = 0:=by
 rw [(last_is h).1]; simp
theorem tensor_eq {b:List Int} (hb:isB b):(f3 (fieldsP b).2 (tensorCF (fieldsP b).1) = no3 ↔ (tensorP b).2 = no3) ∧ ((tensorP b).2 = no3 → tensorC (fieldsP b).1 = (tensorP b).1):=by
 have hl:=fields_ok hb
 unfold tensorP
 simp only
 generalize fieldsP b = F at hl
 obtain ⟨l,fb⟩:=F
 simp only at hl ⊢
 have hd:(dimsP (intsP l 1).1).1.1 = (intsP l 1).1:=rfl
 have hd2:(dimsP (intsP l 1).1).1.2 = ((countV (intsP l 1).1).2 == 0):=rfl
 have hon:tensorOn l = ((dimsP (intsP l 1).1).1.2 && knownB (wholeP l 2).1):=by
  unfold tensorOn
  rw [hd2,bne,width_known,Bool.not_not]
 have hnc:0 ≤ (countV (intsP l 1).1).1:=countV_pos _
 have base:(f3 fb (tensorBF l) = no3 ∧ knownB (wholeP l 2).1 = true ∧ (countV (intsP l 1).1).2 = 0 ∧ (lastV l 9 2).2.2 = 0 ∧ f3 (floatsP l 4).2 (f3 (intsP l 5).2 (intsP l 7).2) = no3) ↔ (knownB (wholeP l 2).1 = true ∧ (countV (intsP l 1).1).2 = 0 ∧ fAll [fb,(intsP l 1).2,(dimsP (intsP l 1).1).2,(wholeP l 2).2,bad3 ((wholeP l 2).1 == 0),odd3 ((wholeP l 2).1 != 0 && !knownB (wholeP l 2).1),(eachP l 3 l.length).2,(if 0 < (eachP l 3 l.length).1.length then no3 else (wholeP l 14).2),odd3 (decide (0 < (eachP l 3 l.length).1.length) || (wholeP l 14).1 != 0),(nameP l 8).2,(eachP l 9 l.length).2,(floatsP l 4).2,(intsP l 5).2,(intsP l 7).2] = no3):=by
  unfold tensorBF storedF
  simp only [no_iff,no_cons,no_nil,and_true,← last_no,dims_no,width_known,len_ds]
  simp only [no_bad,no_odd,bne_eq_false_iff_eq]
  constructor
  ·rintro ⟨⟨h0,⟨⟨⟨⟨⟨⟨⟨⟨⟨h1,h2⟩,h3⟩,h4⟩,h5⟩,h6⟩,h7⟩,h8⟩,h9⟩,h10⟩,⟨⟨h11,h12⟩,h13⟩,h14⟩,k1,k2,k3,k4,k5,k6⟩
   have e3:=(last_none2 h4).1 h5
   refine ⟨k1,k2,h0,h9,h10,h1,h2,?_,h4,?_,?_,h8,h11,h12,h13,h14⟩
   ·rw [k1]; simp
   ·rw [e3]; simpa using h6
   ·rw [e3]; simp [h7]
  ·rintro ⟨k1,k2,h0,h9,h10,h1,h2,h3,h4,h6,h7,h8,h11,h12,h13,h14⟩
   have e3:(allV l 3).length = 0:=by
    rw [Bool.or_eq_false_iff] at h7
    have:=h7.1
    simp at this
    rw [this]; rfl
   rw [e3] at h6 h7
   have h7':(wholeP l 14).1 = 0:=by simpa using h7
   refine ⟨⟨h0,⟨⟨⟨⟨⟨⟨⟨⟨⟨h1,h2⟩,by rw [k1]; rfl⟩,h4⟩,(last_none2 h4).2 e3⟩,by simpa using h6⟩,h7'⟩,h8⟩,h9⟩,h10⟩,⟨⟨h11,h12⟩,h13⟩,h14⟩,k1,k2,h11,h12,h13,h14⟩
 by_cases hc:((dimsP (intsP l 1).1).1.2 && knownB (wholeP l 2).1) = true
 ·have hc2:=hc
  rw [hd2,Bool.and_eq_true,beq_iff_eq] at hc2
  obtain ⟨c1,c2⟩:=hc2
  rw [if_pos hc]
  unfold tensorCF
  rw [if_pos (by rw [hon]; exact hc),hd]
  simp only
  have E:=fun h9 => elem_eq hl (t:=(wholeP l 2).1) (n:=(countV (intsP l 1).1).1) c2 hnc h9
  constructor
  ·rw [← f3_assoc,no_iff,no_iff (fAll _),no_bad]
   constructor
   ·rintro ⟨h1,h2⟩
    have h9:(lastV l 9 2).2.2 = 0:=by
     unfold tensorBF storedF at h1
     simp only [no_iff,no_bad,bne_eq_false_iff_eq] at h1
     exact h1.2.2.1.1.1
    have hf:f3 (floatsP l 4).2 (f3 (intsP l 5).2 (intsP l 7).2) = no3:=by
     unfold tensorBF storedF at h1
     simp only [no_iff] at h1 ⊢
     exact ⟨h1.2.2.1.1.2,h1.2.2.1.2,h1.2.2.2⟩
    exact ⟨(base.1 ⟨h1,c2,c1,h9,hf⟩).2.2,(E h9).1.1 ⟨hf,by unfold stL at h2; simpa using h2⟩⟩
   ·rintro ⟨h1,h2⟩
    obtain ⟨b1,_,_,b4,b5⟩:=base.2 ⟨c2,c1,h1⟩
    refine ⟨b1,?_⟩
    have:=((E b4).1.2 h2).2
    unfold stL
    rw [this]; rfl
  ·intro h
   rw [no_iff] at h
   obtain ⟨_,_,_,b4,_⟩:=base.2 ⟨c2,c1,h.1⟩
   have:=(E b4).2 h.2
   unfold tensorC stL
   rw [this]
 ·rw [if_neg hc]
  simp only
  have no1:¬ f3 fb (tensorCF l) = no3:=fun h => hc (by
   unfold tensorCF tensorBF at h
   simp only [no_iff,no_odd,dims_no,width_known] at h
   have a1:=h.2.1.1.2
   have a2:=h.2.1.1.1.1.1.1.1.1.1.2
   rw [hd2,a1]
   simpa using a2)
  have no2:¬ fAll [fb,(intsP l 1).2,(dimsP (intsP l 1).1).2,(wholeP l 2).2,bad3 ((wholeP l 2).1 == 0),odd3 ((wholeP l 2).1 != 0 && !knownB (wholeP l 2).1),(eachP l 3 l.length).2,(if 0 < (eachP l 3 l.length).1.length then no3 else (wholeP l 14).2),odd3 (decide (0 < (eachP l 3 l.length).1.length) || (wholeP l 14).1 != 0),(nameP l 8).2,(eachP l 9 l.length).2,(floatsP l 4).2,(intsP l 5).2,(intsP l 7).2] = no3:=fun h => hc (by
   simp only [no_cons,no_odd,no_bad,dims_no] at h
   obtain ⟨_,_,a1,_,a2,a3,_⟩:=h
   rw [hd2,a1]
   have a4:((wholeP l 2).1 != 0) = true:=by rw [bne,a2]; rfl
   rw [a4] at a3
   simpa using a3)
  exact ⟨⟨fun h => absurd h no1,fun h => absurd h no2⟩,fun h => absurd h no2⟩
end Go.Proofs.YtmdlaahdgjegcaaGreat
