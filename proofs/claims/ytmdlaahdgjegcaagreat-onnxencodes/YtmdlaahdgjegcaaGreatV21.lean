import Derived.Test.YtmdlaahdgjegcaaGreatV05
import Derived.Test.YtmdlaahdgjegcaaGreatV08
import Derived.Test.YtmdlaahdgjegcaaGreatV10
import Derived.Test.YtmdlaahdgjegcaaGreatV12
import Derived.Test.YtmdlaahdgjegcaaGreatV20
set_option maxRecDepth 100000
set_option maxHeartbeats 8000000
namespace Go.Proofs.YtmdlaahdgjegcaaGreat
open Go.RowKit
set_option linter.unusedVariables false
def u8c (x:Int):List Value:=[.int .u8 x]
theorem u8Wd:Wd 1 u8c:=⟨by decide,fun _ => rfl,fun a u hu => by simp [u8c] at hu; subst hu; rfl⟩
theorem flat_one {α:Type} (f:α → Value) (l:List α):l.flatMap (fun x => [f x]) = l.map f:=by
 induction l with
 | nil => rfl
 | cons a r ih => rw [List.flatMap_cons,List.map_cons,ih]; rfl
theorem own_u8 {w w':World} {v:Value} {l:List Int} (h:OwnR 5 1 u8c w w' v l):OwnG 5 (Value.int .u8) w w' v l:=by
 obtain ⟨h1,h2⟩:=h
 rw [show l.flatMap u8c = l.map (Value.int .u8) from flat_one _ l] at h1
 exact ⟨h1,h2⟩
theorem cwide7_any (x:Int) (k:Nat) (w:World) (h0:0 ≤ x) (h1:x < 18446744073709551616) (hk:k ≤ 8) :
  Calls Tryz.prog 216 #[.int .u64 x,.int .i64 k] w fun e w' => ∃ v,e = .returned v ∧ OwnG 5 (Value.int .u8) w w' v (fxL x k):=by
 obtain ⟨i1,hi1,y1,z1,b1⟩:=info_parts Tryz.infoU8
 go_enter Tryz.func216,Tryz.ntmps216
 go_wp2_with (at_make; (refine wpList_make_full _ rfl _ _ 22 rfl w.heap.size 5 i1 (.int .u8 0) 1 Tryz.underlying22 hi1 y1 z1 _ _ _ _ k rfl rfl (by omega) (by omega) (by rw [b1]; omega) (by unfold maxLen; omega) (Nat.le_refl _) ?_; intro w1 hown hgrow; have HM:=hide (Mrow.made u8Wd (0:Int) rfl hown); have HB:=hide ((Below.refl w.heap.size w).grown hgrow (Nat.le_refl _) (fun k hk => by cases hk)); clear hown hgrow))
 go_loopw [11] (fun iv wr => ∃ n:Nat,iv = .int .i64 n ∧ n ≤ k ∧ Hid (Mrow 5 u8c wr w.heap.size (fxL x n ++ List.replicate (k - n) 0)) ∧ Hid (Below w.heap.size w wr)) (fun iv _ => k - (intOf iv).toNat)
 case atStart => exact ⟨0,rfl,by omega,hide (by rw [fxL,List.nil_append]; exact uh HM),HB⟩
 case round =>
  obtain ⟨n,rfl,hn,M,B⟩:=hrel
  by_cases hlt:n < k
  ·have hi:(n:Int) < (k:Int):=by omega
   obtain ⟨m,hm⟩:∃ m,k - n = m + 1:=⟨k - n - 1,by omega⟩
   rw [hm] at M
   have hl:(fxL x n ++ List.replicate (m + 1) (0:Int)).length = k:=by rw [List.length_append,fxL_length,List.length_replicate]; omega
   have M2:=hide (Mrow.set u8Wd (uh M) (x / 256 ^ n % 256) (i:=n) (by omega))
   have e1:(fxL x n ++ List.replicate (m + 1) (0:Int)).set n (x / 256 ^ n % 256) = fxL x (n + 1) ++ List.replicate m 0:=by
    have:=set_mid (fxL x n) m (0:Int) (x / 256 ^ n % 256)
    rw [fxL_length] at this
    rw [this,fxL]
   rw [e1,Nat.mul_one] at M2
   have c1:wr.cell? ⟨w.heap.size,n,none⟩ = some (.int .u8 ((fxL x n ++ List.replicate (m + 1) (0:Int)).getD n 0)):=by
    have:=Mrow.at u8Wd (z:=(0:Int)) (uh M) (i:=n) (j:=0) (by omega) rfl
    simpa using this
   have f1:=(uh M).frozen n
   have hs:w.heap.size < wr.heap.size:=lt_of_block (uh M)
   generalize (fxL x n ++ List.replicate (m + 1) (0:Int)).getD n 0 = c0 at c1
   have B2:=hide (setMany_below (u8c (x / 256 ^ n % 256)) wr w.heap.size n (uh B) (Nat.le_refl _))
   clear e1 hl M
   have hp:(2:Int) ^ (8 * n) = 256 ^ n:=by rw [Int.pow_mul]; rfl
   go_wp2_with fail
   go_roundw
   case rel => exact ⟨n + 1,by go_num,by omega,by rw [show k - (n + 1) = m by omega]; exact M2,B2⟩
   case measure => simp [intOf]; omega
  ·have hi:¬ (n:Int) < (k:Int):=by omega
   have en:n = k:=by omega
   subst en
   rw [Nat.sub_self,List.replicate_zero,List.append_nil] at M
   have HO:=hide (own_u8 (Mrow.own u8Wd (uh M) (Nat.le_refl _) (by rw [fxL_length]; unfold maxLen; omega) (uh B)))
   rw [fxL_length] at HO
   clear M
   go_wp2_with fail
   go_ret
   exact ⟨_,rfl,uh HO⟩
theorem cfloatB_any (x:Int) (w:World) (h0:0 ≤ x) (h1:x < 4294967296) :
  Calls Tryz.prog 211 #[.int .u32 x] w fun e w' => ∃ v,e = .returned v ∧ OwnG 5 (Value.int .u8) w w' v (fxL x 4):=by
 have C1:=hide (cwidth_any 1 w)
 have C2:Hid (Calls Tryz.prog 216 #[.int .u64 x,.int .i64 4] w fun e w' => ∃ v,e = .returned v ∧ OwnG 5 (Value.int .u8) w w' v (fxL x 4)):=hide (cwide7_any x 4 w h0 (by omega) (by omega))
 have hx:IntKind.u64.wrap x = x:=by rw [IntKind.wrap_u64]; omega
 rw [show widthV 1 = 4 from rfl] at C1
 go_enter Tryz.func211,Tryz.ntmps211
 go_wp2_with fail
 refine (uh C1).mono ?_
 rintro e v ⟨rfl,hv⟩
 replace hv:=hv.symm
 subst hv
 go_wp2_with fail
 try rw [hx]
 refine (uh C2).mono ?_
 rintro e v ⟨r,rfl,hO⟩
 have HO:=hide hO
 clear hO
 go_wp2_with fail
 go_ret
 exact ⟨_,rfl,uh HO⟩
theorem cintB_any (x:Int) (w:World) :
  Calls Tryz.prog 215 #[.int .i64 x] w fun e w' => ∃ v,e = .returned v ∧ OwnG 5 (Value.int .u8) w w' v (fxL (u64w x) 8):=by
 obtain ⟨u0,u1⟩:=u64w_rng x
 have C1:=hide (cwidth_any 7 w)
 have C2:Hid (Calls Tryz.prog 216 #[.int .u64 (u64w x),.int .i64 8] w fun e w' => ∃ v,e = .returned v ∧ OwnG 5 (Value.int .u8) w w' v (fxL (u64w x) 8)):=hide (cwide7_any (u64w x) 8 w u0 u1 (by omega))
 have hx:IntKind.u64.wrap x = u64w x:=rfl
 generalize u64w x = X at C2 hx ⊢
 rw [show widthV 7 = 8 from rfl] at C1
 go_enter Tryz.func215,Tryz.ntmps215
 go_wp2_with fail
 refine (uh C1).mono ?_
 rintro e v ⟨rfl,hv⟩
 replace hv:=hv.symm
 subst hv
 go_wp2_with fail
 try rw [hx]
 refine (uh C2).mono ?_
 rintro e v ⟨r,rfl,hO⟩
 have HO:=hide hO
 clear hO
 go_wp2_with fail
 go_ret
 exact ⟨_,rfl,uh HO⟩
theorem own_lit {w:World} {x:Int}:OwnG 5 (Value.int .u8) w (w.alloc (Obj.cells #[.int .u8 x] 5)) (.slice (some ⟨w.heap.size,0,none⟩) 1 1) [x] :=
 own_u8 (Mrow.own u8Wd (xs:=[x]) (show Mrow 5 u8c _ _ _ from Box.new w _ _) (Nat.le_refl _) (by unfold maxLen; simp) (al1p _ _))
theorem ctruthB_any (x:Bool) (w:World) :
  Calls Tryz.prog 218 #[.bool x] w fun e w' => ∃ v,e = .returned v ∧ OwnG 5 (Value.int .u8) w w' v [bit7 x]:=by
 have HO:=hide (fun x => own_lit (w:=w) (x:=x))
 cases x
 ·go_enter Tryz.func218,Tryz.ntmps218
  go_wp2_with fail
  go_ret
  exact ⟨_,rfl,uh HO 0⟩
 ·go_enter Tryz.func218,Tryz.ntmps218
  go_wp2_with fail
  go_ret
  exact ⟨_,rfl,uh HO 1⟩
theorem cvarIint_any (x:Int) (w:World) :
  Calls Tryz.prog 156 #[.int .i64 x] w fun e w' => ∃ v,e = .returned v ∧ OwnG 5 (Value.int .u8) w w' v (varV (u64w x)):=by
 obtain ⟨u0,u1⟩:=u64w_rng x
 have C2:=hide (cvarint_any (u64w x) w u0 u1)
 have hx:IntKind.u64.wrap x = u64w x:=rfl
 generalize u64w x = X at C2 hx ⊢
 generalize varV X = V at C2 ⊢
 go_enter Tryz.func156,Tryz.ntmps156
 go_wp2_with fail
 try rw [hx]
 refine (uh C2).mono ?_
 rintro e v ⟨r,rfl,hO⟩
 have HO:=hide hO
 clear hO
 go_wp2_with fail
 go_ret
 exact ⟨_,rfl,uh HO⟩
theorem cvarIint64_any (x:Int) (w:World) :
  Calls Tryz.prog 213 #[.int .i64 x] w fun e w' => ∃ v,e = .returned v ∧ OwnG 5 (Value.int .u8) w w' v (varV (u64w x)):=by
 obtain ⟨u0,u1⟩:=u64w_rng x
 have C2:=hide (cvarint_any (u64w x) w u0 u1)
 have hx:IntKind.u64.wrap x = u64w x:=rfl
 generalize u64w x = X at C2 hx ⊢
 generalize varV X = V at C2 ⊢
 go_enter Tryz.func213,Tryz.ntmps213
 go_wp2_with fail
 try rw [hx]
 refine (uh C2).mono ?_
 rintro e v ⟨r,rfl,hO⟩
 have HO:=hide hO
 clear hO
 go_wp2_with fail
 go_ret
 exact ⟨_,rfl,uh HO⟩
theorem claidint_any (K:FuncId) (hK:Ent K) (F:Int → List Int) (hF:∀ x,(F x).length ≤ 10) (p:Option Addr) (c:Nat) (l:List Int) (w:World) (h:Ls (Value.int .i64) w p c l) (hs:l.length ≤ 10000000000)
  (H:∀ v,∀ x ∈ l,Calls Tryz.prog K #[(Value.int .i64) x] v fun e w' => ∃ r,e = .returned r ∧ OwnG 5 (Value.int .u8) v w' r (F x)) :
  Calls Tryz.prog 155 #[.slice p l.length c,.func (.func K) #[] #[]] w fun e w' => ∃ v,e = .returned v ∧ OwnG 5 (Value.int .u8) w w' v (l.flatMap F):=by
 obtain ⟨i1,hi1,y1,z1,b1⟩:=info_parts Tryz.infoU8
 have hk:∀ (args:Array Value) (v:World),(callFunc K args).run Tryz.prog v = .ok (.enter K args) v:=hK
 have A1:=hide h
 have HH:=hide H
 have nl:=h.len
 clear h H hK
 go_enter Tryz.func155,Tryz.ntmps155
 go_wp2_with fail
 go_loopw [5,10] (fun v iv wr => ∃ n:Nat,iv = .int .i64 n ∧ n ≤ l.length ∧ ((l.take n).flatMap F).length ≤ n * 10 ∧ Hid (OwnG 5 (Value.int .u8) w wr v ((l.take n).flatMap F))) (fun _ iv _ => l.length - (intOf iv).toNat)
 case atStart => exact ⟨0,rfl,by omega,by simp,hide (OwnG.nil _ _ _ (Below.refl _ _))⟩
 case round =>
  obtain ⟨n,rfl,hn,hln,O⟩:=hrel
  by_cases hlt:n < l.length
  ·have hi:(n:Int) < (l.length:Int):=by omega
   obtain ⟨b,o,rfl,hb,hc⟩:=((uh A1).below (uh O).2).lies (by omega)
   have k1:wr.cell? ⟨b,o + n,none⟩ = some ((Value.int .i64) (l.getD n default)):=hc n hlt
   have HX:=hide (fun v => uh HH v (l.getD n default) (getD_mem7 hlt))
   have HT:Hid ((l.take (n + 1)).flatMap F = (l.take n).flatMap F ++ F (l.getD n default)):=hide (by
    rw [List.take_add_one,List.flatMap_append,List.getD_eq_getElem?_getD,List.getElem?_eq_getElem hlt]; simp)
   have hfl:=hF (l.getD n default)
   generalize F (l.getD n default) = V at HX HT hfl
   generalize l.getD n default = x at k1 HX
   obtain ⟨Q,hQ⟩:∃ Q,(l.take n).flatMap F = Q:=⟨_,rfl⟩
   rw [hQ] at O HT hln
   clear hc hQ
   go_wp2_with fail
   refine (uh HX _).mono ?_
   rintro e w1 ⟨r,rfl,hO⟩
   obtain ⟨q1,d1,rfl,hl1,_⟩:=hO.form
   have L1:=hide hl1
   have O1:=hide ((uh O).below hO.2)
   clear hO hl1 HX O
   go_wp2_with (at_builtin; (refine wpList_append_ls rfl _ _ 22 rfl w 5 i1 (.int .u8 0) 1 Tryz.underlying22 hi1 y1 z1 b1 rfl (int_one .u8) _ Q rfl (uh O1) q1 d1 V rfl (uh L1) (by unfold maxLen; omega) (by omega) ?_; intro v2 w2 O2; rw [← uh HT] at O2; have HO2:=hide O2; clear O2))
   have hl2:((l.take (n + 1)).flatMap F).length ≤ (n + 1) * 10:=by rw [uh HT,List.length_append]; omega
   go_roundw
   case rel => exact ⟨n + 1,by go_num,by omega,hl2,HO2⟩
   case measure => simp [intOf]; omega
  ·have hi:¬ (n:Int) < (l.length:Int):=by omega
   rw [List.take_of_length_le (by omega)] at O
   go_wp2_with fail
   go_ret
   exact ⟨_,rfl,uh O⟩
theorem claidint64_any (K:FuncId) (hK:Ent K) (F:Int → List Int) (hF:∀ x,(F x).length ≤ 10) (p:Option Addr) (c:Nat) (l:List Int) (w:World) (h:Ls (Value.int .i64) w p c l) (hs:l.length ≤ 10000000000)
  (H:∀ v,∀ x ∈ l,Calls Tryz.prog K #[(Value.int .i64) x] v fun e w' => ∃ r,e = .returned r ∧ OwnG 5 (Value.int .u8) v w' r (F x)) :
  Calls Tryz.prog 212 #[.slice p l.length c,.func (.func K) #[] #[]] w fun e w' => ∃ v,e = .returned v ∧ OwnG 5 (Value.int .u8) w w' v (l.flatMap F):=by
 obtain ⟨i1,hi1,y1,z1,b1⟩:=info_parts Tryz.infoU8
 have hk:∀ (args:Array Value) (v:World),(callFunc K args).run Tryz.prog v = .ok (.enter K args) v:=hK
 have A1:=hide h
 have HH:=hide H
 have nl:=h.len
 clear h H hK
 go_enter Tryz.func212,Tryz.ntmps212
 go_wp2_with fail
 go_loopw [5,10] (fun v iv wr => ∃ n:Nat,iv = .int .i64 n ∧ n ≤ l.length ∧ ((l.take n).flatMap F).length ≤ n * 10 ∧ Hid (OwnG 5 (Value.int .u8) w wr v ((l.take n).flatMap F))) (fun _ iv _ => l.length - (intOf iv).toNat)
 case atStart => exact ⟨0,rfl,by omega,by simp,hide (OwnG.nil _ _ _ (Below.refl _ _))⟩
 case round =>
  obtain ⟨n,rfl,hn,hln,O⟩:=hrel
  by_cases hlt:n < l.length
  ·have hi:(n:Int) < (l.length:Int):=by omega
   obtain ⟨b,o,rfl,hb,hc⟩:=((uh A1).below (uh O).2).lies (by omega)
   have k1:wr.cell? ⟨b,o + n,none⟩ = some ((Value.int .i64) (l.getD n default)):=hc n hlt
   have HX:=hide (fun v => uh HH v (l.getD n default) (getD_mem7 hlt))
   have HT:Hid ((l.take (n + 1)).flatMap F = (l.take n).flatMap F ++ F (l.getD n default)):=hide (by
    rw [List.take_add_one,List.flatMap_append,List.getD_eq_getElem?_getD,List.getElem?_eq_getElem hlt]; simp)
   have hfl:=hF (l.getD n default)
   generalize F (l.getD n default) = V at HX HT hfl
   generalize l.getD n default = x at k1 HX
   obtain ⟨Q,hQ⟩:∃ Q,(l.take n).flatMap F = Q:=⟨_,rfl⟩
   rw [hQ] at O HT hln
   clear hc hQ
   go_wp2_with fail
   refine (uh HX _).mono ?_
   rintro e w1 ⟨r,rfl,hO⟩
   obtain ⟨q1,d1,rfl,hl1,_⟩:=hO.form
   have L1:=hide hl1
   have O1:=hide ((uh O).below hO.2)
   clear hO hl1 HX O
   go_wp2_with (at_builtin; (refine wpList_append_ls rfl _ _ 22 rfl w 5 i1 (.int .u8 0) 1 Tryz.underlying22 hi1 y1 z1 b1 rfl (int_one .u8) _ Q rfl (uh O1) q1 d1 V rfl (uh L1) (by unfold maxLen; omega) (by omega) ?_; intro v2 w2 O2; rw [← uh HT] at O2; have HO2:=hide O2; clear O2))
   have hl2:((l.take (n + 1)).flatMap F).length ≤ (n + 1) * 10:=by rw [uh HT,List.length_append]; omega
   go_roundw
   case rel => exact ⟨n + 1,by go_num,by omega,hl2,HO2⟩
   case measure => simp [intOf]; omega
  ·have hi:¬ (n:Int) < (l.length:Int):=by omega
   rw [List.take_of_length_le (by omega)] at O
   go_wp2_with fail
   go_ret
   exact ⟨_,rfl,uh O⟩
theorem claiduint32_any (K:FuncId) (hK:Ent K) (F:Int → List Int) (hF:∀ x,(F x).length ≤ 10) (p:Option Addr) (c:Nat) (l:List Int) (w:World) (h:Ls (Value.int .u32) w p c l) (hs:l.length ≤ 10000000000)
  (H:∀ v,∀ x ∈ l,Calls Tryz.prog K #[(Value.int .u32) x] v fun e w' => ∃ r,e = .returned r ∧ OwnG 5 (Value.int .u8) v w' r (F x)) :
  Calls Tryz.prog 210 #[.slice p l.length c,.func (.func K) #[] #[]] w fun e w' => ∃ v,e = .returned v ∧ OwnG 5 (Value.int .u8) w w' v (l.flatMap F):=by
 obtain ⟨i1,hi1,y1,z1,b1⟩:=info_parts Tryz.infoU8
 have hk:∀ (args:Array Value) (v:World),(callFunc K args).run Tryz.prog v = .ok (.enter K args) v:=hK
 have A1:=hide h
 have HH:=hide H
 have nl:=h.len
 clear h H hK
 go_enter Tryz.func210,Tryz.ntmps210
 go_wp2_with fail
 go_loopw [5,10] (fun v iv wr => ∃ n:Nat,iv = .int .i64 n ∧ n ≤ l.length ∧ ((l.take n).flatMap F).length ≤ n * 10 ∧ Hid (OwnG 5 (Value.int .u8) w wr v ((l.take n).flatMap F))) (fun _ iv _ => l.length - (intOf iv).toNat)
 case atStart => exact ⟨0,rfl,by omega,by simp,hide (OwnG.nil _ _ _ (Below.refl _ _))⟩
 case round =>
  obtain ⟨n,rfl,hn,hln,O⟩:=hrel
  by_cases hlt:n < l.length
  ·have hi:(n:Int) < (l.length:Int):=by omega
   obtain ⟨b,o,rfl,hb,hc⟩:=((uh A1).below (uh O).2).lies (by omega)
   have k1:wr.cell? ⟨b,o + n,none⟩ = some ((Value.int .u32) (l.getD n default)):=hc n hlt
   have HX:=hide (fun v => uh HH v (l.getD n default) (getD_mem7 hlt))
   have HT:Hid ((l.take (n + 1)).flatMap F = (l.take n).flatMap F ++ F (l.getD n default)):=hide (by
    rw [List.take_add_one,List.flatMap_append,List.getD_eq_getElem?_getD,List.getElem?_eq_getElem hlt]; simp)
   have hfl:=hF (l.getD n default)
   generalize F (l.getD n default) = V at HX HT hfl
   generalize l.getD n default = x at k1 HX
   obtain ⟨Q,hQ⟩:∃ Q,(l.take n).flatMap F = Q:=⟨_,rfl⟩
   rw [hQ] at O HT hln
   clear hc hQ
   go_wp2_with fail
   refine (uh HX _).mono ?_
   rintro e w1 ⟨r,rfl,hO⟩
   obtain ⟨q1,d1,rfl,hl1,_⟩:=hO.form
   have L1:=hide hl1
   have O1:=hide ((uh O).below hO.2)
   clear hO hl1 HX O
   go_wp2_with (at_builtin; (refine wpList_append_ls rfl _ _ 22 rfl w 5 i1 (.int .u8 0) 1 Tryz.underlying22 hi1 y1 z1 b1 rfl (int_one .u8) _ Q rfl (uh O1) q1 d1 V rfl (uh L1) (by unfold maxLen; omega) (by omega) ?_; intro v2 w2 O2; rw [← uh HT] at O2; have HO2:=hide O2; clear O2))
   have hl2:((l.take (n + 1)).flatMap F).length ≤ (n + 1) * 10:=by rw [uh HT,List.length_append]; omega
   go_roundw
   case rel => exact ⟨n + 1,by go_num,by omega,hl2,HO2⟩
   case measure => simp [intOf]; omega
  ·have hi:¬ (n:Int) < (l.length:Int):=by omega
   rw [List.take_of_length_le (by omega)] at O
   go_wp2_with fail
   go_ret
   exact ⟨_,rfl,uh O⟩
theorem claidbool_any (K:FuncId) (hK:Ent K) (F:Bool → List Int) (hF:∀ x,(F x).length ≤ 10) (p:Option Addr) (c:Nat) (l:List Bool) (w:World) (h:Ls Value.bool w p c l) (hs:l.length ≤ 10000000000)
  (H:∀ v,∀ x ∈ l,Calls Tryz.prog K #[Value.bool x] v fun e w' => ∃ r,e = .returned r ∧ OwnG 5 (Value.int .u8) v w' r (F x)) :
  Calls Tryz.prog 217 #[.slice p l.length c,.func (.func K) #[] #[]] w fun e w' => ∃ v,e = .returned v ∧ OwnG 5 (Value.int .u8) w w' v (l.flatMap F):=by
 obtain ⟨i1,hi1,y1,z1,b1⟩:=info_parts Tryz.infoU8
 have hk:∀ (args:Array Value) (v:World),(callFunc K args).run Tryz.prog v = .ok (.enter K args) v:=hK
 have A1:=hide h
 have HH:=hide H
 have nl:=h.len
 clear h H hK
 go_enter Tryz.func217,Tryz.ntmps217
 go_wp2_with fail
 go_loopw [5,10] (fun v iv wr => ∃ n:Nat,iv = .int .i64 n ∧ n ≤ l.length ∧ ((l.take n).flatMap F).length ≤ n * 10 ∧ Hid (OwnG 5 (Value.int .u8) w wr v ((l.take n).flatMap F))) (fun _ iv _ => l.length - (intOf iv).toNat)
 case atStart => exact ⟨0,rfl,by omega,by simp,hide (OwnG.nil _ _ _ (Below.refl _ _))⟩
 case round =>
  obtain ⟨n,rfl,hn,hln,O⟩:=hrel
  by_cases hlt:n < l.length
  ·have hi:(n:Int) < (l.length:Int):=by omega
   obtain ⟨b,o,rfl,hb,hc⟩:=((uh A1).below (uh O).2).lies (by omega)
   have k1:wr.cell? ⟨b,o + n,none⟩ = some (Value.bool (l.getD n default)):=hc n hlt
   have HX:=hide (fun v => uh HH v (l.getD n default) (getD_mem7 hlt))
   have HT:Hid ((l.take (n + 1)).flatMap F = (l.take n).flatMap F ++ F (l.getD n default)):=hide (by
    rw [List.take_add_one,List.flatMap_append,List.getD_eq_getElem?_getD,List.getElem?_eq_getElem hlt]; simp)
   have hfl:=hF (l.getD n default)
   generalize F (l.getD n default) = V at HX HT hfl
   generalize l.getD n default = x at k1 HX
   obtain ⟨Q,hQ⟩:∃ Q,(l.take n).flatMap F = Q:=⟨_,rfl⟩
   rw [hQ] at O HT hln
   clear hc hQ
   go_wp2_with fail
   refine (uh HX _).mono ?_
   rintro e w1 ⟨r,rfl,hO⟩
   obtain ⟨q1,d1,rfl,hl1,_⟩:=hO.form
   have L1:=hide hl1
   have O1:=hide ((uh O).below hO.2)
   clear hO hl1 HX O
   go_wp2_with (at_builtin; (refine wpList_append_ls rfl _ _ 22 rfl w 5 i1 (.int .u8 0) 1 Tryz.underlying22 hi1 y1 z1 b1 rfl (int_one .u8) _ Q rfl (uh O1) q1 d1 V rfl (uh L1) (by unfold maxLen; omega) (by omega) ?_; intro v2 w2 O2; rw [← uh HT] at O2; have HO2:=hide O2; clear O2))
   have hl2:((l.take (n + 1)).flatMap F).length ≤ (n + 1) * 10:=by rw [uh HT,List.length_append]; omega
   go_roundw
   case rel => exact ⟨n + 1,by go_num,by omega,hl2,HO2⟩
   case measure => simp [intOf]; omega
  ·have hi:¬ (n:Int) < (l.length:Int):=by omega
   rw [List.take_of_length_le (by omega)] at O
   go_wp2_with fail
   go_ret
   exact ⟨_,rfl,uh O⟩
end Go.Proofs.YtmdlaahdgjegcaaGreat
