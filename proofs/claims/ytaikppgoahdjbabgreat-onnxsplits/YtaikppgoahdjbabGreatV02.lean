import Derived.Below
import Derived.BigQuiet
import Derived.RowKit
import Derived.Test.YtaikppgoahdjbabGreatV01
set_option maxRecDepth 100000
set_option maxHeartbeats 8000000
namespace Go.Proofs.YtaikppgoahdjbabGreat
open Go.RowKit
set_option linter.unusedVariables false
theorem al1p (w:World) (o:Obj):Below w.heap.size w (w.alloc o):=(Below.refl _ _).alloc (Nat.le_refl _) _
theorem bdrewp (w:World):Below w.heap.size w w.drew:=(Below.refl _ _).drew
theorem bneTp {a b:Int} (h:¬ a = b):(a != b) = true:=by simp [h]
theorem bneFp {a b:Int} (h:a = b):(a != b) = false:=by simp [h]
theorem ls_one6 {α:Type} [Inhabited α] {f:α → Value} (w:World) (x:α) (t:TypeId):Ls f (w.alloc (.cells #[f x] t)) (some ⟨w.heap.size,0,none⟩) 1 [x]:=by
 refine ⟨Nat.le_refl _,by omega,fun _ => ⟨w.heap.size,0,rfl,by simp,fun i hi => ?_⟩,fun h => by cases h⟩
 have:i = 0:=by simp at hi; omega
 subst this; simp
theorem own_eq6 {α:Type} {t:TypeId} {f:α → Value} {w wr:World} {v:Value} {xs ys:List α} (h:OwnG t f w wr v xs) (e:xs = ys):OwnG t f w wr v ys:=by subst e; exact h
theorem u8_wf {x:Int} (h:0 ≤ x ∧ x < 256):(Lit.int .u8 x).wf = true:=by
 simp [Lit.wf,IntKind.min,IntKind.max,IntKind.signed,IntKind.bits]; omega
theorem u8_range6 {x:Int} (h:(Lit.int .u8 x).wf = true):0 ≤ x ∧ x < 256:=by
 simp [Lit.wf,IntKind.min,IntKind.max,IntKind.signed,IntKind.bits] at h
 omega
theorem isB_wf {l:List Int} (h:isB l):∀ x ∈ l,(Lit.int .u8 x).wf = true:=fun x hx => u8_wf (h x hx)
theorem wf_isB {l:List Int} (h:∀ x ∈ l,(Lit.int .u8 x).wf = true):isB l:=fun x hx => u8_range6 (h x hx)
theorem getD_mem6 {ds:List Int} {n:Nat} (h:n < ds.length):ds.getD n 0 ∈ ds:=by
 rw [List.getD_eq_getElem?_getD,List.getElem?_eq_getElem h]; simp
theorem Tryz.infoU8:(Tryz.prog.info? 5).map (fun i => (i.zero,i.size,i.bytes)) = some (some (.int .u8 0),1,1):=by kernel_rfl
theorem drop_cons6 {b:List Int} {n:Nat} (h:n < b.length):b.drop n = b.getD n 0 :: b.drop (n + 1):=by
 rw [List.drop_eq_getElem_cons h]; congr 1; simp [List.getElem?_eq_getElem h]
def comb (i:Nat) (acc:Int) (o:Option (Int × Nat)):Option (Int × Nat):=o.map fun y => (acc + 128 ^ i * y.1,i + y.2)
theorem comb_zero (o:Option (Int × Nat)):comb 0 0 o = o:=by unfold comb; cases o <;> simp
theorem comb_step (i:Nat) (acc c:Int) (k:Nat) (r:List Int) (h1:¬ (k = 0 ∧ 1 < c)) (h2:¬ c < 128):comb i acc (rdG (k + 1) (c :: r)) = comb (i + 1) (acc + 128 ^ i * (c % 128)) (rdG k r):=by
 rw [rdG,if_neg h1,if_neg h2]
 unfold comb
 cases rdG k r with
 | none => rfl
 | some y =>
   simp only [Option.map_some,Int.pow_succ]
   congr 2
   ·rw [Int.mul_add,Int.mul_assoc]; omega
   ·omega
theorem comb_end (i:Nat) (acc c:Int) (k:Nat) (r:List Int) (h1:¬ (k = 0 ∧ 1 < c)) (h2:c < 128):comb i acc (rdG (k + 1) (c :: r)) = some (acc + 128 ^ i * (c % 128),i + 1):=by
 rw [rdG,if_neg h1,if_pos h2]; rfl
theorem pow128_le (i:Nat) (h:i ≤ 9):1 ≤ (128:Int) ^ i ∧ (128:Int) ^ i ≤ 9223372036854775808:=by
 match i,h with
 | 0,_ => decide
 | 1,_ => decide
 | 2,_ => decide
 | 3,_ => decide
 | 4,_ => decide
 | 5,_ => decide
 | 6,_ => decide
 | 7,_ => decide
 | 8,_ => decide
 | 9,_ => decide
theorem Tryz.f_int3 {a a' b b' c c':Int} (h1:a = a') (h2:b = b') (h3:c = c'):Ending.returned (.tuple #[.int .u64 a,.int .i64 b,.int .i64 c]) = .returned (.tuple #[.int .u64 a',.int .i64 b',.int .i64 c']):=by rw [h1,h2,h3]
theorem rvarint_any (x:Int) (w:World) (h0:0 ≤ x) (h1:x < 18446744073709551616) :
  Calls Tryz.prog 25 #[.int .u64 x] w fun e w' => ∃ v,e = .returned v ∧ OwnG 5 (Value.int .u8) w w' v (varV x):=by
 obtain ⟨i1,hi1,y1,z1,b1⟩:=info_parts Tryz.infoU8
 go_enter Tryz.func25,Tryz.ntmps25
 go_wp2_with fail
 go_loopw [0,3] (fun xv v wr => ∃ y:Int,∃ pre:List Int,xv = .int .u64 y ∧ 0 ≤ y ∧ y < 18446744073709551616 ∧ Hid (pre ++ varV y = varV x) ∧ Hid (OwnG 5 (Value.int .u8) w wr v pre)) (fun xv _ _ => (intOf xv).toNat)
 case atStart => exact ⟨x,[],rfl,h0,h1,hide (by simp),hide (OwnG.nil _ _ _ (Below.refl _ _))⟩
 case round =>
  obtain ⟨y,pre,rfl,g0,g1,HV,O⟩:=hrel
  have hpl:pre.length ≤ 9:=by
   have e:=congrArg List.length (uh HV)
   rw [List.length_append] at e
   have:=varV_len x
   have:=varV_len y
   omega
  by_cases hy:y < 128
  ·have hge:¬ (128:Int) ≤ y:=by omega
   have HE:=hide ((congrArg (pre ++ ·) (varV_small hy)).symm.trans (uh HV))
   have hwr:IntKind.u8.wrap y = y:=by rw [IntKind.wrap_u8]; omega
   clear HV
   go_wp2_with (at_builtin; (refine wpList_append_ls rfl _ _ 28 rfl w 5 i1 (.int .u8 0) 1 Tryz.underlying28 hi1 y1 z1 b1 rfl (int_one .u8) _ pre rfl ((uh O).below (al1p _ _)) (some ⟨_,0,none⟩) 1 [y] rfl (ls_one6 _ _ _) (by unfold maxLen; simp <;> omega) (by simp <;> omega) ?_; intro v2 w2 O2; have HO2:=hide O2; clear O2))
   go_ret
   exact ⟨_,rfl,own_eq6 (uh HO2) (uh HE)⟩
  ·have hge:(128:Int) ≤ y:=by omega
   have HE:Hid ((pre ++ [y % 128 + 128]) ++ varV (y / 128) = varV x):=hide (by rw [← uh HV,varV_step hy g1,List.append_assoc]; rfl)
   obtain ⟨m,hm⟩:∃ m,y % 128 = m:=⟨_,rfl⟩
   have m0:0 ≤ m:=by omega
   have m1:m < 128:=by omega
   rw [hm] at HE
   have hwr:IntKind.u8.wrap (m + 128) = m + 128:=by rw [IntKind.wrap_u8]; omega
   have d0:0 ≤ y / 128:=by omega
   have d1:y / 128 < 18446744073709551616:=by omega
   clear HV
   go_wp2_with (at_builtin; (refine wpList_append_ls rfl _ _ 28 rfl w 5 i1 (.int .u8 0) 1 Tryz.underlying28 hi1 y1 z1 b1 rfl (int_one .u8) _ pre rfl ((uh O).below (al1p _ _)) (some ⟨_,0,none⟩) 1 [m + 128] rfl (ls_one6 _ _ _) (by unfold maxLen; simp <;> omega) (by simp <;> omega) ?_; intro v2 w2 O2; have HO2:=hide O2; clear O2))
   go_roundw
   case rel => exact ⟨y / 128,pre ++ [m + 128],rfl,d0,d1,HE,HO2⟩
   case measure => simp [intOf]; omega
theorem rrdv_any (p:Option Addr) (c:Nat) (b:List Int) (at':Int) (w:World) (h:Ints .u8 w p c b) (hs:b.length ≤ 4611686018427387904) :
  Calls Tryz.prog 43 #[.slice p b.length c,.int .i64 at'] w fun e w' => e = .returned (.tuple #[.int .u64 (rdV b at').1,.int .i64 (rdV b at').2.1,.int .i64 (rdV b at').2.2]) ∧ w' = w:=by
 have A1:=hide h
 have bl:=h.len
 have hB:=wf_isB h.2.2.1
 clear h
 by_cases hlo:at' < 0
 ·have e:rdV b at' = (0,0,2):=by unfold rdV; rw [if_pos (.inl hlo)]
  rw [e]
  clear e
  have t1:decide (at' < 0) = true:=by simp [hlo]
  go_enter Tryz.func43,Tryz.ntmps43
  go_wp2_with fail
  go_ret3
  exact ⟨rfl,rfl⟩
 ·have t1:decide (at' < 0) = false:=by simp; omega
  by_cases hhi:(b.length:Int) < at'
  ·have e:rdV b at' = (0,0,2):=by unfold rdV; rw [if_pos (.inr hhi)]
   rw [e]
   clear e
   have t2:decide ((b.length:Int) < at') = true:=by simp [hhi]
   go_enter Tryz.func43,Tryz.ntmps43
   go_wp2_with fail
   go_ret3
   exact ⟨rfl,rfl⟩
  ·have t2:decide ((b.length:Int) < at') = false:=by simp; omega
   obtain ⟨n,hn⟩:∃ n:Nat,at' = (n:Int):=⟨at'.toNat,by omega⟩
   subst hn
   have hnb:n ≤ b.length:=by omega
   have HR:Hid (rdV b (n:Int) = match rdG 10 (b.drop n) with
     | none => (0,0,6)
     | some y => (y.1,((n + y.2:Nat):Int),0)):=hide (by
    unfold rdV rdN
    rw [if_neg (by omega),Int.toNat_natCast]
    cases rdG 10 (b.drop n) <;> rfl)
   obtain ⟨R,hR⟩:∃ R,rdV b (n:Int) = R:=⟨_,rfl⟩
   rw [hR] at HR ⊢
   obtain ⟨R1,R2,R3⟩:=R
   simp only
   clear hR
   go_enter Tryz.func43,Tryz.ntmps43
   go_wp2_with fail
   go_loop [7,8,9] (fun xv uv iv => ∃ i:Nat,∃ x u:Int,iv = .int .i64 i ∧ xv = .int .u64 x ∧ uv = .int .u64 u ∧ i ≤ 10 ∧ 0 ≤ x ∧ x < 18446744073709551616 ∧ 0 ≤ u ∧ u < 18446744073709551616 ∧ Hid (i ≤ 9 → x < 128 ^ i ∧ u = 128 ^ i) ∧ Hid (rdG 10 (b.drop n) = comb i x (rdG (10 - i) (b.drop (n + i))))) (fun _ _ iv => 10 - (intOf iv).toNat)
   case atStart => exact ⟨0,0,1,rfl,rfl,rfl,by omega,by omega,by omega,by omega,by omega,hide (fun _ => by decide),hide (by rw [comb_zero]; rfl)⟩
   case round =>
    obtain ⟨i,x,u,rfl,rfl,rfl,hi,x0,x1,u0,u1,HU,HC⟩:=hrel
    by_cases hi10:i < 10
    ·have ti:(i:Int) < 10:=by omega
     obtain ⟨P0,P1⟩:=pow128_le i (by omega)
     obtain ⟨q1,q2⟩:=uh HU (by omega)
     by_cases hin:n + i < b.length
     ·have tn:(n:Int) + (i:Int) < (b.length:Int):=by omega
      obtain ⟨b3,o3,rfl,hb3,hc3⟩:=(uh A1).lies (by omega)
      have k3:w.cell? ⟨b3,o3 + (n + i),none⟩ = some (.int .u8 (b.getD (n + i) 0)):=hc3 (n + i) hin
      obtain ⟨c0,c1⟩:=hB _ (getD_mem6 hin)
      have HD:=hide (drop_cons6 hin)
      have hoff:(n:Int) + (i:Int) = ((n + i:Nat):Int):=by omega
      have hof3:((n + i:Nat):Int) < (b.length:Int):=by omega
      obtain ⟨m,hm⟩:∃ m,n + i = m:=⟨_,rfl⟩
      have HM:=hide hm
      rw [hm] at hoff hof3 k3 c0 c1 HD HC
      generalize b.getD m 0 = cc at k3 c0 c1 HD
      have HK:Hid (rdG 10 (b.drop n) = comb i x (rdG ((9 - i) + 1) (cc :: b.drop (m + 1)))):=hide (by
       rw [uh HC,uh HD,show 10 - i = (9 - i) + 1 by omega])
      clear HC HD
      obtain ⟨m7,hm7⟩:∃ m7,cc % 128 = m7:=⟨_,rfl⟩
      have g0:0 ≤ m7:=by omega
      have g1:m7 ≤ 127:=by omega
      by_cases hbad:i = 9 ∧ 1 < cc
      ·obtain ⟨hb1,hb2⟩:=hbad
       subst hb1
       have HE:Hid (R1 = 0 ∧ R2 = 0 ∧ R3 = 6):=hide (by
        have hr:=uh HR
        rw [uh HK,rdG,if_pos ⟨by omega,hb2⟩] at hr
        simpa [comb] using hr)
       clear HK HR HU HM
       go_wp2_with fail
       go_ret3
       exact ⟨Tryz.f_int3 (uh HE).1.symm (uh HE).2.1.symm (uh HE).2.2.symm,rfl⟩
      ·have hmul0:0 ≤ u * m7:=Int.mul_nonneg u0 g0
       have hmul1:x + u * m7 < 18446744073709551616:=by
        by_cases h9:i = 9
        ·have hc1:cc ≤ 1:=by omega
         have:m7 ≤ 1:=by omega
         have h2:u * m7 ≤ u * 1:=Int.mul_le_mul_of_nonneg_left this u0
         omega
        ·have h2:u * m7 ≤ u * 127:=Int.mul_le_mul_of_nonneg_left g1 u0
         obtain ⟨Q0,Q1⟩:=pow128_le (i + 1) (by omega)
         rw [Int.pow_succ] at Q1
         omega
       have hmul2:u * m7 < 18446744073709551616:=by omega
       have HBD:Hid (¬ (9 - i = 0 ∧ 1 < cc)):=hide (fun h => hbad ⟨by omega,h.2⟩)
       by_cases hc:cc < 128
       ·have HE:Hid (R1 = x + u * m7 ∧ R2 = (m:Int) + 1 ∧ R3 = 0):=hide (by
         have hr:=uh HR
         rw [uh HK,comb_end i x cc (9 - i) _ (uh HBD) hc,hm7,← q2] at hr
         simp only [Prod.mk.injEq] at hr
         refine ⟨hr.1,?_,hr.2.2⟩
         rw [hr.2.1,← uh HM]
         omega)
        by_cases h9:i = 9
        ·subst h9
         have tc:¬ 1 < cc:=by omega
         have HE9:Hid (R1 = x + u * m7 ∧ R2 = (n:Int) + 9 + 1 ∧ R3 = 0):=hide ⟨(uh HE).1,by have h1:=(uh HE).2.1; have h2:=uh HM; omega,(uh HE).2.2⟩
         clear HK HR HU HM HBD q1 q2 hbad
         go_wp2_with fail
         go_ret3
         exact ⟨Tryz.f_int3 (uh HE9).1.symm (uh HE9).2.1.symm (uh HE9).2.2.symm,rfl⟩
        ·have ti9:((i:Int) == 9) = false:=by simp; omega
         clear HK HR HU HM HBD q1 q2 hbad
         go_wp2_with fail
         go_ret3
         exact ⟨Tryz.f_int3 (uh HE).1.symm (uh HE).2.1.symm (uh HE).2.2.symm,rfl⟩
       ·have h9:¬ i = 9:=fun e => hbad ⟨e,by omega⟩
        have ti9:((i:Int) == 9) = false:=by simp; omega
        obtain ⟨Q0,Q1⟩:=pow128_le (i + 1) (by omega)
        have hu2:u * 128 < 18446744073709551616:=by rw [Int.pow_succ,← q2] at Q1; omega
        have hu3:0 ≤ u * 128:=by omega
        have HK2:Hid (rdG 10 (b.drop n) = comb (i + 1) (x + u * m7) (rdG (10 - (i + 1)) (b.drop (n + (i + 1))))):=hide (by
         rw [uh HK,comb_step i x cc (9 - i) _ (uh HBD) hc,hm7,← q2,← uh HM,show 9 - i = 10 - (i + 1) by omega]
         rfl)
        have HU2:Hid (i + 1 ≤ 9 → x + u * m7 < 128 ^ (i + 1) ∧ u * 128 = 128 ^ (i + 1)):=hide (fun _ => by
         have h2:u * m7 ≤ u * 127:=Int.mul_le_mul_of_nonneg_left g1 u0
         rw [Int.pow_succ]
         rw [← q2] at q1 ⊢
         exact ⟨by omega,rfl⟩)
        have xs0:0 ≤ x + u * m7:=by omega
        clear HK HR HU HM HBD q1 q2 hbad Q0 Q1
        go_wp2_with fail
        go_round
        case rel => exact ⟨i + 1,x + u * m7,u * 128,by go_num,rfl,rfl,by omega,xs0,hmul1,hu3,hu2,HU2,HK2⟩
        case measure => simp [intOf]; omega
     ·have tn:¬ (n:Int) + (i:Int) < (b.length:Int):=by omega
      have HE:Hid (R1 = 0 ∧ R2 = 0 ∧ R3 = 6):=hide (by
       have hr:=uh HR
       rw [uh HC,List.drop_of_length_le (by omega),show 10 - i = (9 - i) + 1 by omega,rdG] at hr
       simpa [comb] using hr)
      clear HC HR HU q1 q2
      go_wp2_with fail
      go_ret3
      exact ⟨Tryz.f_int3 (uh HE).1.symm (uh HE).2.1.symm (uh HE).2.2.symm,rfl⟩
    ·have ti:¬ (i:Int) < 10:=by omega
     have HE:Hid (R1 = 0 ∧ R2 = 0 ∧ R3 = 6):=hide (by
      have hr:=uh HR
      rw [uh HC,show 10 - i = 0 by omega,rdG] at hr
      simpa [comb] using hr)
     clear HC HR HU
     go_wp2_with fail
     go_ret3
     exact ⟨Tryz.f_int3 (uh HE).1.symm (uh HE).2.1.symm (uh HE).2.2.symm,rfl⟩
theorem leV_drop {b:List Int} {n:Nat} (h:n < b.length):leV (b.drop n) = b.getD n 0 + 256 * leV (b.drop (n + 1)):=by rw [drop_cons6 h]; rfl
theorem rlittle_any (p:Option Addr) (c:Nat) (b:List Int) (w:World) (h:Ints .u8 w p c b) (hs:b.length ≤ 8) :
  Calls Tryz.prog 44 #[.slice p b.length c] w fun e w' => e = .returned (.int .u64 (leV b)) ∧ w' = w:=by
 have A1:=hide h
 have hB:=wf_isB h.2.2.1
 clear h
 obtain ⟨R,hR⟩:∃ R,leV b = R:=⟨_,rfl⟩
 have HR:=hide hR
 rw [hR]
 clear hR
 go_enter Tryz.func44,Tryz.ntmps44
 go_wp2_with fail
 go_loop [3,4] (fun xv iv => ∃ n:Nat,∃ y:Int,iv = .int .i64 ((n:Int) - 1) ∧ xv = .int .u64 y ∧ n ≤ b.length ∧ 0 ≤ y ∧ Hid (y < 256 ^ (b.length - n)) ∧ Hid (y = leV (b.drop n))) (fun _ iv => (intOf iv + 1).toNat)
 case atStart => exact ⟨b.length,0,rfl,rfl,by omega,by omega,hide (by simp),hide (by simp [leV])⟩
 case round =>
  obtain ⟨n,y,rfl,rfl,hn,y0,HB,HY⟩:=hrel
  by_cases h0:n = 0
  ·subst h0
   have HE:Hid (y = R):=hide (by rw [uh HY,← uh HR]; rfl)
   clear HY HB
   go_wp2_with fail
   go_ret
   exact ⟨ret_int (uh HE),rfl⟩
  ·obtain ⟨k,rfl⟩:∃ k,n = k + 1:=⟨n - 1,by omega⟩
   have hkb:k < b.length:=by omega
   have hge:(0:Int) ≤ (k:Int):=by omega
   have hki:((k + 1:Nat):Int) - 1 = (k:Int):=by omega
   obtain ⟨b3,o3,rfl,hb3,hc3⟩:=(uh A1).lies (by omega)
   have k3:w.cell? ⟨b3,o3 + k,none⟩ = some (.int .u8 (b.getD k 0)):=hc3 k hkb
   have hk2:(k:Int) < (b.length:Int):=by omega
   obtain ⟨c0,c1⟩:=hB _ (getD_mem6 hkb)
   have hpw:y < 72057594037927936:=by
    have h1:=uh HB
    have h2:(256:Int) ^ (b.length - (k + 1)) ≤ 256 ^ 7:=by
     have:=Nat.pow_le_pow_right (show 0 < 256 by decide) (show b.length - (k + 1) ≤ 7 by omega)
     have h3:((256 ^ (b.length - (k + 1)):Nat):Int) ≤ ((256 ^ 7:Nat):Int):=Int.ofNat_le.2 this
     simpa using h3
    have h4:(256:Int) ^ 7 = 72057594037927936:=by decide
    omega
   have HY2:Hid (y * 256 + b.getD k 0 = leV (b.drop k)):=hide (by rw [leV_drop hkb,uh HY]; omega)
   have HB2:Hid (y * 256 + b.getD k 0 < 256 ^ (b.length - k)):=hide (by
    have h1:=uh HB
    rw [show b.length - k = (b.length - (k + 1)) + 1 by omega,Int.pow_succ]
    generalize (256:Int) ^ (b.length - (k + 1)) = P at h1 ⊢
    omega)
   generalize b.getD k 0 = x at k3 c0 c1 HY2 HB2
   clear HY HB hc3
   rw [hki]
   go_wp2_with fail
   go_round
   case rel => exact ⟨k,y * 256 + x,by go_num,rfl,by omega,by omega,HB2,HY2⟩
   case measure => simp [intOf]
theorem rfixed_any (x:Int) (n:Nat) (w:World) (h0:0 ≤ x) (h1:x < 18446744073709551616) (hn:n ≤ 8) :
  Calls Tryz.prog 26 #[.int .u64 x,.int .i64 n] w fun e w' => ∃ v,e = .returned v ∧ OwnG 5 (Value.int .u8) w w' v (fxL x n):=by
 obtain ⟨i1,hi1,y1,z1,b1⟩:=info_parts Tryz.infoU8
 go_enter Tryz.func26,Tryz.ntmps26
 go_wp2_with fail
 go_loopw [0,5,6] (fun yv v jv wr => ∃ j:Nat,∃ y:Int,jv = .int .i64 j ∧ yv = .int .u64 y ∧ j ≤ n ∧ 0 ≤ y ∧ y < 18446744073709551616 ∧ Hid (y = x / 256 ^ j) ∧ Hid (OwnG 5 (Value.int .u8) w wr v (fxL x j))) (fun _ _ jv _ => n - (intOf jv).toNat)
 case atStart => exact ⟨0,x,rfl,rfl,by omega,h0,h1,hide (by simp),hide (OwnG.nil _ _ _ (Below.refl _ _))⟩
 case round =>
  obtain ⟨j,y,rfl,rfl,hj,v0,v1,HY,O⟩:=hrel
  by_cases hjl:j < n
  ·have hji:(j:Int) < (n:Int):=by omega
   have d0:0 ≤ y / 256:=by omega
   have d1:y / 256 < 18446744073709551616:=by omega
   have m0:0 ≤ y % 256:=by omega
   have m1:y % 256 < 256:=by omega
   have hl2:(fxL x j).length = j:=fxL_length _ _
   have HS:Hid (fxL x (j + 1) = fxL x j ++ [y % 256]):=hide (by rw [uh HY]; rfl)
   have HY2:Hid (y / 256 = x / 256 ^ (j + 1)):=hide (by rw [uh HY,Int.pow_succ,Int.ediv_ediv_of_nonneg (Int.pow_nonneg (by decide))])
   obtain ⟨m,hm⟩:∃ m,y % 256 = m:=⟨_,rfl⟩
   rw [hm] at m0 m1 HS
   have hwr:IntKind.u8.wrap m = m:=by rw [IntKind.wrap_u8]; omega
   have HL:=hide hl2
   clear HY hl2
   go_wp2_with (at_builtin; (refine wpList_append_ls rfl _ _ 28 rfl w 5 i1 (.int .u8 0) 1 Tryz.underlying28 hi1 y1 z1 b1 rfl (int_one .u8) _ (fxL x j) rfl ((uh O).below (al1p _ _)) (some ⟨_,0,none⟩) 1 [m] rfl (ls_one6 _ _ _) (by unfold maxLen; rw [uh HL]; simp <;> omega) (by rw [uh HL]; simp <;> omega) ?_; intro v2 w2 O2; have HO2:=hide O2; clear O2))
   go_roundw
   case rel => exact ⟨j + 1,y / 256,by go_num,rfl,by omega,d0,d1,HY2,hide (by rw [uh HS]; exact uh HO2)⟩
   case measure => simp [intOf]; omega
  ·have hji:¬ (j:Int) < (n:Int):=by omega
   have ej:j = n:=by omega
   subst ej
   clear HY
   go_wp2_with fail
   go_ret
   exact ⟨_,rfl,uh O⟩
theorem take_eq6 {xs ys:List Int} {n:Nat} (h1:n < xs.length) (h2:n < ys.length) (h:xs.take n = ys.take n) (e:xs.getD n 0 = ys.getD n 0):xs.take (n + 1) = ys.take (n + 1):=by
 have t:∀ l:List Int,n < l.length → l.take (n + 1) = l.take n ++ [l.getD n 0]:=fun l hl => by
  rw [List.take_add_one,List.getElem?_eq_getElem hl,List.getD_eq_getElem?_getD,List.getElem?_eq_getElem hl]; rfl
 rw [t xs h1,t ys h2,h,e]
theorem take_all6 {α:Type} {xs ys:List α} {n:Nat} (hl:xs.length = ys.length) (hn:n = xs.length) (h:xs.take n = ys.take n):xs = ys:=by
 rw [List.take_of_length_le (by omega),List.take_of_length_le (by omega)] at h
 exact h
theorem rsameb_any (p p':Option Addr) (c c':Nat) (xs ys:List Int) (w:World) (h:Ints .u8 w p c xs) (k:Ints .u8 w p' c' ys) :
  Calls Tryz.prog 15 #[.slice p xs.length c,.slice p' ys.length c'] w fun e w' => e = .returned (.bool (decide (xs = ys))) ∧ Below w.heap.size w w':=by
 have A1:=hide h
 have A2:=hide k
 have nx:=h.len
 have ny:=k.len
 clear h k
 obtain ⟨D,hD⟩:∃ D,decide (xs = ys) = D:=⟨_,rfl⟩
 have HD:=hide hD
 rw [hD]
 clear hD
 by_cases hl:xs.length = ys.length
 ·have tl:((xs.length:Int) != (ys.length:Int)) = false:=bneFp (by omega)
  have HL:=hide hl
  clear hl
  go_enter Tryz.func15,Tryz.ntmps15
  go_wp2_with fail
  clear tl
  go_loopw [5] (fun iv wr => ∃ n:Nat,iv = .int .i64 n ∧ n ≤ xs.length ∧ Hid (xs.take n = ys.take n) ∧ ∃ m,wr = w.drewN m) (fun iv _ => xs.length - (intOf iv).toNat)
  case atStart => exact ⟨0,rfl,by omega,hide (by simp),0,rfl⟩
  case round =>
   obtain ⟨n0,rfl,hn0,HT0,m0,rfl⟩:=hrel
   by_cases hlt:n0 < xs.length
   ·have hlt2:n0 < ys.length:=by rw [← uh HL]; exact hlt
    obtain ⟨b,o,rfl,hb,hc⟩:=(uh A1).lies (by omega)
    obtain ⟨b',o',rfl,hb',hc'⟩:=(uh A2).lies (by omega)
    have hi:(n0:Int) < (xs.length:Int):=by omega
    have hi2:(n0:Int) < (ys.length:Int):=by omega
    have k1:w.cell? ⟨b,o + n0,none⟩ = some (.int .u8 (xs.getD n0 0)):=hc n0 hlt
    have k2:w.cell? ⟨b',o' + n0,none⟩ = some (.int .u8 (ys.getD n0 0)):=hc' n0 hlt2
    have TE:=hide (fun e => take_eq6 hlt hlt2 (uh HT0) e)
    have TN:Hid (¬ xs.getD n0 0 = ys.getD n0 0 → ¬ xs = ys):=hide (fun e h => e (by rw [h]))
    clear hc hc' hlt2 HT0
    generalize xs.getD n0 0 = x at k1 TE TN
    generalize ys.getD n0 0 = y at k2 TE TN
    by_cases hxy:x = y
    ·have HT2:=hide (uh TE hxy)
     subst hxy
     clear TE TN
     go_wp2_with fail
     go_quiet (fail)
     go_wp2_with fail
     go_roundw
     case rel => exact ⟨n0 + 1,by go_num,by omega,HT2,_,rfl⟩
     case measure => simp [intOf]; omega
    ·have hne:(x == y) = false:=by simp [hxy]
     have HNE:Hid (¬ xs = ys):=hide (fun h => uh TN hxy h)
     clear TE TN hxy
     go_wp2_with fail
     go_quiet (fail)
     go_wp2_with fail
     go_ret
     exact ⟨ret_bool (by rw [← uh HD]; exact (decide_eq_false (uh HNE)).symm),bw_drew (bw_drew (Below.refl _ _) _) _⟩
   ·have hi:¬ (n0:Int) < (xs.length:Int):=by omega
    have Q0:=hide (take_all6 (uh HL) (show n0 = xs.length by omega) (uh HT0))
    clear HT0
    go_wp2_with fail
    go_ret
    exact ⟨ret_bool (by rw [← uh HD]; exact (decide_eq_true (uh Q0)).symm),bw_drew (Below.refl _ _) _⟩
 ·have tl:((xs.length:Int) != (ys.length:Int)) = true:=bneTp (by omega)
  have HNE:Hid (¬ xs = ys):=hide (fun h => hl (by rw [h]))
  clear hl
  go_enter Tryz.func15,Tryz.ntmps15
  go_wp2_with fail
  go_ret
  exact ⟨ret_bool (by rw [← uh HD]; exact (decide_eq_false (uh HNE)).symm),Below.refl _ _⟩
structure FA where
 n:Int
 wr:Int
 x:Int
 d:List Int
 q:Option Addr
 c:Nat
def noFA:FA:=⟨0,0,0,[],none,0⟩
def FA.f (a:FA):Fld:=(a.n,a.wr,a.x,a.d)
def faCells (a:FA):List Value:=[.int .i64 a.n,.int .i64 a.wr,.int .u64 a.x,.slice a.q a.d.length a.c]
def faV (a:FA):Value:=.agg #[.int .i64 a.n,.int .i64 a.wr,.int .u64 a.x,.slice a.q a.d.length a.c]
def FaIn (w:World) (a:FA):Prop:=(Lit.int .i64 a.n).wf = true ∧ (Lit.int .i64 a.wr).wf = true ∧ (Lit.int .u64 a.x).wf = true ∧ Ints .u8 w a.q a.c a.d
theorem FaIn.below {w w':World} {a:FA} (h:FaIn w a) (hb:Below w.heap.size w w'):FaIn w' a:=⟨h.1,h.2.1,h.2.2.1,h.2.2.2.below hb⟩
theorem u64_range {x:Int} (h:(Lit.int .u64 x).wf = true):0 ≤ x ∧ x < 18446744073709551616:=by
 simp [Lit.wf,IntKind.min,IntKind.max,IntKind.signed,IntKind.bits] at h
 omega
theorem FaIn.ok {w:World} {a:FA} (h:FaIn w a):okF a.f:=⟨(u64_range h.2.2.1).1,(u64_range h.2.2.1).2,wf_isB h.2.2.2.2.2.1⟩
theorem noFA_in (w:World):FaIn w noFA:=⟨rfl,rfl,rfl,⟨by simp [noFA],by simp [noFA],by simp [noFA],by simp [noFA],fun _ => rfl⟩⟩
def Flc (w:World) (p:Option Addr) (cap:Nat) (l:List FA):Prop :=
 l.length ≤ cap ∧ cap ≤ 9223372036854775807 ∧ (0 < l.length → ∃ b o,p = some ⟨b,o,none⟩ ∧ b < w.heap.size ∧ ∀ i,i < l.length → ∀ j u,(faCells (l.getD i noFA))[j]? = some u → w.cell? ⟨b,o + i * 4 + j,none⟩ = some u) ∧ (p = none → cap = 0)
theorem Flc.len {w:World} {p:Option Addr} {cap:Nat} {l:List FA} (h:Flc w p cap l):l.length ≤ 9223372036854775807:=Nat.le_trans h.1 h.2.1
theorem Flc.nil (w:World):Flc w none 0 []:=⟨by simp,by omega,by simp,fun _ => rfl⟩
theorem Flc.below {w w':World} {p:Option Addr} {cap:Nat} {l:List FA} (h:Flc w p cap l) (hb:Below w.heap.size w w'):Flc w' p cap l:=by
 obtain ⟨h1,h2,h4,h5⟩:=h
 refine ⟨h1,h2,fun hp => ?_,h5⟩
 obtain ⟨b,o,e,g1,g2⟩:=h4 hp
 exact ⟨b,o,e,Nat.lt_of_lt_of_le g1 hb.size,fun i hi j u hu => (hb.cell (p:=⟨b,o + i * 4 + j,none⟩) g1).trans (g2 i hi j u hu)⟩
theorem Flc.at {w:World} {p:Option Addr} {cap:Nat} {l:List FA} (h:Flc w p cap l) {i:Nat} (hi:i < l.length):∃ b o,p = some ⟨b,o,none⟩ ∧ b < w.heap.size ∧ w.cell? ⟨b,o + i * 4,none⟩ = some (.int .i64 (l.getD i noFA).n) ∧ w.cell? ⟨b,o + i * 4 + 1,none⟩ = some (.int .i64 (l.getD i noFA).wr) ∧ w.cell? ⟨b,o + i * 4 + 2,none⟩ = some (.int .u64 (l.getD i noFA).x) ∧ w.cell? ⟨b,o + i * 4 + 3,none⟩ = some (.slice (l.getD i noFA).q (l.getD i noFA).d.length (l.getD i noFA).c):=by
 obtain ⟨b,o,e,g1,g2⟩:=h.2.2.1 (by omega)
 exact ⟨b,o,e,g1,g2 i hi 0 _ rfl,g2 i hi 1 _ rfl,g2 i hi 2 _ rfl,g2 i hi 3 _ rfl⟩
def Fls (w:World) (p:Option Addr) (cap:Nat) (l:List FA):Prop:=Flc w p cap l ∧ ∀ a ∈ l,FaIn w a
theorem Fls.below {w w':World} {p:Option Addr} {cap:Nat} {l:List FA} (h:Fls w p cap l) (hb:Below w.heap.size w w'):Fls w' p cap l:=⟨h.1.below hb,fun a ha => (h.2 a ha).below hb⟩
theorem getD_memF {l:List FA} {i:Nat} (h:i < l.length):l.getD i noFA ∈ l:=by
 rw [List.getD_eq_getElem?_getD,List.getElem?_eq_getElem h]; simp
def OwnF (t:TypeId) (w wr:World) (v:Value) (l:List FA):Prop:=wr.ownsRow w.heap.size t 4 v l.length (l.flatMap faCells) ∧ Below w.heap.size w wr
theorem OwnF.nil (t:TypeId) (w wr:World) (h:Below w.heap.size w wr):OwnF t w wr (.slice none 0 0) []:=⟨World.ownsRow_nil _ _ _ _,h⟩
theorem OwnF.below {t:TypeId} {w wr w':World} {v:Value} {l:List FA} (h:OwnF t w wr v l) (hb:Below wr.heap.size wr w'):OwnF t w w' v l:=by
 obtain ⟨⟨l1,h1⟩,h2⟩:=h
 refine ⟨⟨l1,?_⟩,bl_tr h2 hb⟩
 rcases h1 with ⟨rfl,h0⟩ | ⟨g,cap,cur,rfl,hb1,hh,hc,hm,hs,ht⟩
 ·exact .inl ⟨rfl,h0⟩
 ·refine .inr ⟨g,cap,cur,rfl,hb1,?_,hc,hm,hs,ht⟩
  rw [hb.block g ?_]; exact hh
  rcases Nat.lt_or_ge g wr.heap.size with h | h
  ·exact h
  ·rw [Array.getElem?_eq_none h] at hh; cases hh
theorem fa_len (a:FA):(faCells a).length = 4:=rfl
theorem fa_one (a:FA):∀ u ∈ faCells a,u.oneCell' = true:=by
 intro u hu
 simp [faCells] at hu
 rcases hu with rfl | rfl | rfl | rfl <;> rfl
theorem fl_len (l:List FA):(l.flatMap faCells).length = l.length * 4:=by
 induction l with
 | nil => rfl
 | cons a r ih => simp only [List.flatMap_cons,List.length_append,ih,fa_len,List.length_cons]; omega
theorem fl_get:∀ (l:List FA) (i j:Nat),i < l.length → j < 4 → (l.flatMap faCells)[i * 4 + j]? = (faCells (l.getD i noFA))[j]?
 | [],i,j,h,_ => by simp at h
 | a :: r,0,j,h,hj => by
   simp only [List.flatMap_cons,Nat.zero_mul,Nat.zero_add]
   rw [List.getElem?_append_left (by rw [fa_len]; exact hj)]
   rfl
 | a :: r,i + 1,j,h,hj => by
   simp only [List.flatMap_cons]
   rw [List.getElem?_append_right (by rw [fa_len]; omega),fa_len,show (i + 1) * 4 + j - 4 = i * 4 + j by omega,fl_get r i j (by simpa using h) hj]
   rfl
theorem OwnF.form {t:TypeId} {w wr:World} {v:Value} {l:List FA} (h:OwnF t w wr v l):∃ p cap,v = .slice p l.length cap ∧ Flc wr p cap l ∧ Fresh w.heap.size wr p (l.length * 4):=by
 obtain ⟨⟨l1,h1⟩,h2⟩:=h
 have h0:wr.ownsRow w.heap.size t 4 v l.length (l.flatMap faCells):=⟨l1,h1⟩
 rcases h1 with ⟨rfl,hn⟩ | ⟨g,cap,cur,rfl,hb,hh,hc,hm,hs,ht⟩
 ·exact ⟨none,0,by rw [hn],⟨by omega,by omega,fun hp => by omega,fun _ => rfl⟩,fun b o e => by cases e⟩
 ·refine ⟨some ⟨g,0,none⟩,cap,rfl,⟨hc,hm,fun hp => ⟨g,0,rfl,(h0.lt g rfl).2,fun i hi j u hu => ?_⟩,fun h => by cases h⟩,fun b o e hp => ?_⟩
  ·have hj:j < 4:=by
    have:=(List.getElem?_eq_some_iff.1 hu).1
    rw [fa_len] at this; exact this
   have e:cur.toList[i * 4 + j]? = some u:=by
    have e1:(cur.toList.take (l.length * 4))[i * 4 + j]? = cur.toList[i * 4 + j]?:=List.getElem?_take_of_lt (by omega)
    rw [← e1,ht,fl_get l i j hi hj,hu]
   simp [World.cell?,hh]
   simpa using e
  ·simp only [Option.some.injEq,Addr.mk.injEq] at e
   obtain ⟨rfl,rfl,_⟩:=e
   exact ⟨hb,fun i _ => h0.frozenAt (0 + i)⟩
theorem wpList_append_fld {P:Program} {w:World} {ops:Array Oper} {rest:List Oper} {o:Oper} {a:Act} {Q:Exit → Act → World → Prop} (hgd:o.guard = none) (s x:Operand) (t:TypeId)
  (ho:o.op = .call { callee:=.builtin .append,args:=#[s,x],argTypes:=#[t,t] })
  (w0:World) (e:TypeId) (i:TypeInfo) (z:Value) (bytes:Nat) (ht:P.underlying t = some (.slice e)) (hi:P.info? e = some i) (hz:i.zero = some z)
  (hsize:i.size = 4) (hby:i.bytes = bytes) (hzs:z.cells.size = 4)
  (v:Value) (l:List FA) (hs:a.eval s = v) (hown:OwnF e w0 w v l)
  (ad:Addr) (c:Nat) (f:FA) (hx:a.eval x = .slice (some ad) 1 c) (hc:∀ j u,(faCells f)[j]? = some u → w.cell? (ad.add j) = some u)
  (h63:l.length + 1 ≤ maxLen) (hbytes:(l.length + 1) * bytes ≤ 140737488355328)
  (h:∀ v' w',OwnF e w0 w' v' (l ++ [f]) → wpList P ops Q rest (a.put o.dst v') w'):wpList P ops Q (o :: rest) a w:=by
 refine wpList_append_own w hgd s x t ho w0.heap.size e i z 4 bytes ht hi hz hsize hby hzs (by decide) v l.length (l.flatMap faCells) hs hown.1 ad 1 c (faCells f) hx (by rw [fa_len]) hc (fa_one f) h63 hbytes hown.2.size ?_
 intro v' w' h1 h2 _
 refine h v' w' ⟨?_,hown.2.grown h2 hown.2.size (fun k hk => (hown.1.lt k hk).1)⟩
 have e1:(l ++ [f]).length = l.length + 1:=by simp
 have e2:(l ++ [f]).flatMap faCells = l.flatMap faCells ++ faCells f:=by simp
 rw [e1,e2]; exact h1
theorem wpList_append_fldG {P:Program} {w:World} {ops:Array Oper} {rest:List Oper} {o:Oper} {a:Act} {Q:Exit → Act → World → Prop} (hgd:o.guard = none) (s x:Operand) (t:TypeId)
  (ho:o.op = .call { callee:=.builtin .append,args:=#[s,x],argTypes:=#[t,t] })
  (w0:World) (e:TypeId) (i:TypeInfo) (z:Value) (bytes:Nat) (ht:P.underlying t = some (.slice e)) (hi:P.info? e = some i) (hz:i.zero = some z)
  (hsize:i.size = 4) (hby:i.bytes = bytes) (hzs:z.cells.size = 4)
  (v:Value) (l:List FA) (hs:a.eval s = v) (hown:OwnF e w0 w v l)
  (ad:Addr) (c:Nat) (f:FA) (hx:a.eval x = .slice (some ad) 1 c) (hc:∀ j u,(faCells f)[j]? = some u → w.cell? (ad.add j) = some u)
  (h63:l.length + 1 ≤ maxLen) (hbytes:(l.length + 1) * bytes ≤ 140737488355328)
  (h:∀ v' w',OwnF e w0 w' v' (l ++ [f]) → w.grownBy w' v.ownBlock → wpList P ops Q rest (a.put o.dst v') w'):wpList P ops Q (o :: rest) a w:=by
 refine wpList_append_own w hgd s x t ho w0.heap.size e i z 4 bytes ht hi hz hsize hby hzs (by decide) v l.length (l.flatMap faCells) hs hown.1 ad 1 c (faCells f) hx (by rw [fa_len]) hc (fa_one f) h63 hbytes hown.2.size ?_
 intro v' w' h1 h2 _
 refine h v' w' ⟨?_,hown.2.grown h2 hown.2.size (fun k hk => (hown.1.lt k hk).1)⟩ h2
 have e1:(l ++ [f]).length = l.length + 1:=by simp
 have e2:(l ++ [f]).flatMap faCells = l.flatMap faCells ++ faCells f:=by simp
 rw [e1,e2]; exact h1
theorem fa_alloc (w:World) (f:FA) (t:TypeId):∀ j u,(faCells f)[j]? = some u → (w.alloc (.cells #[.int .i64 f.n,.int .i64 f.wr,.int .u64 f.x,.slice f.q f.d.length f.c] t)).cell? ((⟨w.heap.size,0,none⟩:Addr).add j) = some u:=by
 intro j u hu
 rw [Go.WideShapes.add_plain]
 have:=Box.cell (Box.new w #[.int .i64 f.n,.int .i64 f.wr,.int .u64 f.x,.slice f.q f.d.length f.c] t) (0 + j)
 rw [this,Nat.zero_add]
 unfold faCells at hu
 rw [← hu]
 simp
theorem Tryz.infoRF:(Tryz.prog.info? 63).map (fun i => (i.zero,i.size,i.bytes)) = some (some (.agg #[.int .i64 0,.int .i64 0,.int .u64 0,.slice none 0 0]),4,48):=by kernel_rfl
theorem Tryz.infoCF:(Tryz.prog.info? 91).map (fun i => (i.zero,i.size,i.bytes)) = some (some (.agg #[.int .i64 0,.int .i64 0,.int .u64 0,.slice none 0 0]),4,48):=by kernel_rfl
theorem Box.set4 {w:World} {g:Nat} {a b c d:Value} {t:TypeId} (h:Box w g #[a,b,c,d] t) (u0 u1 u2 u3:Value) :
  Box ((((w.setCell ⟨g,0,none⟩ u0).setCell ⟨g,1,none⟩ u1).setCell ⟨g,2,none⟩ u2).setCell ⟨g,3,none⟩ u3) g #[u0,u1,u2,u3] t :=
 (((h.same 0 u0).same 1 u1).same 2 u2).same 3 u3
theorem bset4 {B:Nat} {a w:World} (h:Below B a w) {g:Nat} (hg:B ≤ g) (u0 u1 u2 u3:Value) :
  Below B a ((((w.setCell ⟨g,0,none⟩ u0).setCell ⟨g,1,none⟩ u1).setCell ⟨g,2,none⟩ u2).setCell ⟨g,3,none⟩ u3) :=
 (((h.setCell hg u0).setCell hg u1).setCell hg u2).setCell hg u3
theorem rmay_any (a:FA) (w:World) (h:FaIn w a):Calls Tryz.prog 24 #[faV a] w fun e w' => e = .returned (.bool (mayB a.f)) ∧ Below w.heap.size w w':=by
 obtain ⟨n,wr,x,d,q,c⟩:=a
 obtain ⟨h1,h2,h3,h4⟩:=h
 simp only at h1 h2 h3 h4
 have dl:=h4.len
 obtain ⟨x0,x1⟩:=u64_range h3
 unfold faV
 simp only
 obtain ⟨D,hD⟩:∃ D,mayB (FA.f ⟨n,wr,x,d,q,c⟩) = D:=⟨_,rfl⟩
 rw [hD]
 have HV:Hid (D = (decide (1 ≤ n) && decide (n ≤ 536870911) && ((wr == 0 || wr == 1) && d.isEmpty || wr == 5 && d.isEmpty && decide (x < 4294967296) || wr == 2 && x == 0))):=hide (by rw [← hD]; rfl)
 have hde:d.isEmpty = decide ((d.length:Int) = 0):=by cases d <;> simp; omega
 rw [hde] at HV
 clear hD hde h4
 generalize d.length = m at HV dl ⊢
 by_cases c1:n < 1
 ·have t1:decide (n < 1) = true:=by simp [c1]
  have HE:Hid (D = false):=hide (by rw [uh HV]; simp; omega)
  clear HV
  go_enter Tryz.func24,Tryz.ntmps24
  go_wp2_with fail
  go_ret
  exact ⟨ret_bool (by first | rfl | exact (uh HE).symm),al1p _ _⟩
 ·have t1:decide (n < 1) = false:=by simp; omega
  by_cases c2:536870911 < n
  ·have t2:decide (536870911 < n) = true:=by simp [c2]
   have HE:Hid (D = false):=hide (by rw [uh HV]; simp; omega)
   clear HV
   go_enter Tryz.func24,Tryz.ntmps24
   go_wp2_with fail
   go_ret
   exact ⟨ret_bool (by first | rfl | exact (uh HE).symm),al1p _ _⟩
  ·have t2:decide (536870911 < n) = false:=by simp; omega
   have HV2:Hid (D = ((wr == 0 || wr == 1) && decide ((m:Int) = 0) || wr == 5 && decide ((m:Int) = 0) && decide (x < 4294967296) || wr == 2 && x == 0)):=hide (by
    rw [uh HV,show decide (1 ≤ n) = true by simp; omega,show decide (n ≤ 536870911) = true by simp; omega]; simp)
   clear HV
   by_cases w0:wr = 0
   ·subst w0
    have HE:Hid (D = decide ((m:Int) = 0)):=hide (by rw [uh HV2]; simp)
    clear HV2
    go_enter Tryz.func24,Tryz.ntmps24
    go_wp2_with fail
    go_ret
    exact ⟨ret_bool (by first | rfl | exact (uh HE).symm),al1p _ _⟩
   ·have e0:(wr == 0) = false:=by simp [w0]
    by_cases w1:wr = 1
    ·subst w1
     have HE:Hid (D = decide ((m:Int) = 0)):=hide (by rw [uh HV2]; simp)
     clear HV2
     go_enter Tryz.func24,Tryz.ntmps24
     go_wp2_with fail
     go_ret
     exact ⟨ret_bool (by first | rfl | exact (uh HE).symm),al1p _ _⟩
    ·have e1:(wr == 1) = false:=by simp [w1]
     by_cases w5:wr = 5
     ·subst w5
      by_cases cm:(m:Int) = 0
      ·have HE:Hid (D = decide (x < 4294967296)):=hide (by rw [uh HV2]; simp [cm])
       clear HV2
       go_enter Tryz.func24,Tryz.ntmps24
       go_wp2_with fail
       go_ret
       exact ⟨ret_bool (by first | rfl | exact (uh HE).symm),al1p _ _⟩
      ·have em:((m:Int) == 0) = false:=by simp; omega
       have HE:Hid (D = false):=hide (by rw [uh HV2]; simp; omega)
       clear HV2
       go_enter Tryz.func24,Tryz.ntmps24
       go_wp2_with fail
       go_ret
       exact ⟨ret_bool (by first | rfl | exact (uh HE).symm),al1p _ _⟩
     ·have e5:(wr == 5) = false:=by simp [w5]
      by_cases w2:wr = 2
      ·subst w2
       have HE:Hid (D = (x == 0)):=hide (by rw [uh HV2]; simp)
       clear HV2
       go_enter Tryz.func24,Tryz.ntmps24
       go_wp2_with fail
       go_ret
       exact ⟨ret_bool (by first | rfl | exact (uh HE).symm),al1p _ _⟩
      ·have e2:(wr == 2) = false:=by simp [w2]
       have HE:Hid (D = false):=hide (by rw [uh HV2,e0,e1,e5,e2]; simp)
       clear HV2 w0 w1 w5 w2
       go_enter Tryz.func24,Tryz.ntmps24
       go_wp2_with fail
       go_ret
       exact ⟨ret_bool (by first | rfl | exact (uh HE).symm),al1p _ _⟩
def allA (l:List FA) (num:Int):List FA:=l.filter (fun a => a.n == num)
theorem allA_f (l:List FA) (num:Int):(allA l num).map FA.f = allV (l.map FA.f) num:=by
 unfold allA allV
 rw [List.filter_map]
 rfl
theorem allA_take (l:List FA) (num:Int) (n:Nat) (h:n < l.length):allA (l.take (n + 1)) num = allA (l.take n) num ++ (if (l.getD n noFA).n == num then [l.getD n noFA] else []):=by
 unfold allA
 rw [List.take_add_one,List.filter_append,List.getD_eq_getElem?_getD]
 rw [List.getElem?_eq_getElem h]
 simp [List.filter_cons]
theorem allA_len (l:List FA) (num:Int) (n:Nat):(allA (l.take n) num).length ≤ n:=by
 unfold allA
 have:=List.length_filter_le (fun a => a.n == num) (l.take n)
 rw [List.length_take] at this
 omega
theorem rall_any (p:Option Addr) (c:Nat) (l:List FA) (num:Int) (w:World) (h:Fls w p c l) (hs:l.length * 48 ≤ 140737488355328) :
  Calls Tryz.prog 13 #[.slice p l.length c,.int .i64 num] w fun e w' => ∃ v,e = .returned v ∧ OwnF 63 w w' v (allA l num):=by
 obtain ⟨i1,hi1,y1,z1,b1⟩:=info_parts Tryz.infoRF
 have A1:=hide h.1
 have nl:=h.1.len
 clear h
 go_enter Tryz.func13,Tryz.ntmps13
 go_wp2_with fail
 go_loopw [5,6] (fun v iv wr => ∃ n:Nat,iv = .int .i64 n ∧ n ≤ l.length ∧ Hid (OwnF 63 w wr v (allA (l.take n) num))) (fun _ iv _ => l.length - (intOf iv).toNat)
 case atStart => exact ⟨0,rfl,by omega,hide (OwnF.nil _ _ _ (Below.refl _ _))⟩
 case round =>
  obtain ⟨n,rfl,hn,O⟩:=hrel
  by_cases hlt:n < l.length
  ·have hi:(n:Int) < (l.length:Int):=by omega
   obtain ⟨b,o,rfl,hb,k0,k1,k2,k3⟩:=((uh A1).below (uh O).2).at hlt
   have HT:=hide (allA_take l num n hlt)
   have hal:=allA_len l num n
   generalize l.getD n noFA = a at k0 k1 k2 k3 HT
   by_cases hnm:a.n = num
   ·have tn:(a.n == num) = true:=by simp [hnm]
    have HT2:Hid (allA (l.take (n + 1)) num = allA (l.take n) num ++ [a]):=hide (by rw [uh HT,if_pos tn])
    clear HT hnm
    go_wp2_with (at_builtin; (refine wpList_append_fld rfl _ _ 34 rfl w 63 i1 _ 48 Tryz.underlying34 hi1 y1 z1 b1 rfl _ (allA (l.take n) num) rfl ((uh O).below (al1p _ _)) ⟨_,0,none⟩ 1 a rfl (fa_alloc _ _ _) (by unfold maxLen; omega) (by omega) ?_; intro v2 w2 O2; have HO2:=hide O2; clear O2))
    go_roundw
    case rel => exact ⟨n + 1,by go_num,by omega,hide (by rw [uh HT2]; exact uh HO2)⟩
    case measure => simp [intOf]; omega
   ·have tn:(a.n == num) = false:=by simp [hnm]
    have HT2:Hid (allA (l.take (n + 1)) num = allA (l.take n) num):=hide (by rw [uh HT,if_neg (by rw [tn]; decide),List.append_nil])
    clear HT hnm
    go_wp2_with fail
    go_roundw
    case rel => exact ⟨n + 1,by go_num,by omega,hide (by rw [uh HT2]; exact uh O)⟩
    case measure => simp [intOf]; omega
  ·have hi:¬ (n:Int) < (l.length:Int):=by omega
   have HE:Hid (allA (l.take n) num = allA l num):=hide (by rw [List.take_of_length_le (by omega)])
   go_wp2_with fail
   go_ret
   exact ⟨_,rfl,by rw [← uh HE]; exact uh O⟩
theorem any_take (P:Fld → Bool) (l:List FA) (n:Nat) (h:n < l.length):(l.take (n + 1)).any (fun a => P a.f) = ((l.take n).any (fun a => P a.f) || P (l.getD n noFA).f):=by
 rw [List.take_add_one,List.any_append,List.getD_eq_getElem?_getD,List.getElem?_eq_getElem h]
 simp
theorem any_map (P:Fld → Bool) (l:List FA):(l.map FA.f).any P = l.any (fun a => P a.f):=by rw [List.any_map]; rfl
theorem any_of {P:Fld → Bool} {l:List FA} {n:Nat} (h:n < l.length) (hp:P (l.getD n noFA).f = true):l.any (fun a => P a.f) = true:=List.any_eq_true.2 ⟨_,getD_memF h,hp⟩
theorem wp_region_below {P:Program} {id:Nat} {Q:Exit → Act → World → Prop} {a:Act} {w:World} {l:List Oper} (hm:P.follows .mixedOrders = true) (hB:Region.lexB .any l.toArray = true)
  (h:∀ (T:Type) (f:T → World),Nonempty T → (∀ x,Below w.heap.size w (f x)) → (∀ w',Below w.heap.size w w' → ∃ x,w' = f x) →
   wpQuiet P l.toArray (fun w' => ∃ x,w' = f x) (fun a' => ∀ x,Q .normal a' (f x)) l a):(Code.region id l.toArray true).wp P Q a w:=by
 have h2:=h { w':World // Below w.heap.size w w' } Subtype.val ⟨⟨w,Below.refl _ _⟩⟩ (fun x => x.2) (fun w' hw => ⟨⟨w',hw⟩,rfl⟩)
 refine wp_region_quiet (C:=fun w' => ∃ x:{ w':World // Below w.heap.size w w' },w' = x.1) hm hB ⟨⟨w.drew,(Below.refl _ _).drew⟩,rfl⟩ ?_
 have e:(fun a' => ∀ w',(∃ x:{ w':World // Below w.heap.size w w' },w' = x.1) → Q .normal a' w') = (fun a' => ∀ x:{ w':World // Below w.heap.size w w' },Q .normal a' x.1):=by
  funext a'
  exact propext ⟨fun g x => g x.1 ⟨x,rfl⟩,fun g w' ⟨x,hx⟩ => hx ▸ g x⟩
 rw [e]
 exact h2
theorem calls_qb {P:Program} {g:FuncId} {args:Array Value} {v:Value} {T:Type} {f:T → World} {W:World} (hfb:∀ x,Below W.heap.size W (f x)) (hfc:∀ w',Below W.heap.size W w' → ∃ x,w' = f x) {x:T}
  (h:Calls P g args (f x) fun e w' => e = .returned v ∧ Below (f x).heap.size (f x) w'):Calls P g args (f x) fun e w'' => e = .returned v ∧ ∃ y,w'' = f y :=
 h.mono fun _ _ ⟨he,hb⟩ => ⟨he,hfc _ ((hfb x).trans (hb.mono (hfb x).size))⟩
theorem calls_qs {P:Program} {g:FuncId} {args:Array Value} {v:Value} {T:Type} {f:T → World} {x:T}
  (h:Calls P g args (f x) fun e w' => e = .returned v ∧ w' = f x):Calls P g args (f x) fun e w'' => e = .returned v ∧ ∃ y,w'' = f y :=
 h.mono fun _ _ ⟨he,hb⟩ => ⟨he,x,hb⟩
end Go.Proofs.YtaikppgoahdjbabGreat
