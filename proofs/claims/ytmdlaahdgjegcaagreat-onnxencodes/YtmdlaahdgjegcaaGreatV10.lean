import Derived.Lib.SliceRun
import Derived.SizedLaws
import Derived.Deep.Slices
import Derived.Test.YtmdlaahdgjegcaaGreatV02
import Derived.Test.YtmdlaahdgjegcaaGreatV09
set_option maxRecDepth 100000
set_option maxHeartbeats 8000000
namespace Go.Proofs.YtmdlaahdgjegcaaGreat
open Go.RowKit
set_option linter.unusedVariables false
theorem fa_alloc2 (w:World) (o:Obj) (f:FA) (t:TypeId):∀ j u,(faCells f)[j]? = some u → ((w.alloc o).alloc (.cells #[.int .i64 f.n,.int .i64 f.wr,.int .u64 f.x,.slice f.q f.d.length f.c] t)).cell? ((⟨w.heap.size + 1,0,none⟩:Addr).add j) = some u:=by
 have:=fa_alloc (w.alloc o) f t
 rw [alloc_size6] at this
 exact this
theorem read_step {b:List Int} {n:Nat} {L:List Fld} (hn:n < b.length) (h:readL b = (readL (b.drop n)).map (L ++ ·)):readL b = match oneL (b.drop n) with
  | none => none
  | some y => (readL (b.drop (n + y.2))).map ((L ++ [y.1]) ++ ·):=by
 rw [h,readL_step (by simp; omega)]
 cases oneL (b.drop n) with
 | none => rfl
 | some y =>
   simp only [List.drop_drop]
   cases readL (b.drop (n + y.2)) <;> simp
theorem OwnG.empty {α:Type} {f:α → Value} (t:TypeId) (w:World):OwnG t f w (w.alloc (.cells #[] t)) (.slice (some ⟨w.heap.size,0,none⟩) 0 0) [] :=
 ⟨World.ownsRow_made w #[] 0 (Nat.le_refl _) (by unfold maxLen; omega) (by simp),al1p _ _⟩
theorem ls_two {f:Int → Value} (w:World) (x y:Int) (t:TypeId):Ls f (w.alloc (.cells #[f x,f y] t)) (some ⟨w.heap.size,0,none⟩) 2 [x,y]:=by
 refine ⟨Nat.le_refl _,by omega,fun _ => ⟨w.heap.size,0,rfl,by simp,fun i hi => ?_⟩,fun h => by cases h⟩
 have:i = 0 ∨ i = 1:=by simp at hi; omega
 rcases this with rfl | rfl <;> simp
theorem or128f:∀ z:Fin 256,bits .or .u8 (z.val:Int) 128 = (z.val:Int) % 128 + 128:=by decide +kernel
theorem or128 (y:Int) (h0:0 ≤ y) (h1:y < 256):bits .or .u8 y 128 = y % 128 + 128:=by
 have:=or128f ⟨y.toNat,by omega⟩
 simp only [Int.toNat_of_nonneg h0] at this
 exact this
theorem not128f:∀ z:Fin 256,bits .andNot .u8 (z.val:Int) 128 = (z.val:Int) % 128:=by decide +kernel
theorem not128 (y:Int) (h0:0 ≤ y) (h1:y < 256):bits .andNot .u8 y 128 = y % 128:=by
 have:=not128f ⟨y.toNat,by omega⟩
 simp only [Int.toNat_of_nonneg h0] at this
 exact this
theorem cwithv_any (v0:Value) (os:List Int) (x:Int) (w0 w:World) (ho:OwnG 5 (Value.int .u8) w0 w v0 os) (hn:os.length ≤ 1000) (h0:0 ≤ x) (h1:x < 18446744073709551616) :
  Calls Tryz.prog 247 #[v0,.int .u64 x] w fun e w' => ∃ v,e = .returned v ∧ OwnG 5 (Value.int .u8) w0 w' v (os ++ varV x):=by
 obtain ⟨i1,hi1,y1,z1,b1⟩:=info_parts Tryz.infoU8
 have HO0:=hide ho
 clear ho
 go_enter Tryz.func247,Tryz.ntmps247
 go_wp2_with fail
 go_loopw [0,1] (fun v xv wr => ∃ y:Int,∃ pre:List Int,xv = .int .u64 y ∧ 0 ≤ y ∧ y < 18446744073709551616 ∧ Hid (pre ++ varV y = varV x) ∧ Hid (OwnG 5 (Value.int .u8) w0 wr v (os ++ pre))) (fun _ xv _ => (intOf xv).toNat)
 case atStart => exact ⟨x,[],rfl,h0,h1,hide (by simp),hide (by rw [List.append_nil]; exact uh HO0)⟩
 case round =>
  obtain ⟨y,pre,rfl,g0,g1,HV,O⟩:=hrel
  have hpl:pre.length ≤ 9:=by
   have e:=congrArg List.length (uh HV)
   rw [List.length_append] at e
   have:=varV_len x
   have:=varV_len y
   omega
  have hol:(os ++ pre).length ≤ 1009:=by rw [List.length_append]; omega
  by_cases hy:y < 128
  ·have hge:¬ (128:Int) ≤ y:=by omega
   have HE:=hide ((congrArg (pre ++ ·) (varV_small hy)).symm.trans (uh HV))
   have hwr:IntKind.u8.wrap y = y:=by rw [IntKind.wrap_u8]; omega
   clear HV
   go_wp2_with (at_builtin; (refine wpList_append_ls rfl _ _ 22 rfl w0 5 i1 (.int .u8 0) 1 Tryz.underlying22 hi1 y1 z1 b1 rfl (int_one .u8) _ (os ++ pre) rfl ((uh O).below (al1p _ _)) (some ⟨_,0,none⟩) 1 [y] rfl (ls_one6 _ _ _) (by unfold maxLen; simp only [List.length_singleton]; omega) (by simp only [List.length_singleton]; omega) ?_; intro v2 w2 O2; have HO2:=hide O2; clear O2))
   go_ret
   exact ⟨_,rfl,own_eq6 (uh HO2) (by rw [List.append_assoc]; exact congrArg (os ++ ·) (uh HE))⟩
  ·have hge:(128:Int) ≤ y:=by omega
   have HE:Hid ((pre ++ [y % 128 + 128]) ++ varV (y / 128) = varV x):=hide (by rw [← uh HV,varV_step hy g1,List.append_assoc]; rfl)
   obtain ⟨m,hm⟩:∃ m,y % 128 = m:=⟨_,rfl⟩
   have m0:0 ≤ m:=by omega
   have m1:m < 128:=by omega
   have hor:bits .or .u8 (y % 256) 128 = m + 128:=by rw [or128 _ (by omega) (by omega)]; omega
   rw [hm] at HE
   have d0:0 ≤ y / 128:=by omega
   have d1:y / 128 < 18446744073709551616:=by omega
   clear HV
   go_wp2_with (at_builtin; (refine wpList_append_ls rfl _ _ 22 rfl w0 5 i1 (.int .u8 0) 1 Tryz.underlying22 hi1 y1 z1 b1 rfl (int_one .u8) _ (os ++ pre) rfl ((uh O).below (al1p _ _)) (some ⟨_,0,none⟩) 1 [m + 128] rfl (ls_one6 _ _ _) (by unfold maxLen; simp only [List.length_singleton]; omega) (by simp only [List.length_singleton]; omega) ?_; intro v2 w2 O2; have HO2:=hide O2; clear O2))
   go_roundw
   case rel => exact ⟨y / 128,pre ++ [m + 128],rfl,d0,d1,HE,hide (by rw [← List.append_assoc]; exact uh HO2)⟩
   case measure => simp [intOf]; omega
theorem cvarint_any (x:Int) (w:World) (h0:0 ≤ x) (h1:x < 18446744073709551616) :
  Calls Tryz.prog 214 #[.int .u64 x] w fun e w' => ∃ v,e = .returned v ∧ OwnG 5 (Value.int .u8) w w' v (varV x):=by
 have WV:=hide (cwithv_any (.slice none 0 0) [] x w w (OwnG.nil _ _ _ (Below.refl _ _)) (by simp) h0 h1)
 go_enter Tryz.func214,Tryz.ntmps214
 go_wp2_with fail
 refine (uh WV).mono ?_
 rintro e w1 ⟨v1,rfl,hO⟩
 have HO:=hide hO
 clear hO WV
 go_wp2_with fail
 go_ret
 exact ⟨_,rfl,uh HO⟩
theorem or_shl (x m:Int) (i:Nat) (hi:i ≤ 9) (x0:0 ≤ x) (x1:x < 128 ^ i) (m0:0 ≤ m) (hs:x + 128 ^ i * m < 18446744073709551616):bits .or .u64 x (IntKind.u64.wrap (m * 2 ^ (7 * i))) = x + 128 ^ i * m:=by
 have ep:(128:Int) ^ i = ((2 ^ (7 * i):Nat):Int):=by
  rw [Nat.pow_mul,show (2:Nat) ^ 7 = 128 by decide]; simp
 have ep2:(2:Int) ^ (7 * i) = ((2 ^ (7 * i):Nat):Int):=by simp
 rw [ep] at x1 hs ⊢
 rw [ep2]
 obtain ⟨X,rfl⟩:=Int.eq_ofNat_of_zero_le x0
 obtain ⟨M,rfl⟩:=Int.eq_ofNat_of_zero_le m0
 have hX:X < 2 ^ (7 * i):=Int.ofNat_lt.1 x1
 have key:=Nat.two_pow_add_eq_or_of_lt hX M
 generalize 2 ^ (7 * i) = P at *
 have e1:(P:Int) * (M:Int) = ((P * M:Nat):Int):=by simp
 have e2:(M:Int) * (P:Int) = ((P * M:Nat):Int):=by rw [Int.mul_comm]; exact e1
 rw [e1] at hs ⊢
 rw [e2]
 generalize P * M = Q at *
 have hw:IntKind.u64.wrap (Q:Int) = (Q:Int):=by rw [IntKind.wrap_u64]; omega
 rw [hw]
 have kk:(BitVec.ofInt 64 (X:Int) ||| BitVec.ofInt 64 (Q:Int)).toNat = X + Q:=by
  rw [BitVec.toNat_or,BitVec.toNat_ofInt,BitVec.toNat_ofInt]
  have e1:((X:Int) % ((2 ^ 64:Nat):Int)).toNat = X:=by omega
  have e2:((Q:Int) % ((2 ^ 64:Nat):Int)).toNat = Q:=by omega
  rw [e1,e2,Nat.or_comm,← key]
  omega
 show IntKind.u64.wrap ((BitVec.ofInt 64 (X:Int) ||| BitVec.ofInt 64 (Q:Int)).toNat:Nat) = (X:Int) + (Q:Int)
 rw [kk,IntKind.wrap_u64]
 omega
theorem crdv_any (p:Option Addr) (c:Nat) (b:List Int) (at':Int) (w:World) (h:Ints .u8 w p c b) (hs:b.length ≤ 4611686018427387904) :
  Calls Tryz.prog 190 #[.slice p b.length c,.int .i64 at'] w fun e w' => e = .returned (.tuple #[.int .u64 (rdV b at').1,.int .i64 (rdV b at').2.1,.int .i64 (rdV b at').2.2]) ∧ w' = w:=by
 have A1:=hide h
 have bl:=h.len
 have hB:=wf_isB h.2.2.1
 have hcb:=h.1
 have hcm:=h.2.1
 have hpn:=h.2.2.2.2
 clear h
 by_cases hlo:at' < 0
 ·have e:rdV b at' = (0,0,2):=by unfold rdV; rw [if_pos (.inl hlo)]
  rw [e]
  clear e
  have t1:decide (at' < 0) = true:=by simp [hlo]
  go_enter Tryz.func190,Tryz.ntmps190
  go_wp2_with fail
  go_ret3
  exact ⟨rfl,rfl⟩
 ·have t1:decide (at' < 0) = false:=by simp; omega
  by_cases hhi:(b.length:Int) < at'
  ·have e:rdV b at' = (0,0,2):=by unfold rdV; rw [if_pos (.inr hhi)]
   rw [e]
   clear e
   have t2:decide ((b.length:Int) < at') = true:=by simp [hhi]
   go_enter Tryz.func190,Tryz.ntmps190
   go_wp2_with fail
   go_ret3
   exact ⟨rfl,rfl⟩
  ·have t2:decide ((b.length:Int) < at') = false:=by simp; omega
   obtain ⟨n,hn⟩:∃ n:Nat,at' = (n:Int):=⟨at'.toNat,by omega⟩
   subst hn
   have hnb:n ≤ b.length:=by omega
   have HR:Hid (rdV b (n:Int) = match rdG 10 (b.drop n) with
     | none => (0,0,6)
     | some y => (y.1,((n + y.2:Nat):Int),0)):=hide (by
    unfold rdV rdN
    rw [if_neg (by omega),Int.toNat_natCast]
    cases rdG 10 (b.drop n) <;> rfl)
   obtain ⟨R,hR⟩:∃ R,rdV b (n:Int) = R:=⟨_,rfl⟩
   rw [hR] at HR ⊢
   obtain ⟨R1,R2,R3⟩:=R
   simp only
   clear hR
   by_cases hend:n = b.length
   ·have HE:Hid (R1 = 0 ∧ R2 = 0 ∧ R3 = 6):=hide (by
     have hr:=uh HR
     rw [List.drop_of_length_le (by omega),rdG] at hr
     simpa using hr)
    clear HR hB A1
    have t3:¬ (0:Int) < ((b.length - n:Nat):Int):=by omega
    have key:∀ q:Option Addr,q = p → Calls Tryz.prog 190 #[.slice q b.length c,.int .i64 n] w fun e w' => e = .returned (.tuple #[.int .u64 R1,.int .i64 R2,.int .i64 R3]) ∧ w' = w:=by
     intro q hq
     cases q with
     | none =>
       have hc0:c = 0:=hpn hq.symm
       have hb0:b.length = 0:=by omega
       have hn0:n = 0:=by omega
       subst hc0 hn0
       rw [hb0]
       clear hq hpn hcb hcm hend t3 t1 t2 hlo hhi hs bl hnb hb0
       go_enter Tryz.func190,Tryz.ntmps190
       go_wp2_with fail
       go_loop [22] (fun iv => iv = .int .i64 0) (fun iv => 0)
       case atStart => rfl
       case round =>
        subst hrel
        go_wp2_with fail
        go_ret3
        exact ⟨Tryz.f_int3 (uh HE).1.symm (uh HE).2.1.symm (uh HE).2.2.symm,rfl⟩
     | some ad =>
       clear hq hpn
       obtain ⟨B,hBl⟩:∃ B,b.length = B:=⟨_,rfl⟩
       rw [hBl] at hend t3 hcb hs bl hnb hhi t2 ⊢
       subst hend
       clear hBl
       by_cases hcn:c = n
       ·subst hcn
        go_enter Tryz.func190,Tryz.ntmps190
        go_wp2_with fail
        go_loop [22] (fun iv => iv = .int .i64 0) (fun iv => 0)
        case atStart => rfl
        case round =>
         subst hrel
         go_wp2_with fail
         go_ret3
         exact ⟨Tryz.f_int3 (uh HE).1.symm (uh HE).2.1.symm (uh HE).2.2.symm,rfl⟩
       ·go_enter Tryz.func190,Tryz.ntmps190
        go_wp2_with fail
        go_loop [22] (fun iv => iv = .int .i64 0) (fun iv => 0)
        case atStart => rfl
        case round =>
         subst hrel
         go_wp2_with fail
         go_ret3
         exact ⟨Tryz.f_int3 (uh HE).1.symm (uh HE).2.1.symm (uh HE).2.2.symm,rfl⟩
    exact key p rfl
   ·obtain ⟨b3,o3,e3,hb3,hc3⟩:=(uh A1).lies (show 0 < b.length by omega)
    subst e3
    have HC3:=hide hc3
    have hnl:n < b.length:=by omega
    clear hpn A1 hc3 hend
    go_enter Tryz.func190,Tryz.ntmps190
    go_wp2_with fail
    go_loop [7,22] (fun xv iv => ∃ i:Nat,∃ x:Int,iv = .int .i64 i ∧ xv = .int .u64 x ∧ i ≤ 9 ∧ i ≤ b.length - n ∧ 0 ≤ x ∧ x < 18446744073709551616 ∧ Hid (x < 128 ^ i) ∧ Hid (rdG 10 (b.drop n) = comb i x (rdG (10 - i) (b.drop (n + i))))) (fun _ iv => 10 - (intOf iv).toNat)
    case atStart => exact ⟨0,0,rfl,rfl,by omega,by omega,by omega,by omega,hide (by decide),hide (by rw [comb_zero]; rfl)⟩
    case round =>
     obtain ⟨i,x,rfl,rfl,hi,hil,x0,x1,HU,HC⟩:=hrel
     by_cases hin:n + i < b.length
     ·have tn:(i:Int) < ((b.length - n:Nat):Int):=by omega
      have k3:w.cell? ⟨b3,o3 + n + i,none⟩ = some (.int .u8 (b.getD (n + i) 0)):=by rw [Nat.add_assoc]; exact uh HC3 (n + i) hin
      obtain ⟨c0,c1⟩:=hB _ (getD_mem6 hin)
      have HD:=hide (drop_cons6 hin)
      generalize b.getD (n + i) 0 = cc at k3 c0 c1 HD
      have HK:Hid (rdG 10 (b.drop n) = comb i x (rdG ((9 - i) + 1) (cc :: b.drop (n + i + 1)))):=hide (by
       rw [uh HC,uh HD,show 10 - i = (9 - i) + 1 by omega])
      clear HC HD
      obtain ⟨m7,hm7⟩:∃ m7,cc % 128 = m7:=⟨_,rfl⟩
      have g0:0 ≤ m7:=by omega
      have g1:m7 ≤ 127:=by omega
      by_cases hbad:i = 9 ∧ 1 < cc
      ·obtain ⟨hb1,hb2⟩:=hbad
       subst hb1
       have HE:Hid (R1 = 0 ∧ R2 = 0 ∧ R3 = 6):=hide (by
        have hr:=uh HR
        rw [uh HK,rdG,if_pos ⟨by omega,hb2⟩] at hr
        simpa [comb] using hr)
       clear HK HR HU
       go_wp2_with fail
       go_ret3
       exact ⟨Tryz.f_int3 (uh HE).1.symm (uh HE).2.1.symm (uh HE).2.2.symm,rfl⟩
      ·have hmul:x + 128 ^ i * m7 < 18446744073709551616:=by
        obtain ⟨P0,P1⟩:=pow128_le i hi
        have q1:=uh HU
        by_cases h9:i = 9
        ·have hc1:cc ≤ 1:=by omega
         have h1:m7 ≤ 1:=by omega
         have h2:128 ^ i * m7 ≤ 128 ^ i * 1:=Int.mul_le_mul_of_nonneg_left h1 (by omega)
         omega
        ·have h2:128 ^ i * m7 ≤ 128 ^ i * 127:=Int.mul_le_mul_of_nonneg_left g1 (by omega)
         obtain ⟨Q0,Q1⟩:=pow128_le (i + 1) (by omega)
         rw [Int.pow_succ] at Q1
         omega
       have HOR:=hide (or_shl x m7 i hi x0 (uh HU) g0 hmul)
       have hnot:bits .andNot .u8 cc 128 = m7:=by rw [not128 _ c0 c1,hm7]
       have HBD:Hid (¬ (9 - i = 0 ∧ 1 < cc)):=hide (fun h => hbad ⟨by omega,h.2⟩)
       obtain ⟨X,hX⟩:∃ X,x + 128 ^ i * m7 = X:=⟨_,rfl⟩
       have hor:=uh HOR
       rw [hX] at hor
       have X0:0 ≤ X:=by
        have:0 ≤ (128:Int) ^ i * m7:=Int.mul_nonneg (by have:=(pow128_le i hi).1; omega) g0
        omega
       have X1:X < 18446744073709551616:=by omega
       have HX:=hide hX
       clear HOR hmul hX
       by_cases hc:cc < 128
       ·have HE:Hid (R1 = X ∧ R2 = (n:Int) + (i:Int) + 1 ∧ R3 = 0):=hide (by
         have hr:=uh HR
         rw [uh HK,comb_end i x cc (9 - i) _ (uh HBD) hc,hm7,uh HX] at hr
         simp only [Prod.mk.injEq] at hr
         refine ⟨hr.1,?_,hr.2.2⟩
         rw [hr.2.1]
         omega)
        by_cases h9:i = 9
        ·subst h9
         have tc:¬ 1 < cc:=by omega
         have hor9:bits .or .u64 x (m7 * 9223372036854775808) = X:=by
          rw [← hor,show (2:Int) ^ (7 * 9) = 9223372036854775808 by decide,show IntKind.u64.wrap (m7 * 9223372036854775808) = m7 * 9223372036854775808 by rw [IntKind.wrap_u64]; omega]
         clear HK HR HU HX HBD hbad hor
         go_wp2_with fail
         go_ret3
         exact ⟨Tryz.f_int3 (uh HE).1.symm (uh HE).2.1.symm (uh HE).2.2.symm,rfl⟩
        ·have ti9:((i:Int) == 9) = false:=by simp; omega
         clear HK HR HU HX HBD hbad
         go_wp2_with fail
         go_ret3
         exact ⟨Tryz.f_int3 (uh HE).1.symm (uh HE).2.1.symm (uh HE).2.2.symm,rfl⟩
       ·have h9:¬ i = 9:=fun e => hbad ⟨e,by omega⟩
        have ti9:((i:Int) == 9) = false:=by simp; omega
        have HK2:Hid (rdG 10 (b.drop n) = comb (i + 1) X (rdG (10 - (i + 1)) (b.drop (n + (i + 1))))):=hide (by
         rw [uh HK,comb_step i x cc (9 - i) _ (uh HBD) hc,hm7,uh HX,show 9 - i = 10 - (i + 1) by omega]
         rfl)
        have HU2:Hid (X < 128 ^ (i + 1)):=hide (by
         have h2:128 ^ i * m7 ≤ 128 ^ i * 127:=Int.mul_le_mul_of_nonneg_left g1 (by have:=(pow128_le i hi).1; omega)
         have q1:=uh HU
         have q2:=uh HX
         rw [Int.pow_succ]
         omega)
        clear HK HR HU HX HBD hbad
        go_wp2_with fail
        go_round
        case rel => exact ⟨i + 1,X,by go_num,rfl,by omega,by omega,X0,X1,HU2,HK2⟩
        case measure => simp [intOf]; omega
     ·have tn:¬ (i:Int) < ((b.length - n:Nat):Int):=by omega
      have HE:Hid (R1 = 0 ∧ R2 = 0 ∧ R3 = 6):=hide (by
       have hr:=uh HR
       rw [uh HC,List.drop_of_length_le (by omega),show 10 - i = (9 - i) + 1 by omega,rdG] at hr
       simpa [comb] using hr)
      clear HC HR HU
      go_wp2_with fail
      go_ret3
      exact ⟨Tryz.f_int3 (uh HE).1.symm (uh HE).2.1.symm (uh HE).2.2.symm,rfl⟩
theorem cclone_any (p:Option Addr) (c:Nat) (xs:List Int) (w:World) (h:Ls (Value.int .u8) w p c xs) (hs:xs.length ≤ 140737488355328) :
  Calls Tryz.prog 243 #[.slice p xs.length c] w fun e w' => ∃ v,e = .returned v ∧ OwnG 5 (Value.int .u8) w w' v xs:=by
 obtain ⟨i1,hi1,y1,z1,b1⟩:=info_parts Tryz.infoU8
 have A1:=hide h
 have hnil:=fun (w:World) (a:Option Addr) (n c:Nat) => Go.Lib.run_eql_slice_nil (P:=Tryz.prog) w 22 5 a n c 0 0 Tryz.underlying22
 cases p with
 | none =>
   have hc0:c = 0:=h.2.2.2 rfl
   have hx0:xs = []:=List.eq_nil_of_length_eq_zero (by have:=h.1; omega)
   subst hc0 hx0
   clear h
   go_enter Tryz.func243,Tryz.ntmps243
   go_wp2_with fail
   go_ret
   exact ⟨_,rfl,OwnG.nil _ _ _ (Below.refl _ _)⟩
 | some ad =>
   clear h
   go_enter Tryz.func243,Tryz.ntmps243
   go_wp2_with (at_builtin; (refine wpList_append_ls rfl _ _ 22 rfl w 5 i1 (.int .u8 0) 1 Tryz.underlying22 hi1 y1 z1 b1 rfl (int_one .u8) _ [] rfl (OwnG.empty _ _) (some ad) c xs rfl ((uh A1).below (al1p _ _)) (by unfold maxLen; simp only [List.length_nil]; omega) (by simp only [List.length_nil]; omega) ?_; intro v2 w2 O2; have HO2:=hide O2; clear O2))
   go_ret
   exact ⟨_,rfl,uh HO2⟩
theorem or256 (y x:Int) (h0:0 ≤ y) (x0:0 ≤ x) (x1:x < 256) (hs:y * 256 + x < 18446744073709551616):bits .or .u64 (y * 256) x = y * 256 + x:=by
 have key:(BitVec.ofInt 64 (y * 256) ||| BitVec.ofInt 64 x).toNat = y.toNat * 256 + x.toNat:=by
  rw [BitVec.toNat_or,BitVec.toNat_ofInt,BitVec.toNat_ofInt]
  have e1:((y * 256) % ((2 ^ 64:Nat):Int)).toNat = 2 ^ 8 * y.toNat:=by omega
  have e2:(x % ((2 ^ 64:Nat):Int)).toNat = x.toNat:=by omega
  rw [e1,e2,← Nat.two_pow_add_eq_or_of_lt (by omega)]
  omega
 show IntKind.u64.wrap ((BitVec.ofInt 64 (y * 256) ||| BitVec.ofInt 64 x).toNat:Nat) = y * 256 + x
 rw [key,IntKind.wrap_u64]
 omega
theorem cwide_any (p:Option Addr) (c:Nat) (b:List Int) (m k:Nat) (w:World) (h:Ints .u8 w p c b) (hm:m ≤ b.length) (hs:b.length ≤ 4611686018427387904) (hk:k ≤ 8) (hk1:1 ≤ k) :
  Calls Tryz.prog 242 #[.slice p b.length c,.int .i64 m,.int .i64 k] w fun e w' => e = .returned (if b.length < m + k then .tuple #[.int .u64 0,.int .i64 0,.int .i64 6] else .tuple #[.int .u64 (leV ((b.drop m).take k)),.int .i64 ((m + k:Nat):Int),.int .i64 0]) ∧ w' = w:=by
 have A1:=hide h
 have hB:=wf_isB h.2.2.1
 clear h
 by_cases hsh:b.length < m + k
 ·rw [if_pos hsh]
  have t1:(b.length:Int) - (m:Int) < (k:Int):=by omega
  go_enter Tryz.func242,Tryz.ntmps242
  go_wp2_with fail
  go_ret3
  exact ⟨rfl,rfl⟩
 ·rw [if_neg hsh]
  have t1:¬ (b.length:Int) - (m:Int) < (k:Int):=by omega
  obtain ⟨R,hR⟩:∃ R,leV ((b.drop m).take k) = R:=⟨_,rfl⟩
  have HR:=hide hR
  rw [hR]
  clear hR
  obtain ⟨b3,o3,e3,hb3,hc3⟩:=(uh A1).lies (show 0 < b.length by omega)
  subst e3
  have HC3:=hide hc3
  clear hc3 A1
  have hlen:((b.drop m).take k).length = k:=by simp; omega
  have HLEN:=hide hlen
  have HGET:Hid (∀ n,n < k → ((b.drop m).take k).getD n 0 = b.getD (m + n) 0):=hide (fun n hn => by
   simp [List.getD_eq_getElem?_getD,List.getElem?_take_of_lt hn])
  generalize (b.drop m).take k = d at HR HLEN HGET
  clear hlen
  go_enter Tryz.func242,Tryz.ntmps242
  go_wp2_with fail
  go_loop [9,10] (fun xv iv => ∃ n:Nat,∃ y:Int,iv = .int .i64 ((n:Int) - 1) ∧ xv = .int .u64 y ∧ n ≤ k ∧ 0 ≤ y ∧ Hid (y < 256 ^ (k - n)) ∧ Hid (y = leV (d.drop n))) (fun _ iv => (intOf iv + 1).toNat)
  case atStart => exact ⟨k,0,rfl,rfl,by omega,by omega,hide (by simp),hide (by rw [List.drop_of_length_le (by rw [uh HLEN]; omega)]; rfl)⟩
  case round =>
   obtain ⟨n,y,rfl,rfl,hn,y0,HB,HY⟩:=hrel
   by_cases h0:n = 0
   ·subst h0
    have HE:Hid (y = R):=hide (by rw [uh HY,← uh HR]; rfl)
    clear HY HB
    go_wp2_with fail
    go_ret3
    exact ⟨Tryz.f_int3 (uh HE) (by omega) rfl,rfl⟩
   ·obtain ⟨j,rfl⟩:∃ j,n = j + 1:=⟨n - 1,by omega⟩
    have hjb:m + j < b.length:=by omega
    have hge:(0:Int) ≤ (j:Int):=by omega
    have hki:((j + 1:Nat):Int) - 1 = (j:Int):=by omega
    have k3:w.cell? ⟨b3,o3 + (m + j),none⟩ = some (.int .u8 (b.getD (m + j) 0)):=uh HC3 (m + j) hjb
    have hk2:((m + j:Nat):Int) < (b.length:Int):=by omega
    have hmj:(m:Int) + (j:Int) = ((m + j:Nat):Int):=by omega
    obtain ⟨c0,c1⟩:=hB _ (getD_mem6 hjb)
    have HGJ:=hide (uh HGET j (by omega))
    have hpw:y < 72057594037927936:=by
     have h1:=uh HB
     have h2:(256:Int) ^ (k - (j + 1)) ≤ 256 ^ 7:=by
      have:=Nat.pow_le_pow_right (show 0 < 256 by decide) (show k - (j + 1) ≤ 7 by omega)
      have h3:((256 ^ (k - (j + 1)):Nat):Int) ≤ ((256 ^ 7:Nat):Int):=Int.ofNat_le.2 this
      simpa using h3
     have h4:(256:Int) ^ 7 = 72057594037927936:=by decide
     omega
    generalize b.getD (m + j) 0 = x at k3 c0 c1 HGJ
    have HY2:Hid (y * 256 + x = leV (d.drop j)):=hide (by rw [leV_drop (by rw [uh HLEN]; omega),uh HGJ,uh HY]; omega)
    have HB2:Hid (y * 256 + x < 256 ^ (k - j)):=hide (by
     have h1:=uh HB
     rw [show k - j = (k - (j + 1)) + 1 by omega,Int.pow_succ]
     generalize (256:Int) ^ (k - (j + 1)) = P at h1 ⊢
     omega)
    have hor:=or256 y x y0 c0 c1 (by omega)
    obtain ⟨M,hM⟩:∃ M,m + j = M:=⟨_,rfl⟩
    rw [hM] at k3 hk2 hmj
    clear HY HB hjb hM HGJ
    rw [hki]
    go_wp2_with fail
    go_round
    case rel => exact ⟨j,y * 256 + x,by go_num,rfl,by omega,by omega,HB2,HY2⟩
    case measure => simp [intOf]
theorem cfour_any (p:Option Addr) (c:Nat) (b:List Int) (m:Nat) (w:World) (h:Ints .u8 w p c b) (hm:m ≤ b.length) (hs:b.length ≤ 4611686018427387904) :
  Calls Tryz.prog 192 #[.slice p b.length c,.int .i64 m] w fun e w' => e = .returned (if b.length < m + 4 then .tuple #[.int .u64 0,.int .i64 0,.int .i64 6] else .tuple #[.int .u64 (leV ((b.drop m).take 4)),.int .i64 ((m + 4:Nat):Int),.int .i64 0]) ∧ w' = w:=by
 have CW:=hide (cwide_any p c b m 4 w h hm hs (by omega) (by omega))
 by_cases hsh:b.length < m + 4
 ·rw [if_pos hsh] at CW ⊢
  go_enter Tryz.func192,Tryz.ntmps192
  go_wp2_with fail
  refine (uh CW).mono ?_
  rintro e v ⟨rfl,rfl⟩
  go_wp2_with fail
  go_ret3
  exact ⟨rfl,rfl⟩
 ·rw [if_neg hsh] at CW ⊢
  generalize leV ((b.drop m).take 4) = R at CW ⊢
  generalize ((m + 4:Nat):Int) = R2 at CW ⊢
  go_enter Tryz.func192,Tryz.ntmps192
  go_wp2_with fail
  refine (uh CW).mono ?_
  rintro e v ⟨rfl,rfl⟩
  go_wp2_with fail
  go_ret3
  exact ⟨rfl,rfl⟩
theorem ceight_any (p:Option Addr) (c:Nat) (b:List Int) (m:Nat) (w:World) (h:Ints .u8 w p c b) (hm:m ≤ b.length) (hs:b.length ≤ 4611686018427387904) :
  Calls Tryz.prog 191 #[.slice p b.length c,.int .i64 m] w fun e w' => e = .returned (if b.length < m + 8 then .tuple #[.int .u64 0,.int .i64 0,.int .i64 6] else .tuple #[.int .u64 (leV ((b.drop m).take 8)),.int .i64 ((m + 8:Nat):Int),.int .i64 0]) ∧ w' = w:=by
 have CW:=hide (cwide_any p c b m 8 w h hm hs (by omega) (by omega))
 by_cases hsh:b.length < m + 8
 ·rw [if_pos hsh] at CW ⊢
  go_enter Tryz.func191,Tryz.ntmps191
  go_wp2_with fail
  refine (uh CW).mono ?_
  rintro e v ⟨rfl,rfl⟩
  go_wp2_with fail
  go_ret3
  exact ⟨rfl,rfl⟩
 ·rw [if_neg hsh] at CW ⊢
  generalize leV ((b.drop m).take 8) = R at CW ⊢
  generalize ((m + 8:Nat):Int) = R2 at CW ⊢
  go_enter Tryz.func191,Tryz.ntmps191
  go_wp2_with fail
  refine (uh CW).mono ?_
  rintro e v ⟨rfl,rfl⟩
  go_wp2_with fail
  go_ret3
  exact ⟨rfl,rfl⟩
def OwnD (B:Nat) (w:World) (a:FA):Prop:=w.ownsRow B 5 1 (.slice a.q a.d.length a.c) a.d.length (a.d.map (Value.int .u8))
theorem OwnD.mono {B C:Nat} {w:World} {a:FA} (h:OwnD B w a) (hc:C ≤ B):OwnD C w a:=by
 obtain ⟨h1,h2⟩:=h
 refine ⟨h1,?_⟩
 rcases h2 with g | ⟨g,cap,cur,hv,hb,rest⟩
 ·exact .inl g
 ·exact .inr ⟨g,cap,cur,hv,Nat.le_trans hc hb,rest⟩
theorem OwnD.kept {B:Nat} {w w':World} {a:FA} (h:OwnD B w a) (hk:∀ g cur,B ≤ g → w.heap[g]? = some (.cells cur 5 (0,0)) → w'.heap[g]? = w.heap[g]?):OwnD B w' a:=by
 obtain ⟨h1,h2⟩:=h
 refine ⟨h1,?_⟩
 rcases h2 with g | ⟨g,cap,cur,hv,hb,hh,rest⟩
 ·exact .inl g
 ·exact .inr ⟨g,cap,cur,hv,hb,(hk g cur hb hh).trans hh,rest⟩
theorem OwnD.below {B:Nat} {w w':World} {a:FA} (h:OwnD B w a) (hb:Below w.heap.size w w'):OwnD B w' a:=h.kept (fun g cur _ hh => hb.block g (lt_of_block hh))
theorem OwnD.no (B:Nat) (w:World) (n wr x:Int):OwnD B w ⟨n,wr,x,[],none,0⟩:=World.ownsRow_nil _ _ _ _
theorem OwnD.ty {B:Nat} {w:World} {a:FA} (h:OwnD B w a):DTy 5 w a:=fun hp => by
 rcases h.2 with ⟨_,hn⟩ | ⟨g,cap,cur,hv,hb,hh,_⟩
 ·omega
 ·simp only [Value.slice.injEq] at hv
  exact ⟨g,0,cur,hv.1,hh⟩
theorem OwnD.grown {B:Nat} {e:TypeId} {w w0 w':World} {a:FA} {v:Value} {l:List FA} (h:OwnD B w a) (ho:OwnF e w0 w v l) (hne:¬ e = 5) (hg:w.grownBy w' v.ownBlock):OwnD B w' a:=by
 refine h.kept (fun b cur _ hb => ?_)
 refine hg.block b (lt_of_block hb) (fun e2 => ?_)
 rcases ho.1.2 with ⟨hv,_⟩ | ⟨k,cap,cur2,hv,_,hh,_⟩
 ·rw [hv] at e2; cases e2
 ·rw [hv] at e2
  simp only [Value.ownBlock,Option.some.injEq] at e2
  subst e2
  rw [hb] at hh
  simp only [Option.some.injEq,Obj.cells.injEq] at hh
  exact hne hh.2.1.symm
theorem OwnD.set5 {B C:Nat} {w:World} {a:FA} {g r:Nat} (h:OwnD B w a) (hg:g < B) (hr:r < B) (j:Nat) (u u0 u1 u2 u3:Value) :
  OwnD B (((((w.setCell ⟨g,j,none⟩ u).setCell ⟨r,0,none⟩ u0).setCell ⟨r,1,none⟩ u1).setCell ⟨r,2,none⟩ u2).setCell ⟨r,3,none⟩ u3) a:=by
 refine h.kept (fun b cur hb _ => ?_)
 rw [Below.heap_setCell _ _ _ _ (by simp; omega),Below.heap_setCell _ _ _ _ (by simp; omega),Below.heap_setCell _ _ _ _ (by simp; omega),Below.heap_setCell _ _ _ _ (by simp; omega),Below.heap_setCell _ _ _ _ (by simp; omega)]
theorem own_d {w wr:World} {n wi x:Int} {d:List Int} {q:Option Addr} {c:Nat} (h:OwnG 5 (Value.int .u8) w wr (.slice q d.length c) d):OwnD w.heap.size wr ⟨n,wi,x,d,q,c⟩:=h.1
theorem cdata_no (p:Option Addr) (c:Nat) (b:List Int) (m:Nat) (w:World) (h:Ints .u8 w p c b) (hm:m ≤ b.length) (hs:b.length ≤ 4194304)
  (hno:∀ x q,rdG 10 (b.drop m) = some (x,q) → (b.length:Int) < ((m + q:Nat):Int) + x) :
  Calls Tryz.prog 193 #[.slice p b.length c,.int .i64 m] w fun e w' => e = .returned (.tuple #[.slice none 0 0,.int .i64 0,.int .i64 6]) ∧ w' = w:=by
 have hB:=hide (wf_isB h.2.2.1)
 have RV:=hide (crdv_any p c b (m:Int) w h (by omega))
 rw [rdV_in hm] at RV
 clear h
 cases hy:rdG 10 (b.drop m) with
 | none =>
   rw [hy] at RV
   simp only at RV
   clear hno hy
   go_enter Tryz.func193,Tryz.ntmps193
   go_wp2_with fail
   refine (uh RV).mono ?_
   rintro e v ⟨rfl,rfl⟩
   go_wp2_with fail
   go_ret3
   exact ⟨rfl,rfl⟩
 | some y =>
   obtain ⟨x,q⟩:=y
   rw [hy] at RV
   simp only at RV
   obtain ⟨x0,x1⟩:=rdG10_range (isB_drop (uh hB) m) hy
   obtain ⟨q1,q2,q3⟩:=rdG_count 10 _ x q hy
   simp at q3
   have hbig:=hno x q hy
   obtain ⟨m2,hm2⟩:∃ m2,m + q = m2:=⟨_,rfl⟩
   rw [hm2] at RV hbig
   have hm2b:m2 ≤ b.length:=by omega
   have tsh:(b.length:Int) - (m2:Int) < x:=by omega
   clear hno hy hbig hm2
   go_enter Tryz.func193,Tryz.ntmps193
   go_wp2_with fail
   refine (uh RV).mono ?_
   rintro e v ⟨rfl,rfl⟩
   go_wp2_with fail
   go_ret3
   exact ⟨rfl,rfl⟩
theorem cdata_yes (p:Option Addr) (c:Nat) (b:List Int) (m X q:Nat) (w:World) (h:Ints .u8 w p c b) (hm:m ≤ b.length) (hs:b.length ≤ 4194304)
  (hy:rdG 10 (b.drop m) = some ((X:Int),q)) (hX:m + q + X ≤ b.length) :
  Calls Tryz.prog 193 #[.slice p b.length c,.int .i64 m] w fun e w' => ∃ v,e = .returned (.tuple #[v,.int .i64 ((m + q + X:Nat):Int),.int .i64 0]) ∧ OwnG 5 (Value.int .u8) w w' v ((b.drop (m + q)).take X):=by
 have A1:=hide h
 have hcap:=h.1
 have hcm:=h.2.1
 have RV:=hide (crdv_any p c b (m:Int) w h (by omega))
 rw [rdV_in hm] at RV
 clear h
 rw [hy] at RV
 simp only at RV
 obtain ⟨q1,q2,q3⟩:=rdG_count 10 _ _ q hy
 simp at q3
 obtain ⟨m2,hm2⟩:∃ m2,m + q = m2:=⟨_,rfl⟩
 rw [hm2] at RV hX ⊢
 have hm2b:m2 ≤ b.length:=by omega
 have tsh:¬ (b.length:Int) - (m2:Int) < (X:Int):=by omega
 obtain ⟨b3,o3,e3,hb3,hc3⟩:=(uh A1).lies (show 0 < b.length by omega)
 have CT:=hide ((uh A1).cut e3 m2 X (by omega)).ls
 have hlen:((b.drop m2).take X).length = X:=by simp; omega
 subst e3
 have CL:Hid (∀ q d,Ls (Value.int .u8) w q d ((b.drop m2).take X) → Calls Tryz.prog 243 #[.slice q X d] w fun e w' => ∃ v,e = .returned v ∧ OwnG 5 (Value.int .u8) w w' v ((b.drop m2).take X)):=hide (fun q d hq => by
  have:=cclone_any q d _ w hq (by rw [hlen]; omega)
  rw [hlen] at this
  exact this)
 have HN:Hid (∀ q d,X = 0 → 0 ≤ d → d ≤ 9223372036854775807 → Ls (Value.int .u8) w (some q) d ((b.drop m2).take X)):=hide (fun q d hx h0 h1 => by
  rw [hx,List.take_zero]
  exact ⟨by simp,h1,fun hp => by simp at hp,fun hp => by cases hp⟩)
 generalize (b.drop m2).take X = dd at CT CL HN ⊢
 clear hc3 A1 hlen hy
 obtain ⟨M3,hM3⟩:∃ M3,m2 + X = M3:=⟨_,rfl⟩
 have hwS:(m2:Int) + (X:Int) = (M3:Int):=by omega
 have hM1:M3 ≤ c:=by omega
 have hM2:m2 ≤ M3:=by omega
 have hM4:M3 - m2 = X:=by omega
 have hM5:M3 ≤ b.length:=by omega
 have hX0:X ≤ b.length:=by omega
 rw [hM3]
 clear hM3 hX hm2
 by_cases hcx:c = m2
 ·have hx0:X = 0:=by omega
  subst hcx hx0
  have hM6:M3 = c:=by omega
  subst hM6
  have CL2:=hide (uh CL (some ⟨b3,o3,none⟩) 0 (uh HN _ _ rfl (by omega) (by omega)))
  clear CL HN CT
  go_enter Tryz.func193,Tryz.ntmps193
  go_wp2_with fail
  refine (uh RV).mono ?_
  rintro e v ⟨rfl,hv⟩
  replace hv:=hv.symm
  subst hv
  go_wp2_with fail
  refine (uh CL2).mono ?_
  rintro e w1 ⟨v1,rfl,hO⟩
  have HO:=hide hO
  clear hO CL2
  go_wp2_with fail
  go_ret3
  exact ⟨_,rfl,uh HO⟩
 ·have CL2:=hide (uh CL (some ⟨b3,o3 + m2,none⟩) (c - m2) (uh CT))
  clear CL HN CT
  go_enter Tryz.func193,Tryz.ntmps193
  go_wp2_with fail
  refine (uh RV).mono ?_
  rintro e v ⟨rfl,hv⟩
  replace hv:=hv.symm
  subst hv
  go_wp2_with fail
  refine (uh CL2).mono ?_
  rintro e w1 ⟨v1,rfl,hO⟩
  have HO:=hide hO
  clear hO CL2
  go_wp2_with fail
  go_ret3
  exact ⟨_,rfl,uh HO⟩
theorem weights_mem_all {H:Type} {P:Program} {e:TypeId} {d:DataW H}:∀ {l:List (DataW H)},d ∈ l → ∀ m ∈ d.weights P e,m ∈ DataW.weightsAll P e l
 | x :: r,hd,m,hm => by
   rw [DataW.weightsAll,List.mem_append]
   rcases List.mem_cons.1 hd with h | h
   ·subst h; exact .inl hm
   ·exact .inr (weights_mem_all h m hm)
end Go.Proofs.YtmdlaahdgjegcaaGreat
