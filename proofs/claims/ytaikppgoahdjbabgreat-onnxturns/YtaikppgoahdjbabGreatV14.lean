import Derived.Lib.SliceRun
import Derived.SizedLaws
import Derived.Deep.Slices
import Derived.Deep.Strs
import Derived.Test.YtaikppgoahdjbabGreatV01
import Derived.Test.YtaikppgoahdjbabGreatV02
import Derived.Test.YtaikppgoahdjbabGreatV07
import Derived.Test.YtaikppgoahdjbabGreatV12
set_option maxRecDepth 100000
set_option maxHeartbeats 8000000
namespace Go.Proofs.YtaikppgoahdjbabGreat
open Go.RowKit
set_option linter.unusedVariables false
theorem fa_alloc2 (w:World) (o:Obj) (f:FA) (t:TypeId):∀ j u,(faCells f)[j]? = some u → ((w.alloc o).alloc (.cells #[.int .i64 f.n,.int .i64 f.wr,.int .u64 f.x,.slice f.q f.d.length f.c] t)).cell? ((⟨w.heap.size + 1,0,none⟩:Addr).add j) = some u:=by
 have:=fa_alloc (w.alloc o) f t
 rw [alloc_size6] at this
 exact this
theorem read_step {b:List Int} {n:Nat} {L:List Fld} (hn:n < b.length) (h:readL b = (readL (b.drop n)).map (L ++ ·)):readL b = match oneL (b.drop n) with
  | none => none
  | some y => (readL (b.drop (n + y.2))).map ((L ++ [y.1]) ++ ·):=by
 rw [h,readL_step (by simp; omega)]
 cases oneL (b.drop n) with
 | none => rfl
 | some y =>
   simp only [List.drop_drop]
   cases readL (b.drop (n + y.2)) <;> simp
theorem rread_any (p:Option Addr) (c:Nat) (b:List Int) (w:World) (h:Ints .u8 w p c b) :
  Calls Tryz.prog 8 #[.slice p b.length c] w fun e w' => (∃ q d L,e = .returned (.tuple #[.slice q L.length d,.int .i64 (readV b).2]) ∧ Hid (L.map FA.f = (readV b).1 ∧ Fls w' q d L)) ∧ Below w.heap.size w w':=by
 obtain ⟨i1,hi1,y1,z1,b1⟩:=info_parts Tryz.infoRF
 have A1:=hide h
 have bl:=h.len
 have hB:=hide (wf_isB h.2.2.1)
 have HV:Hid (∀ R:List Fld × Int,readV b = R → R = if 4194304 < b.length then (([],8):List Fld × Int) else match readL b with
   | none => ([],6)
   | some l => (l,0)):=hide (fun R hR => by rw [← hR]; unfold readV; split <;> first | rfl | (cases readL b <;> rfl))
 generalize hR:readV b = R
 replace HV:=hide (uh HV R hR)
 clear hR h
 obtain ⟨R1,R2⟩:=R
 simp only
 by_cases hbig:4194304 < b.length
 ·have hbi:(4194304:Int) < (b.length:Int):=by omega
  have HE:Hid (R1 = [] ∧ R2 = 8):=hide (by have:=uh HV; rw [if_pos hbig] at this; simpa using this)
  clear HV hbig
  go_enter Tryz.func8,Tryz.ntmps8
  go_wp2_with fail
  go_ret2
  obtain ⟨g1,g2⟩:=uh HE
  subst g1 g2
  exact ⟨⟨none,0,[],rfl,hide ⟨rfl,Flc.nil _,fun a ha => by cases ha⟩⟩,Below.refl _ _⟩
 ·have hbi:¬ (4194304:Int) < (b.length:Int):=by omega
  have hs:b.length ≤ 4194304:=by omega
  have HV2:=hide (uh HV)
  rw [if_neg hbig] at HV2
  clear HV hbig
  go_enter Tryz.func8,Tryz.ntmps8
  go_wp2_with fail
  go_loopw [4,5] (fun v iv wr => ∃ n:Nat,∃ L:List FA,iv = .int .i64 n ∧ n ≤ b.length ∧ L.length ≤ n ∧ Hid (readL b = (readL (b.drop n)).map (L.map FA.f ++ ·)) ∧ Hid (OwnF 63 w wr v L) ∧ Hid (∀ a ∈ L,FaIn wr a ∧ DTy 5 wr a)) (fun _ iv _ => b.length - (intOf iv).toNat)
  case atStart => exact ⟨0,[],rfl,by omega,by simp,hide (by rw [List.drop_zero]; cases readL b <;> rfl),hide (OwnF.nil _ _ _ (Below.refl _ _)),hide (fun a ha => by cases ha)⟩
  case round =>
   obtain ⟨n,L,rfl,hn,hLl,HR,O,HI⟩:=hrel
   by_cases hlt:n < b.length
   ·have hi:(n:Int) < (b.length:Int):=by omega
    have ON:=hide (rone_any p c b n wr ((uh A1).below (uh O).2) hn hs)
    have HS:=hide (read_step hlt (uh HR))
    have HK:Hid (∀ y,oneL (b.drop n) = some y → 1 ≤ y.2 ∧ n + y.2 ≤ b.length):=hide (fun y hy => by
     obtain ⟨_,_,_,g4,g5⟩:=oneL_may (isB_drop (uh hB) n) (f:=y.1) (k:=y.2) hy
     simp at g5
     omega)
    clear HR
    cases hd:oneL (b.drop n) with
    | none =>
      rw [hd] at ON HS
      simp only [Option.isSome_none] at ON HS
      have HE:Hid (R1 = [] ∧ R2 = 6):=hide (by have:=uh HV2; rw [uh HS] at this; simpa using this)
      clear HS HK hd
      go_wp2_with fail
      refine (uh ON).mono ?_
      rintro e w1 ⟨⟨a,nx,rfl,_⟩,hb1⟩
      have BB:=hide (bl_tr (bl_tr (uh O).2 hb1) (al1p w1 (Obj.cells #[.int .i64 a.n,.int .i64 a.wr,.int .u64 a.x,.slice a.q a.d.length a.c] 63)))
      clear hb1 ON
      unfold faV
      go_wp2_with fail
      go_ret2
      obtain ⟨g1,g2⟩:=uh HE
      subst g1 g2
      exact ⟨⟨none,0,[],rfl,hide ⟨rfl,Flc.nil _,fun a ha => by cases ha⟩⟩,uh BB⟩
    | some y =>
      obtain ⟨f,k⟩:=y
      rw [hd] at ON HS
      simp only [Option.isSome_some] at ON HS
      obtain ⟨k1,k2⟩:=uh HK (f,k) hd
      simp only at k1 k2
      clear HK hd
      go_wp2_with fail
      refine (uh ON).mono ?_
      rintro e w1 ⟨⟨a,nx,rfl,hq⟩,hb1⟩
      obtain ⟨ha1,ha2,ha3,ha4,ha5⟩:=uh hq (f,k) rfl
      simp only at ha1 ha2
      subst ha1 ha2
      have O1:=hide ((uh O).below hb1)
      have HI1:Hid (∀ a' ∈ L ++ [a],FaIn w1 a' ∧ DTy 5 w1 a'):=hide (fun a' h' => by
       rcases List.mem_append.1 h' with g | g
       ·exact ⟨(uh HI a' g).1.below hb1,(uh HI a' g).2.below hb1⟩
       ·simp at g; subst g; exact ⟨ha3,ha5⟩)
      have HS2:Hid (readL b = (readL (b.drop (n + k))).map ((L ++ [a]).map FA.f ++ ·)):=hide (by rw [uh HS,List.map_append]; rfl)
      obtain ⟨m,hm⟩:∃ m,n + k = m:=⟨_,rfl⟩
      rw [hm] at HS2 k2 ⊢
      have hm1:n < m:=by omega
      clear hb1 ON hq ha3 ha4 ha5 HS HI O hm
      unfold faV
      go_wp2_with (at_builtin; (refine wpList_append_fldG rfl _ _ 34 rfl w 63 i1 _ 48 Tryz.underlying34 hi1 y1 z1 b1 rfl _ L rfl ((uh O1).below (al2p _ _ _)) ⟨_,0,none⟩ 1 a rfl (fa_alloc2 _ _ _ _) (by unfold maxLen; omega) (by omega) ?_; intro v2 w2 O2 G2; have HO2:=hide O2; have HI2:Hid (∀ a' ∈ L ++ [a],FaIn w2 a' ∧ DTy 5 w2 a'):=hide (fun a' h' => FaIn.grown ((uh HI1 a' h').1.below (al2p _ _ _)) ((uh HI1 a' h').2.below (al2p _ _ _)) ((uh O1).below (al2p _ _ _)) (by decide) G2); clear O2 G2))
      go_roundw
      case rel => exact ⟨m,L ++ [a],rfl,by omega,by simp; omega,HS2,HO2,HI2⟩
      case measure => simp [intOf]; omega
   ·have hi:¬ (n:Int) < (b.length:Int):=by omega
    have HE:Hid (R1 = L.map FA.f ∧ R2 = 0):=hide (by
     have h1:=uh HR
     rw [List.drop_of_length_le (by omega),readL_nil] at h1
     simp only [Option.map_some,List.append_nil] at h1
     have:=uh HV2
     rw [h1] at this
     simpa using this)
    obtain ⟨q,d,hv,hL,_⟩:=(uh O).form
    have HF:Hid (Fls wr q d L):=hide ⟨hL,fun a ha => (uh HI a ha).1⟩
    have BB:=hide (uh O).2
    subst hv
    clear hL O HR HI
    go_wp2_with fail
    go_ret2
    obtain ⟨g1,g2⟩:=uh HE
    subst g1 g2
    exact ⟨⟨q,d,L,rfl,hide ⟨rfl,uh HF⟩⟩,uh BB⟩
theorem OwnG.empty {α:Type} {f:α → Value} (t:TypeId) (w:World):OwnG t f w (w.alloc (.cells #[] t)) (.slice (some ⟨w.heap.size,0,none⟩) 0 0) [] :=
 ⟨World.ownsRow_made w #[] 0 (Nat.le_refl _) (by unfold maxLen; omega) (by simp),al1p _ _⟩
theorem ls_two {f:Int → Value} (w:World) (x y:Int) (t:TypeId):Ls f (w.alloc (.cells #[f x,f y] t)) (some ⟨w.heap.size,0,none⟩) 2 [x,y]:=by
 refine ⟨Nat.le_refl _,by omega,fun _ => ⟨w.heap.size,0,rfl,by simp,fun i hi => ?_⟩,fun h => by cases h⟩
 have:i = 0 ∨ i = 1:=by simp at hi; omega
 rcases this with rfl | rfl <;> simp
theorem or128f:∀ z:Fin 256,bits .or .u8 (z.val:Int) 128 = (z.val:Int) % 128 + 128:=by decide +kernel
theorem or128 (y:Int) (h0:0 ≤ y) (h1:y < 256):bits .or .u8 y 128 = y % 128 + 128:=by
 have:=or128f ⟨y.toNat,by omega⟩
 simp only [Int.toNat_of_nonneg h0] at this
 exact this
theorem not128f:∀ z:Fin 256,bits .andNot .u8 (z.val:Int) 128 = (z.val:Int) % 128:=by decide +kernel
theorem not128 (y:Int) (h0:0 ≤ y) (h1:y < 256):bits .andNot .u8 y 128 = y % 128:=by
 have:=not128f ⟨y.toNat,by omega⟩
 simp only [Int.toNat_of_nonneg h0] at this
 exact this
theorem cwithv_any (v0:Value) (os:List Int) (x:Int) (w0 w:World) (ho:OwnG 5 (Value.int .u8) w0 w v0 os) (hn:os.length ≤ 1000) (h0:0 ≤ x) (h1:x < 18446744073709551616) :
  Calls Tryz.prog 165 #[v0,.int .u64 x] w fun e w' => ∃ v,e = .returned v ∧ OwnG 5 (Value.int .u8) w0 w' v (os ++ varV x):=by
 obtain ⟨i1,hi1,y1,z1,b1⟩:=info_parts Tryz.infoU8
 have HO0:=hide ho
 clear ho
 go_enter Tryz.func165,Tryz.ntmps165
 go_wp2_with fail
 go_loopw [0,1] (fun v xv wr => ∃ y:Int,∃ pre:List Int,xv = .int .u64 y ∧ 0 ≤ y ∧ y < 18446744073709551616 ∧ Hid (pre ++ varV y = varV x) ∧ Hid (OwnG 5 (Value.int .u8) w0 wr v (os ++ pre))) (fun _ xv _ => (intOf xv).toNat)
 case atStart => exact ⟨x,[],rfl,h0,h1,hide (by simp),hide (by rw [List.append_nil]; exact uh HO0)⟩
 case round =>
  obtain ⟨y,pre,rfl,g0,g1,HV,O⟩:=hrel
  have hpl:pre.length ≤ 9:=by
   have e:=congrArg List.length (uh HV)
   rw [List.length_append] at e
   have:=varV_len x
   have:=varV_len y
   omega
  have hol:(os ++ pre).length ≤ 1009:=by rw [List.length_append]; omega
  by_cases hy:y < 128
  ·have hge:¬ (128:Int) ≤ y:=by omega
   have HE:=hide ((congrArg (pre ++ ·) (varV_small hy)).symm.trans (uh HV))
   have hwr:IntKind.u8.wrap y = y:=by rw [IntKind.wrap_u8]; omega
   clear HV
   go_wp2_with (at_builtin; (refine wpList_append_ls rfl _ _ 28 rfl w0 5 i1 (.int .u8 0) 1 Tryz.underlying28 hi1 y1 z1 b1 rfl (int_one .u8) _ (os ++ pre) rfl ((uh O).below (al1p _ _)) (some ⟨_,0,none⟩) 1 [y] rfl (ls_one6 _ _ _) (by unfold maxLen; simp only [List.length_singleton]; omega) (by simp only [List.length_singleton]; omega) ?_; intro v2 w2 O2; have HO2:=hide O2; clear O2))
   go_ret
   exact ⟨_,rfl,own_eq6 (uh HO2) (by rw [List.append_assoc]; exact congrArg (os ++ ·) (uh HE))⟩
  ·have hge:(128:Int) ≤ y:=by omega
   have HE:Hid ((pre ++ [y % 128 + 128]) ++ varV (y / 128) = varV x):=hide (by rw [← uh HV,varV_step hy g1,List.append_assoc]; rfl)
   obtain ⟨m,hm⟩:∃ m,y % 128 = m:=⟨_,rfl⟩
   have m0:0 ≤ m:=by omega
   have m1:m < 128:=by omega
   have hor:bits .or .u8 (y % 256) 128 = m + 128:=by rw [or128 _ (by omega) (by omega)]; omega
   rw [hm] at HE
   have d0:0 ≤ y / 128:=by omega
   have d1:y / 128 < 18446744073709551616:=by omega
   clear HV
   go_wp2_with (at_builtin; (refine wpList_append_ls rfl _ _ 28 rfl w0 5 i1 (.int .u8 0) 1 Tryz.underlying28 hi1 y1 z1 b1 rfl (int_one .u8) _ (os ++ pre) rfl ((uh O).below (al1p _ _)) (some ⟨_,0,none⟩) 1 [m + 128] rfl (ls_one6 _ _ _) (by unfold maxLen; simp only [List.length_singleton]; omega) (by simp only [List.length_singleton]; omega) ?_; intro v2 w2 O2; have HO2:=hide O2; clear O2))
   go_roundw
   case rel => exact ⟨y / 128,pre ++ [m + 128],rfl,d0,d1,HE,hide (by rw [← List.append_assoc]; exact uh HO2)⟩
   case measure => simp [intOf]; omega
theorem cvarint_any (x:Int) (w:World) (h0:0 ≤ x) (h1:x < 18446744073709551616) :
  Calls Tryz.prog 125 #[.int .u64 x] w fun e w' => ∃ v,e = .returned v ∧ OwnG 5 (Value.int .u8) w w' v (varV x):=by
 have WV:=hide (cwithv_any (.slice none 0 0) [] x w w (OwnG.nil _ _ _ (Below.refl _ _)) (by simp) h0 h1)
 go_enter Tryz.func125,Tryz.ntmps125
 go_wp2_with fail
 refine (uh WV).mono ?_
 rintro e w1 ⟨v1,rfl,hO⟩
 have HO:=hide hO
 clear hO WV
 go_wp2_with fail
 go_ret
 exact ⟨_,rfl,uh HO⟩
theorem or_shl (x m:Int) (i:Nat) (hi:i ≤ 9) (x0:0 ≤ x) (x1:x < 128 ^ i) (m0:0 ≤ m) (hs:x + 128 ^ i * m < 18446744073709551616):bits .or .u64 x (IntKind.u64.wrap (m * 2 ^ (7 * i))) = x + 128 ^ i * m:=by
 have ep:(128:Int) ^ i = ((2 ^ (7 * i):Nat):Int):=by
  rw [Nat.pow_mul,show (2:Nat) ^ 7 = 128 by decide]; simp
 have ep2:(2:Int) ^ (7 * i) = ((2 ^ (7 * i):Nat):Int):=by simp
 rw [ep] at x1 hs ⊢
 rw [ep2]
 obtain ⟨X,rfl⟩:=Int.eq_ofNat_of_zero_le x0
 obtain ⟨M,rfl⟩:=Int.eq_ofNat_of_zero_le m0
 have hX:X < 2 ^ (7 * i):=Int.ofNat_lt.1 x1
 have key:=Nat.two_pow_add_eq_or_of_lt hX M
 generalize 2 ^ (7 * i) = P at *
 have e1:(P:Int) * (M:Int) = ((P * M:Nat):Int):=by simp
 have e2:(M:Int) * (P:Int) = ((P * M:Nat):Int):=by rw [Int.mul_comm]; exact e1
 rw [e1] at hs ⊢
 rw [e2]
 generalize P * M = Q at *
 have hw:IntKind.u64.wrap (Q:Int) = (Q:Int):=by rw [IntKind.wrap_u64]; omega
 rw [hw]
 have kk:(BitVec.ofInt 64 (X:Int) ||| BitVec.ofInt 64 (Q:Int)).toNat = X + Q:=by
  rw [BitVec.toNat_or,BitVec.toNat_ofInt,BitVec.toNat_ofInt]
  have e1:((X:Int) % ((2 ^ 64:Nat):Int)).toNat = X:=by omega
  have e2:((Q:Int) % ((2 ^ 64:Nat):Int)).toNat = Q:=by omega
  rw [e1,e2,Nat.or_comm,← key]
  omega
 show IntKind.u64.wrap ((BitVec.ofInt 64 (X:Int) ||| BitVec.ofInt 64 (Q:Int)).toNat:Nat) = (X:Int) + (Q:Int)
 rw [kk,IntKind.wrap_u64]
 omega
theorem crdv_any (p:Option Addr) (c:Nat) (b:List Int) (at':Int) (w:World) (h:Ints .u8 w p c b) (hs:b.length ≤ 4611686018427387904) :
  Calls Tryz.prog 154 #[.slice p b.length c,.int .i64 at'] w fun e w' => e = .returned (.tuple #[.int .u64 (rdV b at').1,.int .i64 (rdV b at').2.1,.int .i64 (rdV b at').2.2]) ∧ w' = w:=by
 have A1:=hide h
 have bl:=h.len
 have hB:=wf_isB h.2.2.1
 have hcb:=h.1
 have hcm:=h.2.1
 have hpn:=h.2.2.2.2
 clear h
 by_cases hlo:at' < 0
 ·have e:rdV b at' = (0,0,2):=by unfold rdV; rw [if_pos (.inl hlo)]
  rw [e]
  clear e
  have t1:decide (at' < 0) = true:=by simp [hlo]
  go_enter Tryz.func154,Tryz.ntmps154
  go_wp2_with fail
  go_ret3
  exact ⟨rfl,rfl⟩
 ·have t1:decide (at' < 0) = false:=by simp; omega
  by_cases hhi:(b.length:Int) < at'
  ·have e:rdV b at' = (0,0,2):=by unfold rdV; rw [if_pos (.inr hhi)]
   rw [e]
   clear e
   have t2:decide ((b.length:Int) < at') = true:=by simp [hhi]
   go_enter Tryz.func154,Tryz.ntmps154
   go_wp2_with fail
   go_ret3
   exact ⟨rfl,rfl⟩
  ·have t2:decide ((b.length:Int) < at') = false:=by simp; omega
   obtain ⟨n,hn⟩:∃ n:Nat,at' = (n:Int):=⟨at'.toNat,by omega⟩
   subst hn
   have hnb:n ≤ b.length:=by omega
   have HR:Hid (rdV b (n:Int) = match rdG 10 (b.drop n) with
     | none => (0,0,6)
     | some y => (y.1,((n + y.2:Nat):Int),0)):=hide (by
    unfold rdV rdN
    rw [if_neg (by omega),Int.toNat_natCast]
    cases rdG 10 (b.drop n) <;> rfl)
   obtain ⟨R,hR⟩:∃ R,rdV b (n:Int) = R:=⟨_,rfl⟩
   rw [hR] at HR ⊢
   obtain ⟨R1,R2,R3⟩:=R
   simp only
   clear hR
   by_cases hend:n = b.length
   ·have HE:Hid (R1 = 0 ∧ R2 = 0 ∧ R3 = 6):=hide (by
     have hr:=uh HR
     rw [List.drop_of_length_le (by omega),rdG] at hr
     simpa using hr)
    clear HR hB A1
    have t3:¬ (0:Int) < ((b.length - n:Nat):Int):=by omega
    have key:∀ q:Option Addr,q = p → Calls Tryz.prog 154 #[.slice q b.length c,.int .i64 n] w fun e w' => e = .returned (.tuple #[.int .u64 R1,.int .i64 R2,.int .i64 R3]) ∧ w' = w:=by
     intro q hq
     cases q with
     | none =>
       have hc0:c = 0:=hpn hq.symm
       have hb0:b.length = 0:=by omega
       have hn0:n = 0:=by omega
       subst hc0 hn0
       rw [hb0]
       clear hq hpn hcb hcm hend t3 t1 t2 hlo hhi hs bl hnb hb0
       go_enter Tryz.func154,Tryz.ntmps154
       go_wp2_with fail
       go_loop [22] (fun iv => iv = .int .i64 0) (fun iv => 0)
       case atStart => rfl
       case round =>
        subst hrel
        go_wp2_with fail
        go_ret3
        exact ⟨Tryz.f_int3 (uh HE).1.symm (uh HE).2.1.symm (uh HE).2.2.symm,rfl⟩
     | some ad =>
       clear hq hpn
       obtain ⟨B,hBl⟩:∃ B,b.length = B:=⟨_,rfl⟩
       rw [hBl] at hend t3 hcb hs bl hnb hhi t2 ⊢
       subst hend
       clear hBl
       by_cases hcn:c = n
       ·subst hcn
        go_enter Tryz.func154,Tryz.ntmps154
        go_wp2_with fail
        go_loop [22] (fun iv => iv = .int .i64 0) (fun iv => 0)
        case atStart => rfl
        case round =>
         subst hrel
         go_wp2_with fail
         go_ret3
         exact ⟨Tryz.f_int3 (uh HE).1.symm (uh HE).2.1.symm (uh HE).2.2.symm,rfl⟩
       ·go_enter Tryz.func154,Tryz.ntmps154
        go_wp2_with fail
        go_loop [22] (fun iv => iv = .int .i64 0) (fun iv => 0)
        case atStart => rfl
        case round =>
         subst hrel
         go_wp2_with fail
         go_ret3
         exact ⟨Tryz.f_int3 (uh HE).1.symm (uh HE).2.1.symm (uh HE).2.2.symm,rfl⟩
    exact key p rfl
   ·obtain ⟨b3,o3,e3,hb3,hc3⟩:=(uh A1).lies (show 0 < b.length by omega)
    subst e3
    have HC3:=hide hc3
    have hnl:n < b.length:=by omega
    clear hpn A1 hc3 hend
    go_enter Tryz.func154,Tryz.ntmps154
    go_wp2_with fail
    go_loop [7,22] (fun xv iv => ∃ i:Nat,∃ x:Int,iv = .int .i64 i ∧ xv = .int .u64 x ∧ i ≤ 9 ∧ i ≤ b.length - n ∧ 0 ≤ x ∧ x < 18446744073709551616 ∧ Hid (x < 128 ^ i) ∧ Hid (rdG 10 (b.drop n) = comb i x (rdG (10 - i) (b.drop (n + i))))) (fun _ iv => 10 - (intOf iv).toNat)
    case atStart => exact ⟨0,0,rfl,rfl,by omega,by omega,by omega,by omega,hide (by decide),hide (by rw [comb_zero]; rfl)⟩
    case round =>
     obtain ⟨i,x,rfl,rfl,hi,hil,x0,x1,HU,HC⟩:=hrel
     by_cases hin:n + i < b.length
     ·have tn:(i:Int) < ((b.length - n:Nat):Int):=by omega
      have k3:w.cell? ⟨b3,o3 + n + i,none⟩ = some (.int .u8 (b.getD (n + i) 0)):=by rw [Nat.add_assoc]; exact uh HC3 (n + i) hin
      obtain ⟨c0,c1⟩:=hB _ (getD_mem6 hin)
      have HD:=hide (drop_cons6 hin)
      generalize b.getD (n + i) 0 = cc at k3 c0 c1 HD
      have HK:Hid (rdG 10 (b.drop n) = comb i x (rdG ((9 - i) + 1) (cc :: b.drop (n + i + 1)))):=hide (by
       rw [uh HC,uh HD,show 10 - i = (9 - i) + 1 by omega])
      clear HC HD
      obtain ⟨m7,hm7⟩:∃ m7,cc % 128 = m7:=⟨_,rfl⟩
      have g0:0 ≤ m7:=by omega
      have g1:m7 ≤ 127:=by omega
      by_cases hbad:i = 9 ∧ 1 < cc
      ·obtain ⟨hb1,hb2⟩:=hbad
       subst hb1
       have HE:Hid (R1 = 0 ∧ R2 = 0 ∧ R3 = 6):=hide (by
        have hr:=uh HR
        rw [uh HK,rdG,if_pos ⟨by omega,hb2⟩] at hr
        simpa [comb] using hr)
       clear HK HR HU
       go_wp2_with fail
       go_ret3
       exact ⟨Tryz.f_int3 (uh HE).1.symm (uh HE).2.1.symm (uh HE).2.2.symm,rfl⟩
      ·have hmul:x + 128 ^ i * m7 < 18446744073709551616:=by
        obtain ⟨P0,P1⟩:=pow128_le i hi
        have q1:=uh HU
        by_cases h9:i = 9
        ·have hc1:cc ≤ 1:=by omega
         have h1:m7 ≤ 1:=by omega
         have h2:128 ^ i * m7 ≤ 128 ^ i * 1:=Int.mul_le_mul_of_nonneg_left h1 (by omega)
         omega
        ·have h2:128 ^ i * m7 ≤ 128 ^ i * 127:=Int.mul_le_mul_of_nonneg_left g1 (by omega)
         obtain ⟨Q0,Q1⟩:=pow128_le (i + 1) (by omega)
         rw [Int.pow_succ] at Q1
         omega
       have HOR:=hide (or_shl x m7 i hi x0 (uh HU) g0 hmul)
       have hnot:bits .andNot .u8 cc 128 = m7:=by rw [not128 _ c0 c1,hm7]
       have HBD:Hid (¬ (9 - i = 0 ∧ 1 < cc)):=hide (fun h => hbad ⟨by omega,h.2⟩)
       obtain ⟨X,hX⟩:∃ X,x + 128 ^ i * m7 = X:=⟨_,rfl⟩
       have hor:=uh HOR
       rw [hX] at hor
       have X0:0 ≤ X:=by
        have:0 ≤ (128:Int) ^ i * m7:=Int.mul_nonneg (by have:=(pow128_le i hi).1; omega) g0
        omega
       have X1:X < 18446744073709551616:=by omega
       have HX:=hide hX
       clear HOR hmul hX
       by_cases hc:cc < 128
       ·have HE:Hid (R1 = X ∧ R2 = (n:Int) + (i:Int) + 1 ∧ R3 = 0):=hide (by
         have hr:=uh HR
         rw [uh HK,comb_end i x cc (9 - i) _ (uh HBD) hc,hm7,uh HX] at hr
         simp only [Prod.mk.injEq] at hr
         refine ⟨hr.1,?_,hr.2.2⟩
         rw [hr.2.1]
         omega)
        by_cases h9:i = 9
        ·subst h9
         have tc:¬ 1 < cc:=by omega
         have hor9:bits .or .u64 x (m7 * 9223372036854775808) = X:=by
          rw [← hor,show (2:Int) ^ (7 * 9) = 9223372036854775808 by decide,show IntKind.u64.wrap (m7 * 9223372036854775808) = m7 * 9223372036854775808 by rw [IntKind.wrap_u64]; omega]
         clear HK HR HU HX HBD hbad hor
         go_wp2_with fail
         go_ret3
         exact ⟨Tryz.f_int3 (uh HE).1.symm (uh HE).2.1.symm (uh HE).2.2.symm,rfl⟩
        ·have ti9:((i:Int) == 9) = false:=by simp; omega
         clear HK HR HU HX HBD hbad
         go_wp2_with fail
         go_ret3
         exact ⟨Tryz.f_int3 (uh HE).1.symm (uh HE).2.1.symm (uh HE).2.2.symm,rfl⟩
       ·have h9:¬ i = 9:=fun e => hbad ⟨e,by omega⟩
        have ti9:((i:Int) == 9) = false:=by simp; omega
        have HK2:Hid (rdG 10 (b.drop n) = comb (i + 1) X (rdG (10 - (i + 1)) (b.drop (n + (i + 1))))):=hide (by
         rw [uh HK,comb_step i x cc (9 - i) _ (uh HBD) hc,hm7,uh HX,show 9 - i = 10 - (i + 1) by omega]
         rfl)
        have HU2:Hid (X < 128 ^ (i + 1)):=hide (by
         have h2:128 ^ i * m7 ≤ 128 ^ i * 127:=Int.mul_le_mul_of_nonneg_left g1 (by have:=(pow128_le i hi).1; omega)
         have q1:=uh HU
         have q2:=uh HX
         rw [Int.pow_succ]
         omega)
        clear HK HR HU HX HBD hbad
        go_wp2_with fail
        go_round
        case rel => exact ⟨i + 1,X,by go_num,rfl,by omega,by omega,X0,X1,HU2,HK2⟩
        case measure => simp [intOf]; omega
     ·have tn:¬ (i:Int) < ((b.length - n:Nat):Int):=by omega
      have HE:Hid (R1 = 0 ∧ R2 = 0 ∧ R3 = 6):=hide (by
       have hr:=uh HR
       rw [uh HC,List.drop_of_length_le (by omega),show 10 - i = (9 - i) + 1 by omega,rdG] at hr
       simpa [comb] using hr)
      clear HC HR HU
      go_wp2_with fail
      go_ret3
      exact ⟨Tryz.f_int3 (uh HE).1.symm (uh HE).2.1.symm (uh HE).2.2.symm,rfl⟩
theorem cclone_any (p:Option Addr) (c:Nat) (xs:List Int) (w:World) (h:Ls (Value.int .u8) w p c xs) (hs:xs.length ≤ 140737488355328) :
  Calls Tryz.prog 189 #[.slice p xs.length c] w fun e w' => ∃ v,e = .returned v ∧ OwnG 5 (Value.int .u8) w w' v xs:=by
 obtain ⟨i1,hi1,y1,z1,b1⟩:=info_parts Tryz.infoU8
 have A1:=hide h
 have hnil:=fun (w:World) (a:Option Addr) (n c:Nat) => Go.Lib.run_eql_slice_nil (P:=Tryz.prog) w 28 5 a n c 0 0 Tryz.underlying28
 cases p with
 | none =>
   have hc0:c = 0:=h.2.2.2 rfl
   have hx0:xs = []:=List.eq_nil_of_length_eq_zero (by have:=h.1; omega)
   subst hc0 hx0
   clear h
   go_enter Tryz.func189,Tryz.ntmps189
   go_wp2_with fail
   go_ret
   exact ⟨_,rfl,OwnG.nil _ _ _ (Below.refl _ _)⟩
 | some ad =>
   clear h
   go_enter Tryz.func189,Tryz.ntmps189
   go_wp2_with (at_builtin; (refine wpList_append_ls rfl _ _ 28 rfl w 5 i1 (.int .u8 0) 1 Tryz.underlying28 hi1 y1 z1 b1 rfl (int_one .u8) _ [] rfl (OwnG.empty _ _) (some ad) c xs rfl ((uh A1).below (al1p _ _)) (by unfold maxLen; simp only [List.length_nil]; omega) (by simp only [List.length_nil]; omega) ?_; intro v2 w2 O2; have HO2:=hide O2; clear O2))
   go_ret
   exact ⟨_,rfl,uh HO2⟩
theorem or256 (y x:Int) (h0:0 ≤ y) (x0:0 ≤ x) (x1:x < 256) (hs:y * 256 + x < 18446744073709551616):bits .or .u64 (y * 256) x = y * 256 + x:=by
 have key:(BitVec.ofInt 64 (y * 256) ||| BitVec.ofInt 64 x).toNat = y.toNat * 256 + x.toNat:=by
  rw [BitVec.toNat_or,BitVec.toNat_ofInt,BitVec.toNat_ofInt]
  have e1:((y * 256) % ((2 ^ 64:Nat):Int)).toNat = 2 ^ 8 * y.toNat:=by omega
  have e2:(x % ((2 ^ 64:Nat):Int)).toNat = x.toNat:=by omega
  rw [e1,e2,← Nat.two_pow_add_eq_or_of_lt (by omega)]
  omega
 show IntKind.u64.wrap ((BitVec.ofInt 64 (y * 256) ||| BitVec.ofInt 64 x).toNat:Nat) = y * 256 + x
 rw [key,IntKind.wrap_u64]
 omega
theorem cwide_any (p:Option Addr) (c:Nat) (b:List Int) (m k:Nat) (w:World) (h:Ints .u8 w p c b) (hm:m ≤ b.length) (hs:b.length ≤ 4611686018427387904) (hk:k ≤ 8) (hk1:1 ≤ k) :
  Calls Tryz.prog 188 #[.slice p b.length c,.int .i64 m,.int .i64 k] w fun e w' => e = .returned (if b.length < m + k then .tuple #[.int .u64 0,.int .i64 0,.int .i64 6] else .tuple #[.int .u64 (leV ((b.drop m).take k)),.int .i64 ((m + k:Nat):Int),.int .i64 0]) ∧ w' = w:=by
 have A1:=hide h
 have hB:=wf_isB h.2.2.1
 clear h
 by_cases hsh:b.length < m + k
 ·rw [if_pos hsh]
  have t1:(b.length:Int) - (m:Int) < (k:Int):=by omega
  go_enter Tryz.func188,Tryz.ntmps188
  go_wp2_with fail
  go_ret3
  exact ⟨rfl,rfl⟩
 ·rw [if_neg hsh]
  have t1:¬ (b.length:Int) - (m:Int) < (k:Int):=by omega
  obtain ⟨R,hR⟩:∃ R,leV ((b.drop m).take k) = R:=⟨_,rfl⟩
  have HR:=hide hR
  rw [hR]
  clear hR
  obtain ⟨b3,o3,e3,hb3,hc3⟩:=(uh A1).lies (show 0 < b.length by omega)
  subst e3
  have HC3:=hide hc3
  clear hc3 A1
  have hlen:((b.drop m).take k).length = k:=by simp; omega
  have HLEN:=hide hlen
  have HGET:Hid (∀ n,n < k → ((b.drop m).take k).getD n 0 = b.getD (m + n) 0):=hide (fun n hn => by
   simp [List.getD_eq_getElem?_getD,List.getElem?_take_of_lt hn])
  generalize (b.drop m).take k = d at HR HLEN HGET
  clear hlen
  go_enter Tryz.func188,Tryz.ntmps188
  go_wp2_with fail
  go_loop [9,10] (fun xv iv => ∃ n:Nat,∃ y:Int,iv = .int .i64 ((n:Int) - 1) ∧ xv = .int .u64 y ∧ n ≤ k ∧ 0 ≤ y ∧ Hid (y < 256 ^ (k - n)) ∧ Hid (y = leV (d.drop n))) (fun _ iv => (intOf iv + 1).toNat)
  case atStart => exact ⟨k,0,rfl,rfl,by omega,by omega,hide (by simp),hide (by rw [List.drop_of_length_le (by rw [uh HLEN]; omega)]; rfl)⟩
  case round =>
   obtain ⟨n,y,rfl,rfl,hn,y0,HB,HY⟩:=hrel
   by_cases h0:n = 0
   ·subst h0
    have HE:Hid (y = R):=hide (by rw [uh HY,← uh HR]; rfl)
    clear HY HB
    go_wp2_with fail
    go_ret3
    exact ⟨Tryz.f_int3 (uh HE) (by omega) rfl,rfl⟩
   ·obtain ⟨j,rfl⟩:∃ j,n = j + 1:=⟨n - 1,by omega⟩
    have hjb:m + j < b.length:=by omega
    have hge:(0:Int) ≤ (j:Int):=by omega
    have hki:((j + 1:Nat):Int) - 1 = (j:Int):=by omega
    have k3:w.cell? ⟨b3,o3 + (m + j),none⟩ = some (.int .u8 (b.getD (m + j) 0)):=uh HC3 (m + j) hjb
    have hk2:((m + j:Nat):Int) < (b.length:Int):=by omega
    have hmj:(m:Int) + (j:Int) = ((m + j:Nat):Int):=by omega
    obtain ⟨c0,c1⟩:=hB _ (getD_mem6 hjb)
    have HGJ:=hide (uh HGET j (by omega))
    have hpw:y < 72057594037927936:=by
     have h1:=uh HB
     have h2:(256:Int) ^ (k - (j + 1)) ≤ 256 ^ 7:=by
      have:=Nat.pow_le_pow_right (show 0 < 256 by decide) (show k - (j + 1) ≤ 7 by omega)
      have h3:((256 ^ (k - (j + 1)):Nat):Int) ≤ ((256 ^ 7:Nat):Int):=Int.ofNat_le.2 this
      simpa using h3
     have h4:(256:Int) ^ 7 = 72057594037927936:=by decide
     omega
    generalize b.getD (m + j) 0 = x at k3 c0 c1 HGJ
    have HY2:Hid (y * 256 + x = leV (d.drop j)):=hide (by rw [leV_drop (by rw [uh HLEN]; omega),uh HGJ,uh HY]; omega)
    have HB2:Hid (y * 256 + x < 256 ^ (k - j)):=hide (by
     have h1:=uh HB
     rw [show k - j = (k - (j + 1)) + 1 by omega,Int.pow_succ]
     generalize (256:Int) ^ (k - (j + 1)) = P at h1 ⊢
     omega)
    have hor:=or256 y x y0 c0 c1 (by omega)
    obtain ⟨M,hM⟩:∃ M,m + j = M:=⟨_,rfl⟩
    rw [hM] at k3 hk2 hmj
    clear HY HB hjb hM HGJ
    rw [hki]
    go_wp2_with fail
    go_round
    case rel => exact ⟨j,y * 256 + x,by go_num,rfl,by omega,by omega,HB2,HY2⟩
    case measure => simp [intOf]
theorem cfour_any (p:Option Addr) (c:Nat) (b:List Int) (m:Nat) (w:World) (h:Ints .u8 w p c b) (hm:m ≤ b.length) (hs:b.length ≤ 4611686018427387904) :
  Calls Tryz.prog 156 #[.slice p b.length c,.int .i64 m] w fun e w' => e = .returned (if b.length < m + 4 then .tuple #[.int .u64 0,.int .i64 0,.int .i64 6] else .tuple #[.int .u64 (leV ((b.drop m).take 4)),.int .i64 ((m + 4:Nat):Int),.int .i64 0]) ∧ w' = w:=by
 have CW:=hide (cwide_any p c b m 4 w h hm hs (by omega) (by omega))
 by_cases hsh:b.length < m + 4
 ·rw [if_pos hsh] at CW ⊢
  go_enter Tryz.func156,Tryz.ntmps156
  go_wp2_with fail
  refine (uh CW).mono ?_
  rintro e v ⟨rfl,rfl⟩
  go_wp2_with fail
  go_ret3
  exact ⟨rfl,rfl⟩
 ·rw [if_neg hsh] at CW ⊢
  generalize leV ((b.drop m).take 4) = R at CW ⊢
  generalize ((m + 4:Nat):Int) = R2 at CW ⊢
  go_enter Tryz.func156,Tryz.ntmps156
  go_wp2_with fail
  refine (uh CW).mono ?_
  rintro e v ⟨rfl,rfl⟩
  go_wp2_with fail
  go_ret3
  exact ⟨rfl,rfl⟩
theorem ceight_any (p:Option Addr) (c:Nat) (b:List Int) (m:Nat) (w:World) (h:Ints .u8 w p c b) (hm:m ≤ b.length) (hs:b.length ≤ 4611686018427387904) :
  Calls Tryz.prog 155 #[.slice p b.length c,.int .i64 m] w fun e w' => e = .returned (if b.length < m + 8 then .tuple #[.int .u64 0,.int .i64 0,.int .i64 6] else .tuple #[.int .u64 (leV ((b.drop m).take 8)),.int .i64 ((m + 8:Nat):Int),.int .i64 0]) ∧ w' = w:=by
 have CW:=hide (cwide_any p c b m 8 w h hm hs (by omega) (by omega))
 by_cases hsh:b.length < m + 8
 ·rw [if_pos hsh] at CW ⊢
  go_enter Tryz.func155,Tryz.ntmps155
  go_wp2_with fail
  refine (uh CW).mono ?_
  rintro e v ⟨rfl,rfl⟩
  go_wp2_with fail
  go_ret3
  exact ⟨rfl,rfl⟩
 ·rw [if_neg hsh] at CW ⊢
  generalize leV ((b.drop m).take 8) = R at CW ⊢
  generalize ((m + 8:Nat):Int) = R2 at CW ⊢
  go_enter Tryz.func155,Tryz.ntmps155
  go_wp2_with fail
  refine (uh CW).mono ?_
  rintro e v ⟨rfl,rfl⟩
  go_wp2_with fail
  go_ret3
  exact ⟨rfl,rfl⟩
def OwnD (B:Nat) (w:World) (a:FA):Prop:=w.ownsRow B 5 1 (.slice a.q a.d.length a.c) a.d.length (a.d.map (Value.int .u8))
theorem OwnD.mono {B C:Nat} {w:World} {a:FA} (h:OwnD B w a) (hc:C ≤ B):OwnD C w a:=by
 obtain ⟨h1,h2⟩:=h
 refine ⟨h1,?_⟩
 rcases h2 with g | ⟨g,cap,cur,hv,hb,rest⟩
 ·exact .inl g
 ·exact .inr ⟨g,cap,cur,hv,Nat.le_trans hc hb,rest⟩
theorem OwnD.kept {B:Nat} {w w':World} {a:FA} (h:OwnD B w a) (hk:∀ g cur,B ≤ g → w.heap[g]? = some (.cells cur 5 (0,0)) → w'.heap[g]? = w.heap[g]?):OwnD B w' a:=by
 obtain ⟨h1,h2⟩:=h
 refine ⟨h1,?_⟩
 rcases h2 with g | ⟨g,cap,cur,hv,hb,hh,rest⟩
 ·exact .inl g
 ·exact .inr ⟨g,cap,cur,hv,hb,(hk g cur hb hh).trans hh,rest⟩
theorem OwnD.below {B:Nat} {w w':World} {a:FA} (h:OwnD B w a) (hb:Below w.heap.size w w'):OwnD B w' a:=h.kept (fun g cur _ hh => hb.block g (lt_of_block hh))
theorem OwnD.no (B:Nat) (w:World) (n wr x:Int):OwnD B w ⟨n,wr,x,[],none,0⟩:=World.ownsRow_nil _ _ _ _
theorem OwnD.ty {B:Nat} {w:World} {a:FA} (h:OwnD B w a):DTy 5 w a:=fun hp => by
 rcases h.2 with ⟨_,hn⟩ | ⟨g,cap,cur,hv,hb,hh,_⟩
 ·omega
 ·simp only [Value.slice.injEq] at hv
  exact ⟨g,0,cur,hv.1,hh⟩
theorem OwnD.grown {B:Nat} {e:TypeId} {w w0 w':World} {a:FA} {v:Value} {l:List FA} (h:OwnD B w a) (ho:OwnF e w0 w v l) (hne:¬ e = 5) (hg:w.grownBy w' v.ownBlock):OwnD B w' a:=by
 refine h.kept (fun b cur _ hb => ?_)
 refine hg.block b (lt_of_block hb) (fun e2 => ?_)
 rcases ho.1.2 with ⟨hv,_⟩ | ⟨k,cap,cur2,hv,_,hh,_⟩
 ·rw [hv] at e2; cases e2
 ·rw [hv] at e2
  simp only [Value.ownBlock,Option.some.injEq] at e2
  subst e2
  rw [hb] at hh
  simp only [Option.some.injEq,Obj.cells.injEq] at hh
  exact hne hh.2.1.symm
theorem OwnD.set5 {B C:Nat} {w:World} {a:FA} {g r:Nat} (h:OwnD B w a) (hg:g < B) (hr:r < B) (j:Nat) (u u0 u1 u2 u3:Value) :
  OwnD B (((((w.setCell ⟨g,j,none⟩ u).setCell ⟨r,0,none⟩ u0).setCell ⟨r,1,none⟩ u1).setCell ⟨r,2,none⟩ u2).setCell ⟨r,3,none⟩ u3) a:=by
 refine h.kept (fun b cur hb _ => ?_)
 rw [Below.heap_setCell _ _ _ _ (by simp; omega),Below.heap_setCell _ _ _ _ (by simp; omega),Below.heap_setCell _ _ _ _ (by simp; omega),Below.heap_setCell _ _ _ _ (by simp; omega),Below.heap_setCell _ _ _ _ (by simp; omega)]
theorem own_d {w wr:World} {n wi x:Int} {d:List Int} {q:Option Addr} {c:Nat} (h:OwnG 5 (Value.int .u8) w wr (.slice q d.length c) d):OwnD w.heap.size wr ⟨n,wi,x,d,q,c⟩:=h.1
theorem cdata_no (p:Option Addr) (c:Nat) (b:List Int) (m:Nat) (w:World) (h:Ints .u8 w p c b) (hm:m ≤ b.length) (hs:b.length ≤ 4194304)
  (hno:∀ x q,rdG 10 (b.drop m) = some (x,q) → (b.length:Int) < ((m + q:Nat):Int) + x) :
  Calls Tryz.prog 157 #[.slice p b.length c,.int .i64 m] w fun e w' => e = .returned (.tuple #[.slice none 0 0,.int .i64 0,.int .i64 6]) ∧ w' = w:=by
 have hB:=hide (wf_isB h.2.2.1)
 have RV:=hide (crdv_any p c b (m:Int) w h (by omega))
 rw [rdV_in hm] at RV
 clear h
 cases hy:rdG 10 (b.drop m) with
 | none =>
   rw [hy] at RV
   simp only at RV
   clear hno hy
   go_enter Tryz.func157,Tryz.ntmps157
   go_wp2_with fail
   refine (uh RV).mono ?_
   rintro e v ⟨rfl,rfl⟩
   go_wp2_with fail
   go_ret3
   exact ⟨rfl,rfl⟩
 | some y =>
   obtain ⟨x,q⟩:=y
   rw [hy] at RV
   simp only at RV
   obtain ⟨x0,x1⟩:=rdG10_range (isB_drop (uh hB) m) hy
   obtain ⟨q1,q2,q3⟩:=rdG_count 10 _ x q hy
   simp at q3
   have hbig:=hno x q hy
   obtain ⟨m2,hm2⟩:∃ m2,m + q = m2:=⟨_,rfl⟩
   rw [hm2] at RV hbig
   have hm2b:m2 ≤ b.length:=by omega
   have tsh:(b.length:Int) - (m2:Int) < x:=by omega
   clear hno hy hbig hm2
   go_enter Tryz.func157,Tryz.ntmps157
   go_wp2_with fail
   refine (uh RV).mono ?_
   rintro e v ⟨rfl,rfl⟩
   go_wp2_with fail
   go_ret3
   exact ⟨rfl,rfl⟩
theorem cdata_yes (p:Option Addr) (c:Nat) (b:List Int) (m X q:Nat) (w:World) (h:Ints .u8 w p c b) (hm:m ≤ b.length) (hs:b.length ≤ 4194304)
  (hy:rdG 10 (b.drop m) = some ((X:Int),q)) (hX:m + q + X ≤ b.length) :
  Calls Tryz.prog 157 #[.slice p b.length c,.int .i64 m] w fun e w' => ∃ v,e = .returned (.tuple #[v,.int .i64 ((m + q + X:Nat):Int),.int .i64 0]) ∧ OwnG 5 (Value.int .u8) w w' v ((b.drop (m + q)).take X):=by
 have A1:=hide h
 have hcap:=h.1
 have hcm:=h.2.1
 have RV:=hide (crdv_any p c b (m:Int) w h (by omega))
 rw [rdV_in hm] at RV
 clear h
 rw [hy] at RV
 simp only at RV
 obtain ⟨q1,q2,q3⟩:=rdG_count 10 _ _ q hy
 simp at q3
 obtain ⟨m2,hm2⟩:∃ m2,m + q = m2:=⟨_,rfl⟩
 rw [hm2] at RV hX ⊢
 have hm2b:m2 ≤ b.length:=by omega
 have tsh:¬ (b.length:Int) - (m2:Int) < (X:Int):=by omega
 obtain ⟨b3,o3,e3,hb3,hc3⟩:=(uh A1).lies (show 0 < b.length by omega)
 have CT:=hide ((uh A1).cut e3 m2 X (by omega)).ls
 have hlen:((b.drop m2).take X).length = X:=by simp; omega
 subst e3
 have CL:Hid (∀ q d,Ls (Value.int .u8) w q d ((b.drop m2).take X) → Calls Tryz.prog 189 #[.slice q X d] w fun e w' => ∃ v,e = .returned v ∧ OwnG 5 (Value.int .u8) w w' v ((b.drop m2).take X)):=hide (fun q d hq => by
  have:=cclone_any q d _ w hq (by rw [hlen]; omega)
  rw [hlen] at this
  exact this)
 have HN:Hid (∀ q d,X = 0 → 0 ≤ d → d ≤ 9223372036854775807 → Ls (Value.int .u8) w (some q) d ((b.drop m2).take X)):=hide (fun q d hx h0 h1 => by
  rw [hx,List.take_zero]
  exact ⟨by simp,h1,fun hp => by simp at hp,fun hp => by cases hp⟩)
 generalize (b.drop m2).take X = dd at CT CL HN ⊢
 clear hc3 A1 hlen hy
 obtain ⟨M3,hM3⟩:∃ M3,m2 + X = M3:=⟨_,rfl⟩
 have hwS:(m2:Int) + (X:Int) = (M3:Int):=by omega
 have hM1:M3 ≤ c:=by omega
 have hM2:m2 ≤ M3:=by omega
 have hM4:M3 - m2 = X:=by omega
 have hM5:M3 ≤ b.length:=by omega
 have hX0:X ≤ b.length:=by omega
 rw [hM3]
 clear hM3 hX hm2
 by_cases hcx:c = m2
 ·have hx0:X = 0:=by omega
  subst hcx hx0
  have hM6:M3 = c:=by omega
  subst hM6
  have CL2:=hide (uh CL (some ⟨b3,o3,none⟩) 0 (uh HN _ _ rfl (by omega) (by omega)))
  clear CL HN CT
  go_enter Tryz.func157,Tryz.ntmps157
  go_wp2_with fail
  refine (uh RV).mono ?_
  rintro e v ⟨rfl,hv⟩
  replace hv:=hv.symm
  subst hv
  go_wp2_with fail
  refine (uh CL2).mono ?_
  rintro e w1 ⟨v1,rfl,hO⟩
  have HO:=hide hO
  clear hO CL2
  go_wp2_with fail
  go_ret3
  exact ⟨_,rfl,uh HO⟩
 ·have CL2:=hide (uh CL (some ⟨b3,o3 + m2,none⟩) (c - m2) (uh CT))
  clear CL HN CT
  go_enter Tryz.func157,Tryz.ntmps157
  go_wp2_with fail
  refine (uh RV).mono ?_
  rintro e v ⟨rfl,hv⟩
  replace hv:=hv.symm
  subst hv
  go_wp2_with fail
  refine (uh CL2).mono ?_
  rintro e w1 ⟨v1,rfl,hO⟩
  have HO:=hide hO
  clear hO CL2
  go_wp2_with fail
  go_ret3
  exact ⟨_,rfl,uh HO⟩
theorem weights_mem_all {H:Type} {P:Program} {e:TypeId} {d:DataW H}:∀ {l:List (DataW H)},d ∈ l → ∀ m ∈ d.weights P e,m ∈ DataW.weightsAll P e l
 | x :: r,hd,m,hm => by
   rw [DataW.weightsAll,List.mem_append]
   rcases List.mem_cons.1 hd with h | h
   ·subst h; exact .inl hm
   ·exact .inr (weights_mem_all h m hm)
theorem Rc.tag {β:Type} {k:Nat} {cells:β → List Value} {z:β} {w:World} {p:Option Addr} {cap:Nat} {l:List β} (t:TypeId) (h:Rc k cells z w p cap l):Tag t w.heap.size w p l.length:=fun hp => by
 obtain ⟨b,o,e,hb,_⟩:=h.lies hp
 exact ⟨b,o,e,hb,.inl hb⟩
theorem Ints.tag {k:IntKind} {w:World} {p:Option Addr} {cap:Nat} {xs:List Int} (t:TypeId) (h:Ints k w p cap xs):Tag t w.heap.size w p xs.length:=fun hp => by
 obtain ⟨b,o,e,hb,_⟩:=h.lies hp
 exact ⟨b,o,e,hb,.inl hb⟩
theorem Ls.tag {α:Type} [Inhabited α] {f:α → Value} {w:World} {p:Option Addr} {cap:Nat} {xs:List α} (t:TypeId) (h:Ls f w p cap xs):Tag t w.heap.size w p xs.length:=fun hp => by
 obtain ⟨b,o,e,hb,_⟩:=h.lies hp
 exact ⟨b,o,e,hb,.inl hb⟩
theorem str_of (s:ByteArray):∃ x:Str,isB x ∧ s = strOfNums x:=by
 refine ⟨s.data.toList.map fun b => (b.toNat:Int),fun c hc => ?_,?_⟩
 ·obtain ⟨b,_,rfl⟩:=List.mem_map.1 hc
  have:=b.toNat_lt
  exact ⟨by omega,by omega⟩
 ·obtain ⟨⟨l⟩⟩:=s
  have e:((fun n:Int => UInt8.ofNat n.toNat) ∘ fun b:UInt8 => (b.toNat:Int)) = id:=by
   funext b
   simp
  unfold strOfNums
  congr 1
  simp only [List.map_map]
  rw [e]
  simp
theorem part_str {H:Type} {enc:TypeId × Value → H} {P:Program} {W:World} {n:Nat} {t:TypeId} {cs:List Value} {y:DataW H × List MemPlace} (ht:P.underlying t = some .string)
  (h:DataW.trod enc P W 0 (fun _ => true) true n t cs = some y):∃ s:Str,cs = [strV s] ∧ isB s:=by
 obtain ⟨s,h1,_,_⟩:=DataW.trod_string ht h
 obtain ⟨x,hx,rfl⟩:=str_of s
 exact ⟨x,h1,hx⟩
theorem part_strs {H:Type} {enc:TypeId × Value → H} {P:Program} {W:World} {n:Nat} {t e:TypeId} {cs:List Value} {y:DataW H × List MemPlace} (ht:P.underlying t = some (.slice e)) (he:P.underlying e = some .string) (hc:P.cellsOf e = 1)
  (h:DataW.trod enc P W 0 (fun _ => true) true n t cs = some y) :
  ∃ p cap,∃ xs:List Str,cs = [.slice p xs.length cap] ∧ (∀ s ∈ xs,isB s) ∧ Ls strV W p cap xs:=by
 rcases Go.Deep.open_strs ht he hc h with ⟨hcs,hx⟩ | ⟨a,len,cap,m,Sx,hcs,_,hle,hmax,hm,hx,hcell⟩
 ·subst hcs
  exact ⟨none,0,[],rfl,fun s hs => (by cases hs),Ls.nil _⟩
 ·subst hcs
  simp only [if_true] at hm
  subst hm
  obtain ⟨f,hf⟩:=Go.Deep.choose_lt (α:=Str) (p:=fun i x => isB x ∧ Sx i = strOfNums x) (fun i (hi:i < m) => str_of (Sx i))
  have hl:((List.range len).map f).length = len:=by simp
  have hget:∀ i,i < len → ((List.range len).map f).getD i default = f i:=fun i hi => by
   rw [List.getD_eq_getElem?_getD,List.getElem?_map,List.getElem?_range hi]; rfl
  refine ⟨some a,m,(List.range len).map f,by rw [hl],fun s hs => ?_,by omega,hmax,fun hp => ?_,fun h => by cases h⟩
  ·obtain ⟨i,hi,rfl⟩:=List.mem_map.1 hs
   exact (hf i (by have:=List.mem_range.1 hi; omega)).1
  ·rw [hl] at hp
   obtain ⟨b,off,spot⟩:=a
   have h00:=(hcell 0 (by omega)).1
   have hspot:spot = none:=by simpa [Addr.add] using World.cell?_spot h00
   subst hspot
   have key:∀ i,i < m → W.cell? ⟨b,off + i,none⟩ = some (.string (Sx i)):=fun i hi => by
    have:=(hcell i hi).1
    rw [Go.WideShapes.add_plain] at this
    exact this
   refine ⟨b,off,rfl,?_,fun i hi => ?_⟩
   ·have h0:=key 0 (by omega)
    rcases Nat.lt_or_ge b W.heap.size with g | g
    ·exact g
    ·exfalso
     have hn:W.heap[b]? = none:=by simp [g]
     simp [World.cell?,hn] at h0
   ·rw [hl] at hi
    rw [hget i hi,key i (by omega),(hf i (by omega)).2]
    rfl
theorem part_rows {H:Type} {enc:TypeId × Value → H} {P:Program} {W:World} {n:Nat} {t e:TypeId} {cs:List Value} {y:DataW H × List MemPlace} {β:Type} {k:Nat} {cells:β → List Value} {z:β} {In Sm:β → Prop} (hk:Wd k cells)
  (ht:P.underlying t = some (.slice e)) (hc:P.cellsOf e = k)
  (hel:∀ (n:Nat) (cs:List Value) (y:DataW H × List MemPlace),DataW.trod enc P W 0 (fun _ => true) true n e cs = some y → ∃ a,cs = cells a ∧ In a ∧ ((∀ m ∈ y.1.weights P e,m ≤ reachBytes) → Sm a))
  (h:DataW.trod enc P W 0 (fun _ => true) true n t cs = some y) :
  ∃ p cap,∃ L:List β,cs = [.slice p L.length cap] ∧ Rc k cells z W p cap L ∧ (∀ a ∈ L,In a) ∧ ((∀ m ∈ y.1.weights P t,m ≤ reachBytes) → (∀ a ∈ L,Sm a) ∧ cap * P.bytesOf e ≤ reachBytes):=by
 rcases Go.Deep.open_slice ht h with ⟨hcs,hx⟩ | ⟨a,len,cap,m,n,D,Pl,hcs,_,hle,hmax,hm,hx,hall⟩
 ·subst hcs
  exact ⟨none,0,[],rfl,Rc.nil _,fun a ha => (by cases ha),fun _ => ⟨fun a ha => (by cases ha),by simp⟩⟩
 ·subst hcs
  simp only [if_true] at hm
  subst hm
  rw [hc] at hall
  have hall2:∀ i,i < m → ∃ f:β,(∀ j u,(cells f)[j]? = some u → W.cell? ((a.add (i * k)).add j) = some u) ∧ In f ∧ ((∀ m ∈ (D i).weights P e,m ≤ reachBytes) → Sm f):=fun i hi => by
   obtain ⟨cs,h1,h2⟩:=hall i hi
   obtain ⟨f,rfl,g1,g2⟩:=hel _ _ _ h2
   refine ⟨f,fun j u hu => ?_,g1,g2⟩
   obtain ⟨_,_,hc⟩:=World.cells?_some h1
   have hj:j < k:=by
    have:=(List.getElem?_eq_some_iff.1 hu).1
    rw [hk.2.1] at this; exact this
   exact (hc j hj).trans hu
  haveI:Inhabited β:=⟨z⟩
  obtain ⟨f,hf2⟩:=Go.Deep.choose_lt hall2
  have hl:((List.range len).map f).length = len:=by simp
  have hget:∀ i,i < len → ((List.range len).map f).getD i z = f i:=fun i hi => by
   rw [List.getD_eq_getElem?_getD,List.getElem?_map,List.getElem?_range hi]; rfl
  refine ⟨some a,m,(List.range len).map f,by rw [hl],⟨by rw [hl]; exact hle,hmax,fun hp => ?_,fun h => by cases h⟩,fun x hx => ?_,fun hw => ⟨fun x hx2 => ?_,?_⟩⟩
  ·rw [hl] at hp
   obtain ⟨b,off,spot⟩:=a
   have u0:∃ u,(cells (f 0))[0]? = some u:=by
    have:=hk.2.1 (f 0)
    exact ⟨(cells (f 0))[0]'(by rw [this]; exact hk.1),List.getElem?_eq_getElem _⟩
   obtain ⟨u,hu0⟩:=u0
   have h00:=(hf2 0 (by omega)).1 0 u hu0
   have hspot:spot = none:=by simpa [Addr.add] using World.cell?_spot h00
   subst hspot
   have key:∀ i,i < m → ∀ j u,(cells (f i))[j]? = some u → W.cell? ⟨b,off + i * k + j,none⟩ = some u:=fun i hi j u hu => by
    have:=(hf2 i hi).1 j u hu
    rw [Go.WideShapes.add_plain,Go.WideShapes.add_plain] at this
    exact this
   refine ⟨b,off,rfl,?_,fun i hi j u hu => ?_⟩
   ·have h0:=key 0 (by omega) 0 u hu0
    rcases Nat.lt_or_ge b W.heap.size with g | g
    ·exact g
    ·exfalso
     have hn:W.heap[b]? = none:=by simp [g]
     simp [World.cell?,hn] at h0
   ·rw [hl] at hi
    rw [hget i hi] at hu
    exact key i (by omega) j u hu
  ·obtain ⟨i,hi,rfl⟩:=List.mem_map.1 hx
   exact (hf2 i (by have:=List.mem_range.1 hi; omega)).2.1
  ·obtain ⟨i,hi,rfl⟩:=List.mem_map.1 hx2
   refine (hf2 i (by have:=List.mem_range.1 hi; omega)).2.2 fun q hq => hw q ?_
   rw [hx]
   simp only
   rw [DataW.weights,ht]
   refine List.mem_cons_of_mem _ (List.mem_append_left _ ?_)
   exact weights_mem_all (List.mem_map.2 ⟨i,hi,rfl⟩) q hq
  ·rw [hx] at hw
   simp only at hw
   rw [DataW.weights,ht] at hw
   have h1:=hw _ List.mem_cons_self
   simp only [List.length_map,List.length_range] at h1
   rw [show len + (m - len) = m by omega] at h1
   exact h1
theorem ten_part {H:Type} {enc:TypeId × Value → H} {W:World} {n:Nat} {cs:List Value} {y:DataW H × List MemPlace} (h:DataW.trod enc Tryz.prog W 0 (fun _ => true) true n 86 cs = some y) :
  ∃ T A,cs = (tenCells T A).toList ∧ TenT W.heap.size W T A ∧ ((∀ m ∈ y.1.weights Tryz.prog 86,m ≤ reachBytes) → TenSm T):=by
 obtain ⟨xs,n,_,hx,hsz,hlen,hfs⟩:=DataW.trod_struct Tryz.underlying86 h
 rw [show Tryz.prog.cellsOf 86 = 5 by kernel_rfl] at hsz
 match cs,hsz with
 | [v0,v1,v2,v3,v4],_ =>
   match xs,hlen with
   | [y0,y1,y2,y3,y4],_ =>
     have h0:=hfs 0 _ rfl
     change DataW.trod enc Tryz.prog W 0 (fun _ => true) true n 3 (([v0,v1,v2,v3,v4].drop 0).take (Tryz.prog.cellsOf 3)) = some y0 at h0
     rw [show Tryz.prog.cellsOf 3 = 1 by kernel_rfl] at h0
     change DataW.trod enc Tryz.prog W 0 (fun _ => true) true n 3 [v0] = some y0 at h0
     have h1:=hfs 1 _ rfl
     change DataW.trod enc Tryz.prog W 0 (fun _ => true) true n 43 (([v0,v1,v2,v3,v4].drop 1).take (Tryz.prog.cellsOf 43)) = some y1 at h1
     rw [show Tryz.prog.cellsOf 43 = 1 by kernel_rfl] at h1
     change DataW.trod enc Tryz.prog W 0 (fun _ => true) true n 43 [v1] = some y1 at h1
     have h2:=hfs 2 _ rfl
     change DataW.trod enc Tryz.prog W 0 (fun _ => true) true n 82 (([v0,v1,v2,v3,v4].drop 2).take (Tryz.prog.cellsOf 82)) = some y2 at h2
     rw [show Tryz.prog.cellsOf 82 = 1 by kernel_rfl] at h2
     change DataW.trod enc Tryz.prog W 0 (fun _ => true) true n 82 [v2] = some y2 at h2
     have h3:=hfs 3 _ rfl
     change DataW.trod enc Tryz.prog W 0 (fun _ => true) true n 83 (([v0,v1,v2,v3,v4].drop 3).take (Tryz.prog.cellsOf 83)) = some y3 at h3
     rw [show Tryz.prog.cellsOf 83 = 1 by kernel_rfl] at h3
     change DataW.trod enc Tryz.prog W 0 (fun _ => true) true n 83 [v3] = some y3 at h3
     have h4:=hfs 4 _ rfl
     change DataW.trod enc Tryz.prog W 0 (fun _ => true) true n 84 (([v0,v1,v2,v3,v4].drop 4).take (Tryz.prog.cellsOf 84)) = some y4 at h4
     rw [show Tryz.prog.cellsOf 84 = 1 by kernel_rfl] at h4
     change DataW.trod enc Tryz.prog W 0 (fun _ => true) true n 84 [v4] = some y4 at h4
     obtain ⟨a0,e0,f0,w0⟩:=DataW.trod_int Tryz.underlying3 h0
     obtain ⟨p1,c1,x1,e1,i1,k1⟩:=part_ints Tryz.underlying43 Tryz.underlying3 (by kernel_rfl) h1
     obtain ⟨p2,c2,x2,e2,i2,k2⟩:=part_ints Tryz.underlying82 Tryz.underlying118 (by kernel_rfl) h2
     obtain ⟨p3,c3,x3,e3,i3,k3⟩:=part_ints Tryz.underlying83 Tryz.underlying2 (by kernel_rfl) h3
     obtain ⟨p4,c4,x4,e4,i4,k4⟩:=part_bools Tryz.underlying84 Tryz.underlying4 (by kernel_rfl) h4
     simp only [List.cons.injEq,and_true] at e0 e1 e2 e3 e4
     subst e0 e1 e2 e3 e4
     have hw2:(∀ m ∈ y.1.weights Tryz.prog 86,m ≤ reachBytes) → ∀ m ∈ DataW.weightsEach Tryz.prog [3,43,82,83,84] [y0.1,y1.1,y2.1,y3.1,y4.1],m ≤ reachBytes:=by
      intro hw m hm
      apply hw m
      rw [hx]
      simp only [DataW.weights,Tryz.underlying86]
      exact hm
     simp only [DataW.weightsEach,List.mem_append] at hw2
     refine ⟨(a0,x1,x2,x3,x4),⟨p1,c1,p2,c2,p3,c3,p4,c4⟩,rfl,⟨⟨w0,i1,i2,i3,i4⟩,i1.tag _,i2.tag _,i3.tag _,i4.tag _⟩,fun hw => ?_⟩
     rw [show Tryz.prog.bytesOf 3 = 8 by kernel_rfl] at k1
     rw [show Tryz.prog.bytesOf 118 = 4 by kernel_rfl] at k2
     rw [show Tryz.prog.bytesOf 2 = 8 by kernel_rfl] at k3
     rw [show Tryz.prog.bytesOf 4 = 1 by kernel_rfl] at k4
     have q1:=k1 (fun m hm => hw2 hw m (by simp [hm]))
     have q2:=k2 (fun m hm => hw2 hw m (by simp [hm]))
     have q3:=k3 (fun m hm => hw2 hw m (by simp [hm]))
     have q4:=k4 (fun m hm => hw2 hw m (by simp [hm]))
     have l1:=i1.1
     have l2:=i2.1
     have l3:=i3.1
     have l4:=i4.1
     unfold reachBytes at q1 q2 q3 q4
     exact ⟨by simp only; omega,by simp only; omega,by simp only; omega,by simp only; omega⟩
theorem va_part {H:Type} {enc:TypeId × Value → H} {W:World} {n:Nat} {cs:List Value} {y:DataW H × List MemPlace} (h:DataW.trod enc Tryz.prog W 0 (fun _ => true) true n 47 cs = some y) :
  ∃ a:VaA,cs = vaCells a ∧ VaIn W.heap.size W a ∧ ((∀ m ∈ y.1.weights Tryz.prog 47,m ≤ reachBytes) → True):=by
 obtain ⟨xs,n,_,hx,hsz,hlen,hfs⟩:=DataW.trod_struct Tryz.underlying47 h
 rw [show Tryz.prog.cellsOf 47 = 3 by kernel_rfl] at hsz
 match cs,hsz with
 | [v0,v1,v2],_ =>
   match xs,hlen with
   | [y0,y1,y2],_ =>
     have h0:=hfs 0 _ rfl
     change DataW.trod enc Tryz.prog W 0 (fun _ => true) true n 9 (([v0,v1,v2].drop 0).take (Tryz.prog.cellsOf 9)) = some y0 at h0
     rw [show Tryz.prog.cellsOf 9 = 1 by kernel_rfl] at h0
     change DataW.trod enc Tryz.prog W 0 (fun _ => true) true n 9 [v0] = some y0 at h0
     have h1:=hfs 1 _ rfl
     change DataW.trod enc Tryz.prog W 0 (fun _ => true) true n 3 (([v0,v1,v2].drop 1).take (Tryz.prog.cellsOf 3)) = some y1 at h1
     rw [show Tryz.prog.cellsOf 3 = 1 by kernel_rfl] at h1
     change DataW.trod enc Tryz.prog W 0 (fun _ => true) true n 3 [v1] = some y1 at h1
     have h2:=hfs 2 _ rfl
     change DataW.trod enc Tryz.prog W 0 (fun _ => true) true n 43 (([v0,v1,v2].drop 2).take (Tryz.prog.cellsOf 43)) = some y2 at h2
     rw [show Tryz.prog.cellsOf 43 = 1 by kernel_rfl] at h2
     change DataW.trod enc Tryz.prog W 0 (fun _ => true) true n 43 [v2] = some y2 at h2
     obtain ⟨a0,e0,w0⟩:=part_str Tryz.underlying9 h0
     obtain ⟨a1,e1,f1,w1⟩:=DataW.trod_int Tryz.underlying3 h1
     obtain ⟨p2,c2,x2,e2,i2,k2⟩:=part_ints Tryz.underlying43 Tryz.underlying3 (by kernel_rfl) h2
     simp only [List.cons.injEq,and_true] at e0 e1 e2
     subst e0 e1 e2
     have hw2:(∀ m ∈ y.1.weights Tryz.prog 47,m ≤ reachBytes) → ∀ m ∈ DataW.weightsEach Tryz.prog [9,3,43] [y0.1,y1.1,y2.1],m ≤ reachBytes:=by
      intro hw m hm
      apply hw m
      rw [hx]
      simp only [DataW.weights,Tryz.underlying47]
      exact hm
     simp only [DataW.weightsEach,List.mem_append] at hw2
     exact ⟨⟨a0,a1,x2,p2,c2⟩,rfl,⟨w0,w1,i2,i2.tag _⟩,fun _ => trivial⟩
theorem in_part {H:Type} {enc:TypeId × Value → H} {W:World} {n:Nat} {cs:List Value} {y:DataW H × List MemPlace} (h:DataW.trod enc Tryz.prog W 0 (fun _ => true) true n 88 cs = some y) :
  ∃ a:InA,cs = inCells a ∧ InIn W.heap.size W a ∧ ((∀ m ∈ y.1.weights Tryz.prog 88,m ≤ reachBytes) → TenSm a.T):=by
 obtain ⟨xs,n,_,hx,hsz,hlen,hfs⟩:=DataW.trod_struct Tryz.underlying88 h
 rw [show Tryz.prog.cellsOf 88 = 6 by kernel_rfl] at hsz
 match cs,hsz with
 | [v0,v1,v2,v3,v4,v5],_ =>
   match xs,hlen with
   | [y0,y1],_ =>
     have h0:=hfs 0 _ rfl
     change DataW.trod enc Tryz.prog W 0 (fun _ => true) true n 9 (([v0,v1,v2,v3,v4,v5].drop 0).take (Tryz.prog.cellsOf 9)) = some y0 at h0
     rw [show Tryz.prog.cellsOf 9 = 1 by kernel_rfl] at h0
     change DataW.trod enc Tryz.prog W 0 (fun _ => true) true n 9 [v0] = some y0 at h0
     have h1:=hfs 1 _ rfl
     change DataW.trod enc Tryz.prog W 0 (fun _ => true) true n 86 (([v0,v1,v2,v3,v4,v5].drop 1).take (Tryz.prog.cellsOf 86)) = some y1 at h1
     rw [show Tryz.prog.cellsOf 86 = 5 by kernel_rfl] at h1
     change DataW.trod enc Tryz.prog W 0 (fun _ => true) true n 86 [v1,v2,v3,v4,v5] = some y1 at h1
     obtain ⟨a0,e0,w0⟩:=part_str Tryz.underlying9 h0
     obtain ⟨T1,A1,e1,i1,k1⟩:=ten_part h1
     simp only [List.cons.injEq,and_true] at e0
     subst e0
     have hw2:(∀ m ∈ y.1.weights Tryz.prog 88,m ≤ reachBytes) → ∀ m ∈ DataW.weightsEach Tryz.prog [9,86] [y0.1,y1.1],m ≤ reachBytes:=by
      intro hw m hm
      apply hw m
      rw [hx]
      simp only [DataW.weights,Tryz.underlying88]
      exact hm
     simp only [DataW.weightsEach,List.mem_append] at hw2
     refine ⟨⟨a0,T1,A1⟩,?_,⟨w0,i1⟩,fun hw => k1 (fun m hm => hw2 hw m (by simp [hm]))⟩
     show _ = strV a0 :: (tenCells T1 A1).toList
     rw [← e1]
theorem at_part {H:Type} {enc:TypeId × Value → H} {W:World} {n:Nat} {cs:List Value} {y:DataW H × List MemPlace} (h:DataW.trod enc Tryz.prog W 0 (fun _ => true) true n 120 cs = some y) :
  ∃ a:AtA,cs = atCells a ∧ AtIn W.heap.size W a ∧ ((∀ m ∈ y.1.weights Tryz.prog 120,m ≤ reachBytes) → TenSm a.T):=by
 obtain ⟨xs,n,_,hx,hsz,hlen,hfs⟩:=DataW.trod_struct Tryz.underlying120 h
 rw [show Tryz.prog.cellsOf 120 = 12 by kernel_rfl] at hsz
 match cs,hsz with
 | [v0,v1,v2,v3,v4,v5,v6,v7,v8,v9,v10,v11],_ =>
   match xs,hlen with
   | [y0,y1,y2,y3,y4,y5,y6,y7],_ =>
     have h0:=hfs 0 _ rfl
     change DataW.trod enc Tryz.prog W 0 (fun _ => true) true n 9 (([v0,v1,v2,v3,v4,v5,v6,v7,v8,v9,v10,v11].drop 0).take (Tryz.prog.cellsOf 9)) = some y0 at h0
     rw [show Tryz.prog.cellsOf 9 = 1 by kernel_rfl] at h0
     change DataW.trod enc Tryz.prog W 0 (fun _ => true) true n 9 [v0] = some y0 at h0
     have h1:=hfs 1 _ rfl
     change DataW.trod enc Tryz.prog W 0 (fun _ => true) true n 3 (([v0,v1,v2,v3,v4,v5,v6,v7,v8,v9,v10,v11].drop 1).take (Tryz.prog.cellsOf 3)) = some y1 at h1
     rw [show Tryz.prog.cellsOf 3 = 1 by kernel_rfl] at h1
     change DataW.trod enc Tryz.prog W 0 (fun _ => true) true n 3 [v1] = some y1 at h1
     have h2:=hfs 2 _ rfl
     change DataW.trod enc Tryz.prog W 0 (fun _ => true) true n 118 (([v0,v1,v2,v3,v4,v5,v6,v7,v8,v9,v10,v11].drop 2).take (Tryz.prog.cellsOf 118)) = some y2 at h2
     rw [show Tryz.prog.cellsOf 118 = 1 by kernel_rfl] at h2
     change DataW.trod enc Tryz.prog W 0 (fun _ => true) true n 118 [v2] = some y2 at h2
     have h3:=hfs 3 _ rfl
     change DataW.trod enc Tryz.prog W 0 (fun _ => true) true n 2 (([v0,v1,v2,v3,v4,v5,v6,v7,v8,v9,v10,v11].drop 3).take (Tryz.prog.cellsOf 2)) = some y3 at h3
     rw [show Tryz.prog.cellsOf 2 = 1 by kernel_rfl] at h3
     change DataW.trod enc Tryz.prog W 0 (fun _ => true) true n 2 [v3] = some y3 at h3
     have h4:=hfs 4 _ rfl
     change DataW.trod enc Tryz.prog W 0 (fun _ => true) true n 9 (([v0,v1,v2,v3,v4,v5,v6,v7,v8,v9,v10,v11].drop 4).take (Tryz.prog.cellsOf 9)) = some y4 at h4
     rw [show Tryz.prog.cellsOf 9 = 1 by kernel_rfl] at h4
     change DataW.trod enc Tryz.prog W 0 (fun _ => true) true n 9 [v4] = some y4 at h4
     have h5:=hfs 5 _ rfl
     change DataW.trod enc Tryz.prog W 0 (fun _ => true) true n 86 (([v0,v1,v2,v3,v4,v5,v6,v7,v8,v9,v10,v11].drop 5).take (Tryz.prog.cellsOf 86)) = some y5 at h5
     rw [show Tryz.prog.cellsOf 86 = 5 by kernel_rfl] at h5
     change DataW.trod enc Tryz.prog W 0 (fun _ => true) true n 86 [v5,v6,v7,v8,v9] = some y5 at h5
     have h6:=hfs 6 _ rfl
     change DataW.trod enc Tryz.prog W 0 (fun _ => true) true n 82 (([v0,v1,v2,v3,v4,v5,v6,v7,v8,v9,v10,v11].drop 10).take (Tryz.prog.cellsOf 82)) = some y6 at h6
     rw [show Tryz.prog.cellsOf 82 = 1 by kernel_rfl] at h6
     change DataW.trod enc Tryz.prog W 0 (fun _ => true) true n 82 [v10] = some y6 at h6
     have h7:=hfs 7 _ rfl
     change DataW.trod enc Tryz.prog W 0 (fun _ => true) true n 83 (([v0,v1,v2,v3,v4,v5,v6,v7,v8,v9,v10,v11].drop 11).take (Tryz.prog.cellsOf 83)) = some y7 at h7
     rw [show Tryz.prog.cellsOf 83 = 1 by kernel_rfl] at h7
     change DataW.trod enc Tryz.prog W 0 (fun _ => true) true n 83 [v11] = some y7 at h7
     obtain ⟨a0,e0,w0⟩:=part_str Tryz.underlying9 h0
     obtain ⟨a1,e1,f1,w1⟩:=DataW.trod_int Tryz.underlying3 h1
     obtain ⟨a2,e2,f2,w2⟩:=DataW.trod_int Tryz.underlying118 h2
     obtain ⟨a3,e3,f3,w3⟩:=DataW.trod_int Tryz.underlying2 h3
     obtain ⟨a4,e4,w4⟩:=part_str Tryz.underlying9 h4
     obtain ⟨T5,A5,e5,i5,k5⟩:=ten_part h5
     obtain ⟨p6,c6,x6,e6,i6,k6⟩:=part_ints Tryz.underlying82 Tryz.underlying118 (by kernel_rfl) h6
     obtain ⟨p7,c7,x7,e7,i7,k7⟩:=part_ints Tryz.underlying83 Tryz.underlying2 (by kernel_rfl) h7
     simp only [List.cons.injEq,and_true] at e0 e1 e2 e3 e4 e6 e7
     subst e0 e1 e2 e3 e4 e6 e7
     have hw2:(∀ m ∈ y.1.weights Tryz.prog 120,m ≤ reachBytes) → ∀ m ∈ DataW.weightsEach Tryz.prog [9,3,118,2,9,86,82,83] [y0.1,y1.1,y2.1,y3.1,y4.1,y5.1,y6.1,y7.1],m ≤ reachBytes:=by
      intro hw m hm
      apply hw m
      rw [hx]
      simp only [DataW.weights,Tryz.underlying120]
      exact hm
     simp only [DataW.weightsEach,List.mem_append] at hw2
     refine ⟨⟨a0,a1,a2,a3,a4,T5,A5,x6,p6,c6,x7,p7,c7⟩,?_,⟨w0,w1,w2,w3,w4,i5,⟨i6,i6.tag _⟩,i7,i7.tag _⟩,fun hw => k5 (fun m hm => hw2 hw m (by simp [hm]))⟩
     show _ = [strV a0,.int .i64 a1,.int .u32 a2,.int .i64 a3,strV a4] ++ (tenCells T5 A5).toList ++ [.slice p6 x6.length c6,.slice p7 x7.length c7]
     rw [← e5]
     rfl
theorem no_part {H:Type} {enc:TypeId × Value → H} {W:World} {n:Nat} {cs:List Value} {y:DataW H × List MemPlace} (h:DataW.trod enc Tryz.prog W 0 (fun _ => true) true n 81 cs = some y) :
  ∃ a:NoA,cs = noCells a ∧ NoIn W.heap.size W a ∧ ((∀ m ∈ y.1.weights Tryz.prog 81,m ≤ reachBytes) → NoLt a):=by
 obtain ⟨xs,n,_,hx,hsz,hlen,hfs⟩:=DataW.trod_struct Tryz.underlying81 h
 rw [show Tryz.prog.cellsOf 81 = 5 by kernel_rfl] at hsz
 match cs,hsz with
 | [v0,v1,v2,v3,v4],_ =>
   match xs,hlen with
   | [y0,y1,y2,y3,y4],_ =>
     have h0:=hfs 0 _ rfl
     change DataW.trod enc Tryz.prog W 0 (fun _ => true) true n 9 (([v0,v1,v2,v3,v4].drop 0).take (Tryz.prog.cellsOf 9)) = some y0 at h0
     rw [show Tryz.prog.cellsOf 9 = 1 by kernel_rfl] at h0
     change DataW.trod enc Tryz.prog W 0 (fun _ => true) true n 9 [v0] = some y0 at h0
     have h1:=hfs 1 _ rfl
     change DataW.trod enc Tryz.prog W 0 (fun _ => true) true n 9 (([v0,v1,v2,v3,v4].drop 1).take (Tryz.prog.cellsOf 9)) = some y1 at h1
     rw [show Tryz.prog.cellsOf 9 = 1 by kernel_rfl] at h1
     change DataW.trod enc Tryz.prog W 0 (fun _ => true) true n 9 [v1] = some y1 at h1
     have h2:=hfs 2 _ rfl
     change DataW.trod enc Tryz.prog W 0 (fun _ => true) true n 78 (([v0,v1,v2,v3,v4].drop 2).take (Tryz.prog.cellsOf 78)) = some y2 at h2
     rw [show Tryz.prog.cellsOf 78 = 1 by kernel_rfl] at h2
     change DataW.trod enc Tryz.prog W 0 (fun _ => true) true n 78 [v2] = some y2 at h2
     have h3:=hfs 3 _ rfl
     change DataW.trod enc Tryz.prog W 0 (fun _ => true) true n 78 (([v0,v1,v2,v3,v4].drop 3).take (Tryz.prog.cellsOf 78)) = some y3 at h3
     rw [show Tryz.prog.cellsOf 78 = 1 by kernel_rfl] at h3
     change DataW.trod enc Tryz.prog W 0 (fun _ => true) true n 78 [v3] = some y3 at h3
     have h4:=hfs 4 _ rfl
     change DataW.trod enc Tryz.prog W 0 (fun _ => true) true n 79 (([v0,v1,v2,v3,v4].drop 4).take (Tryz.prog.cellsOf 79)) = some y4 at h4
     rw [show Tryz.prog.cellsOf 79 = 1 by kernel_rfl] at h4
     change DataW.trod enc Tryz.prog W 0 (fun _ => true) true n 79 [v4] = some y4 at h4
     obtain ⟨a0,e0,w0⟩:=part_str Tryz.underlying9 h0
     obtain ⟨a1,e1,w1⟩:=part_str Tryz.underlying9 h1
     obtain ⟨p2,c2,x2,e2,w2,i2⟩:=part_strs Tryz.underlying78 Tryz.underlying9 (by kernel_rfl) h2
     obtain ⟨p3,c3,x3,e3,w3,i3⟩:=part_strs Tryz.underlying78 Tryz.underlying9 (by kernel_rfl) h3
     obtain ⟨p4,c4,x4,e4,r4,i4,k4⟩:=part_rows (z:=noAtA) atWd Tryz.underlying79 (by kernel_rfl) (fun n cs y h => at_part h) h4
     simp only [List.cons.injEq,and_true] at e0 e1 e2 e3 e4
     subst e0 e1 e2 e3 e4
     have hw2:(∀ m ∈ y.1.weights Tryz.prog 81,m ≤ reachBytes) → ∀ m ∈ DataW.weightsEach Tryz.prog [9,9,78,78,79] [y0.1,y1.1,y2.1,y3.1,y4.1],m ≤ reachBytes:=by
      intro hw m hm
      apply hw m
      rw [hx]
      simp only [DataW.weights,Tryz.underlying81]
      exact hm
     simp only [DataW.weightsEach,List.mem_append] at hw2
     exact ⟨⟨a0,a1,x2,p2,c2,x3,p3,c3,x4,p4,c4⟩,rfl,⟨w0,w1,⟨w2,i2,i2.tag _⟩,⟨w3,i3,i3.tag _⟩,i4,r4,r4.tag _⟩,fun hw => (k4 (fun m hm => hw2 hw m (by simp [hm]))).1⟩
theorem mo_part {H:Type} {enc:TypeId × Value → H} {W:World} {n:Nat} {cs:List Value} {y:DataW H × List MemPlace} (h:DataW.trod enc Tryz.prog W 0 (fun _ => true) true n 26 cs = some y) :
  ∃ a:MoA,cs = (moCells a).toList ∧ MoIn W.heap.size W a ∧ ((∀ m ∈ y.1.weights Tryz.prog 26,m ≤ reachBytes) → MoLt a):=by
 obtain ⟨xs,n,_,hx,hsz,hlen,hfs⟩:=DataW.trod_struct Tryz.underlying26 h
 rw [show Tryz.prog.cellsOf 26 = 6 by kernel_rfl] at hsz
 match cs,hsz with
 | [v0,v1,v2,v3,v4,v5],_ =>
   match xs,hlen with
   | [y0,y1,y2,y3,y4,y5],_ =>
     have h0:=hfs 0 _ rfl
     change DataW.trod enc Tryz.prog W 0 (fun _ => true) true n 2 (([v0,v1,v2,v3,v4,v5].drop 0).take (Tryz.prog.cellsOf 2)) = some y0 at h0
     rw [show Tryz.prog.cellsOf 2 = 1 by kernel_rfl] at h0
     change DataW.trod enc Tryz.prog W 0 (fun _ => true) true n 2 [v0] = some y0 at h0
     have h1:=hfs 1 _ rfl
     change DataW.trod enc Tryz.prog W 0 (fun _ => true) true n 9 (([v0,v1,v2,v3,v4,v5].drop 1).take (Tryz.prog.cellsOf 9)) = some y1 at h1
     rw [show Tryz.prog.cellsOf 9 = 1 by kernel_rfl] at h1
     change DataW.trod enc Tryz.prog W 0 (fun _ => true) true n 9 [v1] = some y1 at h1
     have h2:=hfs 2 _ rfl
     change DataW.trod enc Tryz.prog W 0 (fun _ => true) true n 22 (([v0,v1,v2,v3,v4,v5].drop 2).take (Tryz.prog.cellsOf 22)) = some y2 at h2
     rw [show Tryz.prog.cellsOf 22 = 1 by kernel_rfl] at h2
     change DataW.trod enc Tryz.prog W 0 (fun _ => true) true n 22 [v2] = some y2 at h2
     have h3:=hfs 3 _ rfl
     change DataW.trod enc Tryz.prog W 0 (fun _ => true) true n 23 (([v0,v1,v2,v3,v4,v5].drop 3).take (Tryz.prog.cellsOf 23)) = some y3 at h3
     rw [show Tryz.prog.cellsOf 23 = 1 by kernel_rfl] at h3
     change DataW.trod enc Tryz.prog W 0 (fun _ => true) true n 23 [v3] = some y3 at h3
     have h4:=hfs 4 _ rfl
     change DataW.trod enc Tryz.prog W 0 (fun _ => true) true n 24 (([v0,v1,v2,v3,v4,v5].drop 4).take (Tryz.prog.cellsOf 24)) = some y4 at h4
     rw [show Tryz.prog.cellsOf 24 = 1 by kernel_rfl] at h4
     change DataW.trod enc Tryz.prog W 0 (fun _ => true) true n 24 [v4] = some y4 at h4
     have h5:=hfs 5 _ rfl
     change DataW.trod enc Tryz.prog W 0 (fun _ => true) true n 24 (([v0,v1,v2,v3,v4,v5].drop 5).take (Tryz.prog.cellsOf 24)) = some y5 at h5
     rw [show Tryz.prog.cellsOf 24 = 1 by kernel_rfl] at h5
     change DataW.trod enc Tryz.prog W 0 (fun _ => true) true n 24 [v5] = some y5 at h5
     obtain ⟨a0,e0,f0,w0⟩:=DataW.trod_int Tryz.underlying2 h0
     obtain ⟨a1,e1,w1⟩:=part_str Tryz.underlying9 h1
     obtain ⟨p2,c2,x2,e2,r2,i2,k2⟩:=part_rows (z:=noNoA) noWd Tryz.underlying22 (by kernel_rfl) (fun n cs y h => no_part h) h2
     obtain ⟨p3,c3,x3,e3,r3,i3,k3⟩:=part_rows (z:=noInA) inWd Tryz.underlying23 (by kernel_rfl) (fun n cs y h => in_part h) h3
     obtain ⟨p4,c4,x4,e4,r4,i4,k4⟩:=part_rows (z:=noVaA) vaWd Tryz.underlying24 (by kernel_rfl) (fun n cs y h => va_part h) h4
     obtain ⟨p5,c5,x5,e5,r5,i5,k5⟩:=part_rows (z:=noVaA) vaWd Tryz.underlying24 (by kernel_rfl) (fun n cs y h => va_part h) h5
     simp only [List.cons.injEq,and_true] at e0 e1 e2 e3 e4 e5
     subst e0 e1 e2 e3 e4 e5
     have hw2:(∀ m ∈ y.1.weights Tryz.prog 26,m ≤ reachBytes) → ∀ m ∈ DataW.weightsEach Tryz.prog [2,9,22,23,24,24] [y0.1,y1.1,y2.1,y3.1,y4.1,y5.1],m ≤ reachBytes:=by
      intro hw m hm
      apply hw m
      rw [hx]
      simp only [DataW.weights,Tryz.underlying26]
      exact hm
     simp only [DataW.weightsEach,List.mem_append] at hw2
     exact ⟨⟨a0,a1,x2,p2,c2,x3,p3,c3,x4,p4,c4,x5,p5,c5⟩,rfl,⟨w0,w1,⟨i2,r2,r2.tag _⟩,⟨i3,r3,r3.tag _⟩,⟨i4,r4,r4.tag _⟩,i5,r5,r5.tag _⟩,fun hw => ⟨(k2 (fun m hm => hw2 hw m (by simp [hm]))).1,(k3 (fun m hm => hw2 hw m (by simp [hm]))).1⟩⟩
theorem mo_open {H:Type} {enc:TypeId × Value → H} {W:World} {base:Nat} {v:Value} {d:DataW H} {ps:List MemPlace}
  (hv:Value.okWide Tryz.prog W .any base 26 v) (h:DataW.Trod enc Tryz.prog W 0 (fun _ => true) true 26 v d ps) :
  ∃ a:MoA,v = moV a ∧ MoIn W.heap.size W a ∧ ((∀ m ∈ d.weights Tryz.prog 26,m ≤ reachBytes) → MoLt a):=by
 obtain ⟨cs,rfl,hsz⟩:=Go.WideShapes.okWide_struct Tryz.underlying26 hv
 obtain ⟨fuel,hf⟩:=h
 obtain ⟨a,e,h1,h2⟩:=mo_part hf
 obtain ⟨l⟩:=cs
 simp only [Value.cells] at e
 refine ⟨a,?_,h1,h2⟩
 unfold moV
 rw [Array.toList_inj.1 e]
end Go.Proofs.YtaikppgoahdjbabGreat
