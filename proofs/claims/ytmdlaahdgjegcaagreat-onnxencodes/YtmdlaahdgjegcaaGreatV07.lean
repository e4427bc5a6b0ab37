import Derived.Lib.ConvBytes
import Derived.Test.YtmdlaahdgjegcaaGreatV05
import Derived.Test.YtmdlaahdgjegcaaGreatV06
set_option maxRecDepth 100000
set_option maxHeartbeats 8000000
namespace Go.Proofs.YtmdlaahdgjegcaaGreat
open Go.RowKit
set_option linter.unusedVariables false
theorem any_takeI (P:Int → Bool) (l:List Int) (n:Nat) (h:n < l.length):(l.take (n + 1)).any P = ((l.take n).any P || P (l.getD n 0)):=by
 rw [List.take_add_one,List.any_append,List.getD_eq_getElem?_getD,List.getElem?_eq_getElem h]
 simp
theorem any_memI {P:Int → Bool} {l:List Int} {n:Nat} (h:n < l.length) (hp:P (l.getD n 0) = true):l.any P = true:=List.any_eq_true.2 ⟨_,getD_mem6 h,hp⟩
theorem rcount7_any (p:Option Addr) (c:Nat) (ds:List Int) (w:World) (h:Ints .i64 w p c ds) :
  Calls Tryz.prog 22 #[.slice p ds.length c] w fun e w' => e = .returned (.tuple #[.int .i64 (countV ds).1,.int .i64 (countV ds).2]) ∧ w' = w:=by
 have A1:=hide h
 have nl:=h.len
 have HR:Hid (∀ R,countV ds = R → R = if ds.any (fun x => decide (x < 0)) = true then (0,1) else if 8 < ds.length then (0,8) else if ds.any (fun x => x == 0) = true then (0,0) else countF 1 ds):=hide (fun R hR => by rw [← hR]; rfl)
 generalize hR:countV ds = R
 replace HR:=hide (uh HR R hR)
 clear hR h
 obtain ⟨R1,R2⟩:=R
 simp only
 go_enter Tryz.func22,Tryz.ntmps22
 go_wp2_with fail
 go_loop [4,5] (fun zv iv => ∃ n:Nat,∃ z:Bool,iv = .int .i64 n ∧ zv = .bool z ∧ n ≤ ds.length ∧ Hid (z = (ds.take n).any (fun x => x == 0)) ∧ Hid ((ds.take n).any (fun x => decide (x < 0)) = false)) (fun _ iv => ds.length - (intOf iv).toNat)
 case atStart => exact ⟨0,false,rfl,rfl,by omega,hide rfl,hide rfl⟩
 case round =>
  obtain ⟨n,z,rfl,rfl,hn,HZ,HN⟩:=hrel
  by_cases hlt:n < ds.length
  ·have hi:(n:Int) < (ds.length:Int):=by omega
   obtain ⟨b,o,rfl,hb,hc⟩:=(uh A1).lies (by omega)
   have k1:w.cell? ⟨b,o + n,none⟩ = some (.int .i64 (ds.getD n 0)):=hc n hlt
   have HT0:=hide (any_takeI (fun x => x == 0) ds n hlt)
   have HT1:=hide (any_takeI (fun x => decide (x < 0)) ds n hlt)
   have HM:Hid (ds.getD n 0 < 0 → ds.any (fun x => decide (x < 0)) = true):=hide (fun hh => any_memI (P:=fun x => decide (x < 0)) hlt (by simpa using hh))
   generalize ds.getD n 0 = x at k1 HT0 HT1 HM
   clear hc
   by_cases hx:x < 0
   ·have HE:Hid (R1 = 0 ∧ R2 = 1):=hide (by have:=uh HR; rw [if_pos (uh HM hx)] at this; simpa using this)
    clear HT0 HT1 HM HZ HN HR
    go_wp2_with fail
    go_ret2
    exact ⟨by rw [(uh HE).1,(uh HE).2]; rfl,rfl⟩
   ·have HN2:Hid ((ds.take (n + 1)).any (fun x => decide (x < 0)) = false):=hide (by rw [uh HT1,uh HN]; simp; omega)
    cases z with
    | true =>
      have HZ2:Hid (true = (ds.take (n + 1)).any (fun x => x == 0)):=hide (by rw [uh HT0,← uh HZ]; rfl)
      clear HT0 HT1 HM HZ HN
      go_wp2_with fail
      go_round
      case rel => exact ⟨n + 1,true,by go_num,rfl,by omega,HZ2,HN2⟩
      case measure => simp [intOf]; omega
    | false =>
      have HZ2:Hid ((x == 0) = (ds.take (n + 1)).any (fun x => x == 0)):=hide (by rw [uh HT0,← uh HZ]; simp)
      clear HT0 HT1 HM HZ HN
      by_cases hx0:x = 0
      ·have tx:(x == 0) = true:=by simp [hx0]
       go_wp2_with fail
       go_round
       case rel => exact ⟨n + 1,true,by go_num,rfl,by omega,hide (by rw [← uh HZ2,tx]),HN2⟩
       case measure => simp [intOf]; omega
      ·have tx:(x == 0) = false:=by simp [hx0]
       go_wp2_with fail
       go_round
       case rel => exact ⟨n + 1,false,by go_num,rfl,by omega,hide (by rw [← uh HZ2,tx]),HN2⟩
       case measure => simp [intOf]; omega
  ·have hi:¬ (n:Int) < (ds.length:Int):=by omega
   have HN3:Hid (ds.any (fun x => decide (x < 0)) = false):=hide (by have:=uh HN; rw [List.take_of_length_le (by omega)] at this; exact this)
   have HZ3:Hid (z = ds.any (fun x => x == 0)):=hide (by have:=uh HZ; rw [List.take_of_length_le (by omega)] at this; exact this)
   have HR2:Hid ((R1,R2) = if 8 < ds.length then ((0,8):Int × Int) else if ds.any (fun x => x == 0) = true then (0,0) else countF 1 ds):=hide (by have:=uh HR; rw [uh HN3,if_neg (by decide)] at this; exact this)
   clear HZ HN HR
   by_cases h8:8 < ds.length
   ·have t8:(8:Int) < (ds.length:Int):=by omega
    have HE:Hid (R1 = 0 ∧ R2 = 8):=hide (by have:=uh HR2; rw [if_pos h8] at this; simpa using this)
    go_wp2_with fail
    go_ret2
    exact ⟨by rw [(uh HE).1,(uh HE).2]; rfl,rfl⟩
   ·have t8:¬ (8:Int) < (ds.length:Int):=by omega
    cases z with
    | true =>
      have HE:Hid (R1 = 0 ∧ R2 = 0):=hide (by have:=uh HR2; rw [if_neg h8,← uh HZ3,if_pos rfl] at this; simpa using this)
      clear HR2
      go_wp2_with fail
      go_ret2
      exact ⟨by rw [(uh HE).1,(uh HE).2]; rfl,rfl⟩
    | false =>
      have HC:Hid (countF 1 ds = (R1,R2)):=hide (by have:=uh HR2; rw [if_neg h8,← uh HZ3,if_neg (by decide)] at this; exact this.symm)
      have HP:Hid (∀ x ∈ ds,0 ≤ x):=hide (fun x hx => by have:=uh HN3; rw [List.any_eq_false] at this; have:=this x hx; simp at this; exact this)
      clear HR2
      go_wp2_with fail
      go_loop [6,7] (fun mv iv => ∃ j:Nat,∃ N:Int,iv = .int .i64 j ∧ mv = .int .i64 N ∧ j ≤ ds.length ∧ 0 ≤ N ∧ N ≤ 4096 ∧ Hid (countF N (ds.drop j) = (R1,R2))) (fun _ iv => ds.length - (intOf iv).toNat)
      case atStart => exact ⟨0,1,rfl,rfl,by omega,by omega,by omega,hide (by rw [List.drop_zero]; exact uh HC)⟩
      case round =>
       obtain ⟨j,N,rfl,rfl,hj,N0,N1,HJ⟩:=hrel
       by_cases hjl:j < ds.length
       ·have hji:(j:Int) < (ds.length:Int):=by omega
        obtain ⟨b,o,rfl,hb,hc⟩:=(uh A1).lies (by omega)
        have k1:w.cell? ⟨b,o + j,none⟩ = some (.int .i64 (ds.getD j 0)):=hc j hjl
        have x0:=uh HP _ (getD_mem6 hjl)
        have HD:Hid (countF N (ds.getD j 0 :: ds.drop (j + 1)) = (R1,R2)):=hide (by rw [← drop_cons6 hjl]; exact uh HJ)
        generalize ds.getD j 0 = x at k1 x0 HD
        clear hc HJ
        by_cases hx:4096 < x
        ·have HE:Hid (R1 = 0 ∧ R2 = 8):=hide (by have:=uh HD; rw [countF,if_pos hx] at this; simp only [Prod.mk.injEq] at this; exact ⟨this.1.symm,this.2.symm⟩)
         clear HD
         go_wp2_with fail
         go_ret2
         exact ⟨by rw [(uh HE).1,(uh HE).2]; rfl,rfl⟩
        ·have hx1:x ≤ 4096:=by omega
         have hm0:0 ≤ N * x:=Int.mul_nonneg N0 x0
         have hm1:N * x ≤ 16777216:=by
          have h1:N * x ≤ 4096 * x:=Int.mul_le_mul_of_nonneg_right N1 x0
          omega
         obtain ⟨M,hM⟩:∃ M,N * x = M:=⟨_,rfl⟩
         have HM:=hide hM
         have hwr:IntKind.i64.wrap (N * x) = M:=by rw [hM,IntKind.wrap_i64]; omega
         by_cases hbig:4096 < M
         ·have HE:Hid (R1 = 0 ∧ R2 = 8):=hide (by have:=uh HD; rw [countF,if_neg hx,if_pos (by omega)] at this; simp only [Prod.mk.injEq] at this; exact ⟨this.1.symm,this.2.symm⟩)
          have hb2:4096 < N * x:=by omega
          clear HD hM HM hwr
          go_wp2_with fail
          go_ret2
          exact ⟨by rw [(uh HE).1,(uh HE).2]; rfl,rfl⟩
         ·have HD2:Hid (countF (N * x) (ds.drop (j + 1)) = (R1,R2)):=hide (by have:=uh HD; rw [countF,if_neg hx,if_neg (by omega)] at this; exact this)
          have hb2:¬ 4096 < N * x:=by omega
          clear HD hM HM hwr
          go_wp2_with fail
          go_round
          case rel => exact ⟨j + 1,N * x,by go_num,rfl,by omega,hm0,by omega,HD2⟩
          case measure => simp [intOf]; omega
       ·have hji:¬ (j:Int) < (ds.length:Int):=by omega
        have HE:Hid (R1 = N ∧ R2 = 0):=hide (by have:=uh HJ; rw [List.drop_of_length_le (by omega),countF] at this; simp only [Prod.mk.injEq] at this; exact ⟨this.1.symm,this.2.symm⟩)
        clear HJ
        go_wp2_with fail
        go_ret2
        exact ⟨by rw [(uh HE).1,(uh HE).2]; rfl,rfl⟩
theorem field_num (num x:Int):fieldB (numF num x) = varV (num * 8) ++ varV x:=by
 unfold fieldB bodyB numF
 simp
theorem field_blk (num:Int) (b:List Int):fieldB (blkF num b) = varV (num * 8 + 2) ++ (varV (b.length:Int) ++ b):=by
 unfold fieldB bodyB blkF
 simp
theorem rnumber_any (num x:Int) (w:World) (h1:1 ≤ num) (h2:num ≤ 536870911) (x0:0 ≤ x) (x1:x < 18446744073709551616) :
  Calls Tryz.prog 41 #[.int .i64 num,.int .u64 x] w fun e w' => ∃ v,e = .returned v ∧ OwnG 5 (Value.int .u8) w w' v (fieldB (numF num x)):=by
 obtain ⟨i1,hi1,y1,z1,b1⟩:=info_parts Tryz.infoU8
 have VT:=hide (fun v => rvarint_any (num * 8) v (by omega) (by omega))
 have VX:=hide (fun v => rvarint_any x v x0 x1)
 have l1:=(varV_len (num * 8)).2
 have l2:=(varV_len x).2
 rw [field_num]
 generalize varV (num * 8) = V1 at VT l1 ⊢
 generalize varV x = V2 at VX l2 ⊢
 go_enter Tryz.func41,Tryz.ntmps41
 go_wp2_with fail
 refine (uh VT _).mono ?_
 rintro e w1 ⟨v1,rfl,hO1⟩
 have O1:=hide hO1
 clear hO1 VT
 go_wp2_with fail
 refine (uh VX _).mono ?_
 rintro e w2 ⟨v2,rfl,hO2⟩
 obtain ⟨q2,d2,rfl,hl2,_⟩:=hO2.form
 have L2:=hide hl2
 replace O1:=hide ((uh O1).below hO2.2)
 clear hO2 hl2 VX
 go_wp2_with (at_builtin; (refine wpList_append_lsW rfl _ _ 22 rfl w 5 i1 (.int .u8 0) 1 Tryz.underlying22 hi1 y1 z1 b1 rfl (int_one .u8) _ V1 rfl (uh O1) q2 d2 V2 rfl (uh L2) (by unfold maxLen; omega) (by omega) ?_; intro v3 w3 O3 G3; have HO3:=hide O3; clear O3 G3))
 go_ret
 exact ⟨_,rfl,uh HO3⟩
theorem rblock_any (num:Int) (p:Option Addr) (c:Nat) (b:List Int) (w:World) (h:Ls (Value.int .u8) w p c b) (h1:1 ≤ num) (h2:num ≤ 536870911) (hs:b.length ≤ 140737488351232) :
  Calls Tryz.prog 36 #[.int .i64 num,.slice p b.length c] w fun e w' => ∃ v,e = .returned v ∧ OwnG 5 (Value.int .u8) w w' v (fieldB (blkF num b)):=by
 obtain ⟨i1,hi1,y1,z1,b1⟩:=info_parts Tryz.infoU8
 have A1:=hide h
 clear h
 have VT:=hide (fun v => rvarint_any (num * 8 + 2) v (by omega) (by omega))
 have VX:=hide (fun v => rvarint_any (b.length:Int) v (by omega) (by omega))
 have l1:=(varV_len (num * 8 + 2)).2
 have l2:=(varV_len (b.length:Int)).2
 rw [field_blk]
 generalize varV (num * 8 + 2) = V1 at VT l1 ⊢
 generalize varV (b.length:Int) = V2 at VX l2 ⊢
 go_enter Tryz.func36,Tryz.ntmps36
 go_wp2_with fail
 refine (uh VT _).mono ?_
 rintro e w1 ⟨v1,rfl,hO1⟩
 have O1:=hide hO1
 clear hO1 VT
 go_wp2_with fail
 refine (uh VX _).mono ?_
 rintro e w2 ⟨v2,rfl,hO2⟩
 obtain ⟨q2,d2,rfl,hl2,_⟩:=hO2.form
 have L2:=hide hl2
 replace O1:=hide ((uh O1).below hO2.2)
 clear hO2 hl2 VX
 go_wp2_with (at_builtin; first
  | (refine wpList_append_lsW rfl (.tmp 17) (.tmp 18) 22 rfl w 5 i1 (.int .u8 0) 1 Tryz.underlying22 hi1 y1 z1 b1 rfl (int_one .u8) _ (V1 ++ V2) rfl (uh O3) p c b rfl ((uh A1).below (uh O3).2) (by unfold maxLen; rw [List.length_append]; omega) (by rw [List.length_append]; omega) ?_; intro v4 w4 O4 G4; have HO4:=hide O4; clear O4 G4)
  | (refine wpList_append_lsW rfl (.tmp 11) (.tmp 15) 22 rfl w 5 i1 (.int .u8 0) 1 Tryz.underlying22 hi1 y1 z1 b1 rfl (int_one .u8) _ V1 rfl (uh O1) q2 d2 V2 rfl (uh L2) (by unfold maxLen; omega) (by omega) ?_; intro v3 w3 P3 G3; have O3:=hide P3; clear P3 G3))
 go_ret
 exact ⟨_,rfl,own_eq6 (uh HO4) (by rw [List.append_assoc])⟩
theorem rbytesOf_any (x:Int) (n:Nat) (w:World) (h0:0 ≤ x) (h1:x < 18446744073709551616) (hn:n ≤ 8) :
  Calls Tryz.prog 79 #[.int .u64 x,.int .i64 n] w fun e w' => ∃ v,e = .returned v ∧ OwnG 5 (Value.int .u8) w w' v (fxL x n):=by
 obtain ⟨i1,hi1,y1,z1,b1⟩:=info_parts Tryz.infoU8
 go_enter Tryz.func79,Tryz.ntmps79
 go_wp2_with fail
 go_loopw [0,5,6] (fun yv v jv wr => ∃ j:Nat,∃ y:Int,jv = .int .i64 j ∧ yv = .int .u64 y ∧ j ≤ n ∧ 0 ≤ y ∧ y < 18446744073709551616 ∧ Hid (y = x / 256 ^ j) ∧ Hid (OwnG 5 (Value.int .u8) w wr v (fxL x j))) (fun _ _ jv _ => n - (intOf jv).toNat)
 case atStart => exact ⟨0,x,rfl,rfl,by omega,h0,h1,hide (by simp),hide (OwnG.nil _ _ _ (Below.refl _ _))⟩
 case round =>
  obtain ⟨j,y,rfl,rfl,hj,v0,v1,HY,O⟩:=hrel
  by_cases hjl:j < n
  ·have hji:(j:Int) < (n:Int):=by omega
   have d0:0 ≤ y / 256:=by omega
   have d1:y / 256 < 18446744073709551616:=by omega
   have m0:0 ≤ y % 256:=by omega
   have m1:y % 256 < 256:=by omega
   have hl2:(fxL x j).length = j:=fxL_length _ _
   have HS:Hid (fxL x (j + 1) = fxL x j ++ [y % 256]):=hide (by rw [uh HY]; rfl)
   have HY2:Hid (y / 256 = x / 256 ^ (j + 1)):=hide (by rw [uh HY,Int.pow_succ,Int.ediv_ediv_of_nonneg (Int.pow_nonneg (by decide))])
   obtain ⟨m,hm⟩:∃ m,y % 256 = m:=⟨_,rfl⟩
   rw [hm] at m0 m1 HS
   have hwr:IntKind.u8.wrap m = m:=by rw [IntKind.wrap_u8]; omega
   have HL:=hide hl2
   clear HY hl2
   go_wp2_with (at_builtin; (refine wpList_append_ls rfl _ _ 22 rfl w 5 i1 (.int .u8 0) 1 Tryz.underlying22 hi1 y1 z1 b1 rfl (int_one .u8) _ (fxL x j) rfl ((uh O).below (al1p _ _)) (some ⟨_,0,none⟩) 1 [m] rfl (ls_one6 _ _ _) (by unfold maxLen; rw [uh HL]; simp <;> omega) (by rw [uh HL]; simp <;> omega) ?_; intro v2 w2 O2; have HO2:=hide O2; clear O2))
   go_roundw
   case rel => exact ⟨j + 1,y / 256,by go_num,rfl,by omega,d0,d1,HY2,hide (by rw [uh HS]; exact uh HO2)⟩
   case measure => simp [intOf]; omega
  ·have hji:¬ (j:Int) < (n:Int):=by omega
   have ej:j = n:=by omega
   subst ej
   clear HY
   go_wp2_with fail
   go_ret
   exact ⟨_,rfl,uh O⟩
theorem below_bytes (w:World) (e:TypeId) (s:ByteArray):Below w.heap.size w (Go.Lib.bytesWorld w e s):=by
 refine ⟨?_,?_,?_,by rw [Go.Lib.bytesWorld_size]; omega,fun k hk => Go.Lib.bytesWorld_at_old w e s k hk⟩
 all_goals rfl
theorem str_isE (s:Str):(strOfNums s).toList.isEmpty = decide (s = []):=by
 rw [ByteArray.toList_eq,strOfNums_data]
 cases s <;> rfl
theorem u64w_rng (x:Int):0 ≤ u64w x ∧ u64w x < 18446744073709551616:=by
 unfold u64w
 rw [IntKind.wrap_u64]
 omega
theorem str_getD {s:Str} {j:Nat} (hs:isB s) (hj:j < s.length):(((strOfNums s).data.toList.getD j 0).toNat:Int) = s.getD j 0:=by
 rw [strOfNums_data,List.getD_eq_getElem?_getD,List.getElem?_map,List.getElem?_eq_getElem hj,List.getD_eq_getElem?_getD,List.getElem?_eq_getElem hj]
 obtain ⟨h0,h1⟩:=hs s[j] (List.getElem_mem hj)
 simp only [Option.map_some,Option.getD_some,UInt8.toNat_ofNat']
 omega
theorem ls_bytes {w:World} {e:TypeId} {s:Str} (hs:isB s) (hl:s.length ≤ 9223372036854775807):Ls (Value.int .u8) (Go.Lib.bytesWorld w e (strOfNums s)) (some ⟨w.heap.size,0,none⟩) (grownCap w s.length 0 e) s:=by
 refine ⟨grownCap_ge w s.length 0 e,grownCap_le_maxLen w s.length 0 e (by unfold maxLen; omega),fun _ => ⟨w.heap.size,0,rfl,by rw [Go.Lib.bytesWorld_size]; omega,fun i hi => ?_⟩,fun h => by cases h⟩
 rw [Nat.zero_add,Go.Lib.bytesWorld_cell w e (strOfNums s) i (by rw [str_len]; exact hi),str_getD hs hi]
 rfl
theorem rword_any (num:Int) (s:Str) (w:World) (hs:isB s) (h1:1 ≤ num) (h2:num ≤ 536870911) (hl:s.length ≤ 140737488351232) :
  Calls Tryz.prog 38 #[.int .i64 num,strV s] w fun e w' => ∃ v,e = .returned v ∧ OwnG 5 (Value.int .u8) w w' v (msgB (wordF num s)):=by
 unfold strV
 by_cases h0:s = []
 ·subst h0
  have te:(strOfNums []).toList.isEmpty = true:=by rw [str_isE]; rfl
  go_enter Tryz.func38,Tryz.ntmps38
  go_wp2_with fail
  go_ret
  exact ⟨_,rfl,OwnG.nil _ _ _ (Below.refl _ _)⟩
 ·have te:(strOfNums s).toList.isEmpty = false:=by rw [str_isE]; exact decide_eq_false h0
  have ew:msgB (wordF num s) = fieldB (blkF num s):=by unfold wordF; rw [if_neg h0]; simp [msgB]
  rw [ew]
  have kc:=fun (w:World) (b:ByteArray) => Go.Lib.run_convert_string_bytes (P:=Tryz.prog) w 9 22 5 b Tryz.underlying9 Tryz.underlying22 Tryz.underlying5
  have BK:=hide (rblock_any num _ _ s (Go.Lib.bytesWorld w 5 (strOfNums s)) (ls_bytes (w:=w) (e:=5) hs (by omega)) h1 h2 hl)
  have hsz:(strOfNums s).size = s.length:=str_len s
  have BB:=hide (below_bytes w 5 (strOfNums s))
  clear ew h0
  go_enter Tryz.func38,Tryz.ntmps38
  go_wp2_with fail
  refine (uh BK).mono ?_
  rintro e w1 ⟨v1,rfl,hO⟩
  have HO:Hid (OwnG 5 (Value.int .u8) w w1 v1 (fieldB (blkF num s))):=hide (by
   obtain ⟨⟨g1,g2⟩,g3⟩:=hO
   refine ⟨⟨g1,?_⟩,bl_tr (uh BB) g3⟩
   rcases g2 with g | ⟨g,cap,cur,hv,hg,rest⟩
   ·exact .inl g
   ·exact .inr ⟨g,cap,cur,hv,Nat.le_trans (uh BB).size hg,rest⟩)
  clear hO BK
  go_wp2_with fail
  go_ret
  exact ⟨_,rfl,uh HO⟩
theorem Tryz.infoI64:(Tryz.prog.info? 2).map (fun i => (i.zero,i.size,i.bytes)) = some (some (.int .i64 0),1,8):=by kernel_rfl
theorem rlongs_any (p:Option Addr) (c:Nat) (l:List Int) (w:World) (h:Ints .i64 w p c l) (hs:l.length * 8 ≤ 140737488355328) :
  Calls Tryz.prog 78 #[.slice p l.length c] w fun e w' => ∃ v,e = .returned v ∧ OwnG 2 (Value.int .i64) w w' v l:=by
 obtain ⟨i1,hi1,y1,z1,b1⟩:=info_parts Tryz.infoI64
 have A1:=hide h
 have nl:=h.len
 clear h
 go_enter Tryz.func78,Tryz.ntmps78
 go_wp2_with fail
 go_loopw [3,4] (fun v iv wr => ∃ n:Nat,iv = .int .i64 n ∧ n ≤ l.length ∧ Hid (OwnG 2 (Value.int .i64) w wr v (l.take n))) (fun _ iv _ => l.length - (intOf iv).toNat)
 case atStart => exact ⟨0,rfl,by omega,hide (OwnG.nil _ _ _ (Below.refl _ _))⟩
 case round =>
  obtain ⟨n,rfl,hn,O⟩:=hrel
  by_cases hlt:n < l.length
  ·have hi:(n:Int) < (l.length:Int):=by omega
   obtain ⟨b,o,rfl,hb,hc⟩:=((uh A1).below (uh O).2).lies (by omega)
   have k1:wr.cell? ⟨b,o + n,none⟩ = some (.int .i64 (l.getD n 0)):=hc n hlt
   have HT:Hid (l.take (n + 1) = l.take n ++ [l.getD n 0]):=hide (by rw [List.take_add_one,List.getD_eq_getElem?_getD,List.getElem?_eq_getElem hlt]; rfl)
   have hl:(l.take n).length = n:=by rw [List.length_take]; omega
   have HL:=hide hl
   generalize l.getD n 0 = x at k1 HT
   obtain ⟨P,hP⟩:∃ P,l.take n = P:=⟨_,rfl⟩
   rw [hP] at O HT hl
   clear hc hP HL
   go_wp2_with (at_builtin; (refine wpList_append_ls rfl _ _ 77 rfl w 2 i1 (.int .i64 0) 8 Tryz.underlying77 hi1 y1 z1 b1 rfl (int_one .i64) _ P rfl ((uh O).below (al1p _ _)) (some ⟨_,0,none⟩) 1 [x] rfl (ls_one6 _ _ _) (by unfold maxLen; simp only [List.length_singleton]; omega) (by simp only [List.length_singleton]; omega) ?_; intro v2 w2 O2; have HO2:=hide O2; clear O2))
   go_roundw
   case rel => exact ⟨n + 1,by go_num,by omega,hide (by rw [uh HT]; exact uh HO2)⟩
   case measure => simp [intOf]; omega
  ·have hi:¬ (n:Int) < (l.length:Int):=by omega
   have HE:Hid (l.take n = l):=hide (List.take_of_length_le (by omega))
   go_wp2_with fail
   go_ret
   exact ⟨_,rfl,by have:=uh O; rw [uh HE] at this; exact this⟩
theorem rpacked_any (num:Int) (p:Option Addr) (c:Nat) (l:List Int) (w:World) (h:Ints .i64 w p c l) (h1:1 ≤ num) (h2:num ≤ 536870911) (hs:l.length ≤ 10000000000) :
  Calls Tryz.prog 77 #[.int .i64 num,.slice p l.length c] w fun e w' => ∃ v,e = .returned v ∧ OwnG 5 (Value.int .u8) w w' v (msgB (packF num l)):=by
 obtain ⟨i1,hi1,y1,z1,b1⟩:=info_parts Tryz.infoU8
 have A1:=hide h
 have nl:=h.len
 clear h
 by_cases h0:l.length = 0
 ·have hl0:l = []:=List.eq_nil_of_length_eq_zero h0
  subst hl0
  go_enter Tryz.func77,Tryz.ntmps77
  go_wp2_with fail
  go_ret
  exact ⟨_,rfl,OwnG.nil _ _ _ (Below.refl _ _)⟩
 ·have t0:((l.length:Int) == 0) = false:=by rw [beq_eq_false_iff_ne]; omega
  have ew:msgB (packF num l) = fieldB (blkF num (l.flatMap fun x => varV (u64w x))):=by unfold packF; rw [if_neg h0]; simp [msgB]
  rw [ew]
  obtain ⟨F,hF⟩:∃ F,(l.flatMap fun x => varV (u64w x)) = F:=⟨_,rfl⟩
  rw [hF]
  have HF:=hide hF
  have hfl:∀ m:List Int,(m.flatMap fun x => varV (u64w x)).length ≤ m.length * 10:=fun m => by
   induction m with
   | nil => simp
   | cons x r ih =>
     rw [List.flatMap_cons,List.length_append,List.length_cons]
     have:=(varV_len (u64w x)).2
     omega
  have HFL:=hide hfl
  clear hfl ew h0 hF
  go_enter Tryz.func77,Tryz.ntmps77
  go_wp2_with fail
  go_loopw [5,6] (fun v iv wr => ∃ n:Nat,iv = .int .i64 n ∧ n ≤ l.length ∧ Hid (OwnG 5 (Value.int .u8) w wr v ((l.take n).flatMap fun x => varV (u64w x)))) (fun _ iv _ => l.length - (intOf iv).toNat)
  case atStart => exact ⟨0,rfl,by omega,hide (OwnG.nil _ _ _ (Below.refl _ _))⟩
  case round =>
   obtain ⟨n,rfl,hn,O⟩:=hrel
   by_cases hlt:n < l.length
   ·have hi:(n:Int) < (l.length:Int):=by omega
    obtain ⟨b,o,rfl,hb,hc⟩:=((uh A1).below (uh O).2).lies (by omega)
    have k1:wr.cell? ⟨b,o + n,none⟩ = some (.int .i64 (l.getD n 0)):=hc n hlt
    have HT:Hid (((l.take (n + 1)).flatMap fun x => varV (u64w x)) = ((l.take n).flatMap fun x => varV (u64w x)) ++ varV (u64w (l.getD n 0))):=hide (by
     rw [List.take_add_one,List.getD_eq_getElem?_getD,List.getElem?_eq_getElem hlt,List.flatMap_append]; simp)
    have hl:=uh HFL (l.take n)
    rw [List.length_take] at hl
    obtain ⟨u0,u1⟩:=u64w_rng (l.getD n 0)
    have VX:=hide (fun v => rvarint_any (u64w (l.getD n 0)) v u0 u1)
    have lv:=(varV_len (u64w (l.getD n 0))).2
    have hwr:∀ y:Int,IntKind.u64.wrap y = u64w y:=fun y => rfl
    have hx:IntKind.u64.wrap (l.getD n 0) = u64w (l.getD n 0):=rfl
    generalize l.getD n 0 = x at k1 HT VX lv u0 u1 hx
    generalize u64w x = X at HT VX lv u0 u1 hx
    generalize varV X = V at HT VX lv
    obtain ⟨P,hP⟩:∃ P,((l.take n).flatMap fun x => varV (u64w x)) = P:=⟨_,rfl⟩
    rw [hP] at O HT hl
    clear hc hP hwr
    go_wp2_with fail
    try rw [hx]
    refine (uh VX _).mono ?_
    rintro e w1 ⟨v1,rfl,hO⟩
    obtain ⟨q1,d1,rfl,hl1,_⟩:=hO.form
    have L1:=hide hl1
    have O1:=hide ((uh O).below hO.2)
    clear hO hl1 VX
    go_wp2_with (at_builtin; (refine wpList_append_ls rfl _ _ 22 rfl w 5 i1 (.int .u8 0) 1 Tryz.underlying22 hi1 y1 z1 b1 rfl (int_one .u8) _ P rfl (uh O1) q1 d1 V rfl (uh L1) (by unfold maxLen; omega) (by omega) ?_; intro v2 w2 O2; have HO2:=hide O2; clear O2))
    go_roundw
    case rel => exact ⟨n + 1,by go_num,by omega,hide (by rw [uh HT]; exact uh HO2)⟩
    case measure => simp [intOf]; omega
   ·have hi:¬ (n:Int) < (l.length:Int):=by omega
    have HE:Hid (l.take n = l):=hide (List.take_of_length_le (by omega))
    obtain ⟨q,d,hv,hL,_⟩:=(uh O).form
    rw [uh HE,uh HF] at hv hL
    subst hv
    have hfl:=uh HFL l
    rw [uh HF] at hfl
    have BK:=hide (rblock_any num q d F wr hL h1 h2 (by omega))
    have BW:=hide (uh O).2
    clear O hL HFL hfl
    go_wp2_with fail
    refine (uh BK).mono ?_
    rintro e w1 ⟨v1,rfl,hO⟩
    have HO:Hid (OwnG 5 (Value.int .u8) w w1 v1 (fieldB (blkF num F))):=hide (by
     obtain ⟨⟨g1,g2⟩,g3⟩:=hO
     refine ⟨⟨g1,?_⟩,bl_tr (uh BW) g3⟩
     rcases g2 with g | ⟨g,cap,cur,hv,hg,rest⟩
     ·exact .inl g
     ·exact .inr ⟨g,cap,cur,hv,Nat.le_trans (uh BW).size hg,rest⟩)
    clear hO BK
    go_wp2_with fail
    go_ret
    exact ⟨_,rfl,uh HO⟩
theorem quo_gt {N x:Int} (h0:0 < N) (h1:N ≤ 4096) (hx:0 ≤ x):(4096 / N < x) ↔ 4096 < N * x:=by
 constructor
 ·intro h
  rcases Int.lt_or_le 4096 (N * x) with g | g
  ·exact g
  ·have:=Int.le_ediv_of_mul_le h0 (a:=x) (b:=4096) (by rw [Int.mul_comm]; exact g)
   omega
 ·intro h
  rcases Int.lt_or_le (4096 / N) x with g | g
  ·exact g
  ·have h2:N * x ≤ N * (4096 / N):=Int.mul_le_mul_of_nonneg_left g (by omega)
   have h3:N * (4096 / N) ≤ 4096:=Int.mul_ediv_self_le (by omega)
   omega
theorem countF_step {N x:Int} {r:List Int} (h0:0 < N) (hx:0 < x):countF N (x :: r) = if 4096 < N * x then (0,8) else countF (N * x) r:=by
 rw [countF]
 by_cases h:4096 < x
 ·rw [if_pos h]
  have:x ≤ N * x:=by
   have:=Int.mul_le_mul_of_nonneg_right (show (1:Int) ≤ N by omega) (show 0 ≤ x by omega)
   omega
  rw [if_pos (by omega)]
 ·rw [if_neg h]
theorem wq4096 {N:Int} (h0:0 < N) (h1:N ≤ 4096):IntKind.i64.wrap (Int.tdiv 4096 N) = 4096 / N:=by
 rw [Int.tdiv_eq_ediv_of_nonneg (by omega),IntKind.wrap_i64]
 have a1:0 ≤ 4096 / N:=Int.ediv_nonneg (by omega) (by omega)
 have a2:4096 / N ≤ 4096:=Int.ediv_le_self _ (by omega)
 omega
theorem ccount_any (p:Option Addr) (c:Nat) (ds:List Int) (w:World) (h:Ints .i64 w p c ds) :
  Calls Tryz.prog 21 #[.slice p ds.length c] w fun e w' => e = .returned (.tuple #[.int .i64 (countV ds).1,.int .i64 (countV ds).2]) ∧ w' = w:=by
 have A1:=hide h
 have nl:=h.len
 have HR:Hid (∀ R,countV ds = R → R = if ds.any (fun x => decide (x < 0)) = true then (0,1) else if 8 < ds.length then (0,8) else if ds.any (fun x => x == 0) = true then (0,0) else countF 1 ds):=hide (fun R hR => by rw [← hR]; rfl)
 generalize hR:countV ds = R
 replace HR:=hide (uh HR R hR)
 clear hR h
 obtain ⟨R1,R2⟩:=R
 simp only
 go_enter Tryz.func21,Tryz.ntmps21
 go_wp2_with fail
 go_loop [4,12] (fun zv iv => ∃ n:Nat,∃ z:Bool,iv = .int .i64 n ∧ zv = .bool z ∧ n ≤ ds.length ∧ Hid (z = (ds.take n).any (fun x => x == 0)) ∧ Hid ((ds.take n).any (fun x => decide (x < 0)) = false)) (fun _ iv => ds.length - (intOf iv).toNat)
 case atStart => exact ⟨0,false,rfl,rfl,by omega,hide rfl,hide rfl⟩
 case round =>
  obtain ⟨n,z,rfl,rfl,hn,HZ,HN⟩:=hrel
  by_cases hlt:n < ds.length
  ·have hi:(n:Int) < (ds.length:Int):=by omega
   obtain ⟨b,o,rfl,hb,hc⟩:=(uh A1).lies (by omega)
   have k1:w.cell? ⟨b,o + n,none⟩ = some (.int .i64 (ds.getD n 0)):=hc n hlt
   have HT0:=hide (any_takeI (fun x => x == 0) ds n hlt)
   have HT1:=hide (any_takeI (fun x => decide (x < 0)) ds n hlt)
   have HM:Hid (ds.getD n 0 < 0 → ds.any (fun x => decide (x < 0)) = true):=hide (fun hh => any_memI (P:=fun x => decide (x < 0)) hlt (by simpa using hh))
   generalize ds.getD n 0 = x at k1 HT0 HT1 HM
   clear hc
   by_cases hx:x < 0
   ·have HE:Hid (R1 = 0 ∧ R2 = 1):=hide (by have:=uh HR; rw [if_pos (uh HM hx)] at this; simpa using this)
    clear HT0 HT1 HM HZ HN HR
    go_wp2_with fail
    go_ret2
    exact ⟨by rw [(uh HE).1,(uh HE).2]; rfl,rfl⟩
   ·have HN2:Hid ((ds.take (n + 1)).any (fun x => decide (x < 0)) = false):=hide (by rw [uh HT1,uh HN]; simp; omega)
    cases z with
    | true =>
      have HZ2:Hid (true = (ds.take (n + 1)).any (fun x => x == 0)):=hide (by rw [uh HT0,← uh HZ]; rfl)
      clear HT0 HT1 HM HZ HN
      go_wp2_with fail
      go_round
      case rel => exact ⟨n + 1,true,by go_num,rfl,by omega,HZ2,HN2⟩
      case measure => simp [intOf]; omega
    | false =>
      have HZ2:Hid ((x == 0) = (ds.take (n + 1)).any (fun x => x == 0)):=hide (by rw [uh HT0,← uh HZ]; simp)
      clear HT0 HT1 HM HZ HN
      by_cases hx0:x = 0
      ·have tx:(x == 0) = true:=by simp [hx0]
       go_wp2_with fail
       go_round
       case rel => exact ⟨n + 1,true,by go_num,rfl,by omega,hide (by rw [← uh HZ2,tx]),HN2⟩
       case measure => simp [intOf]; omega
      ·have tx:(x == 0) = false:=by simp [hx0]
       go_wp2_with fail
       go_round
       case rel => exact ⟨n + 1,false,by go_num,rfl,by omega,hide (by rw [← uh HZ2,tx]),HN2⟩
       case measure => simp [intOf]; omega
  ·have hi:¬ (n:Int) < (ds.length:Int):=by omega
   have HN3:Hid (ds.any (fun x => decide (x < 0)) = false):=hide (by have:=uh HN; rw [List.take_of_length_le (by omega)] at this; exact this)
   have HZ3:Hid (z = ds.any (fun x => x == 0)):=hide (by have:=uh HZ; rw [List.take_of_length_le (by omega)] at this; exact this)
   have HR2:Hid ((R1,R2) = if 8 < ds.length then ((0,8):Int × Int) else if ds.any (fun x => x == 0) = true then (0,0) else countF 1 ds):=hide (by have:=uh HR; rw [uh HN3,if_neg (by decide)] at this; exact this)
   clear HZ HN HR
   by_cases h8:8 < ds.length
   ·have t8:(8:Int) < (ds.length:Int):=by omega
    have HE:Hid (R1 = 0 ∧ R2 = 8):=hide (by have:=uh HR2; rw [if_pos h8] at this; simpa using this)
    go_wp2_with fail
    go_ret2
    exact ⟨by rw [(uh HE).1,(uh HE).2]; rfl,rfl⟩
   ·have t8:¬ (8:Int) < (ds.length:Int):=by omega
    cases z with
    | true =>
      have HE:Hid (R1 = 0 ∧ R2 = 0):=hide (by have:=uh HR2; rw [if_neg h8,← uh HZ3,if_pos rfl] at this; simpa using this)
      clear HR2
      go_wp2_with fail
      go_ret2
      exact ⟨by rw [(uh HE).1,(uh HE).2]; rfl,rfl⟩
    | false =>
      have HC:Hid (countF 1 ds = (R1,R2)):=hide (by have:=uh HR2; rw [if_neg h8,← uh HZ3,if_neg (by decide)] at this; exact this.symm)
      have HP:Hid (∀ x ∈ ds,0 < x):=hide (fun x hx => by
       have h1:=uh HN3
       rw [List.any_eq_false] at h1
       have h1:=h1 x hx
       have h2:=(uh HZ3).symm
       rw [List.any_eq_false] at h2
       have h2:=h2 x hx
       simp at h1 h2
       omega)
      clear HR2
      go_wp2_with fail
      go_loop [7,30] (fun mv iv => ∃ j:Nat,∃ N:Int,iv = .int .i64 j ∧ mv = .int .i64 N ∧ j ≤ ds.length ∧ 0 < N ∧ N ≤ 4096 ∧ Hid (countF N (ds.drop j) = (R1,R2))) (fun _ iv => ds.length - (intOf iv).toNat)
      case atStart => exact ⟨0,1,rfl,rfl,by omega,by omega,by omega,hide (by rw [List.drop_zero]; exact uh HC)⟩
      case round =>
       obtain ⟨j,N,rfl,rfl,hj,N0,N1,HJ⟩:=hrel
       by_cases hjl:j < ds.length
       ·have hji:(j:Int) < (ds.length:Int):=by omega
        obtain ⟨b,o,rfl,hb,hc⟩:=(uh A1).lies (by omega)
        have k1:w.cell? ⟨b,o + j,none⟩ = some (.int .i64 (ds.getD j 0)):=hc j hjl
        have x0:=uh HP _ (getD_mem6 hjl)
        have HD:Hid (countF N (ds.getD j 0 :: ds.drop (j + 1)) = (R1,R2)):=hide (by rw [← drop_cons6 hjl]; exact uh HJ)
        generalize ds.getD j 0 = x at k1 x0 HD
        clear hc HJ
        have nz:(N == 0) = false:=by rw [beq_eq_false_iff_ne]; omega
        have nz2:N ≠ 0:=by omega
        have hq:=wq4096 N0 N1
        have hqq:=quo_gt N0 N1 (Int.le_of_lt x0)
        have a1:0 ≤ 4096 / N:=Int.ediv_nonneg (by omega) (by omega)
        have a2:4096 / N ≤ 4096:=Int.ediv_le_self _ (by omega)
        have HS:=hide (countF_step (r:=ds.drop (j + 1)) N0 x0)
        have hm0:0 < N * x:=Int.mul_pos N0 x0
        obtain ⟨M,hM⟩:∃ M,N * x = M:=⟨_,rfl⟩
        obtain ⟨Q,hQ⟩:∃ Q,4096 / N = Q:=⟨_,rfl⟩
        rw [hQ] at hq hqq a1 a2
        rw [hM] at hqq hm0
        rw [uh HS,hM] at HD
        have HM:=hide hM
        have HQ:=hide hQ
        clear HS hQ hM
        by_cases hbig:4096 < M
        ·have HE:Hid (R1 = 0 ∧ R2 = 8):=hide (by have:=uh HD; rw [if_pos hbig] at this; simp only [Prod.mk.injEq] at this; exact ⟨this.1.symm,this.2.symm⟩)
         have hxq:Q < x:=hqq.2 hbig
         clear HD hqq
         go_wp2_with fail
         go_ret2
         exact ⟨by rw [(uh HE).1,(uh HE).2]; rfl,rfl⟩
        ·have HD2:Hid (countF M (ds.drop (j + 1)) = (R1,R2)):=hide (by have:=uh HD; rw [if_neg hbig] at this; exact this)
         have hxq:¬ Q < x:=fun h => hbig (hqq.1 h)
         have hwr:IntKind.i64.wrap (N * x) = M:=by rw [uh HM,IntKind.wrap_i64]; omega
         clear HD hqq
         go_wp2_with fail
         go_round
         case rel => exact ⟨j + 1,M,by go_num,by first | rfl | (rw [uh HM]) | (rw [hwr]),by omega,hm0,by omega,HD2⟩
         case measure => simp [intOf]; omega
       ·have hji:¬ (j:Int) < (ds.length:Int):=by omega
        have HE:Hid (R1 = N ∧ R2 = 0):=hide (by have:=uh HJ; rw [List.drop_of_length_le (by omega),countF] at this; simp only [Prod.mk.injEq] at this; exact ⟨this.1.symm,this.2.symm⟩)
        clear HJ
        go_wp2_with fail
        go_ret2
        exact ⟨by rw [(uh HE).1,(uh HE).2]; rfl,rfl⟩
theorem cwidth_any (k:Int) (w:World):Calls Tryz.prog 138 #[.int .i64 k] w fun e w' => e = .returned (.int .i64 (widthV k)) ∧ w' = w:=by
 unfold widthV
 by_cases h1:k = 1
 ·subst h1
  go_enter Tryz.func138,Tryz.ntmps138
  go_wp2_with fail
  go_ret
  exact ⟨rfl,rfl⟩
 ·have e1:(k == 1) = false:=by simp [h1]
  rw [if_neg h1]
  by_cases h7:k = 7
  ·subst h7
   go_enter Tryz.func138,Tryz.ntmps138
   go_wp2_with fail
   go_ret
   exact ⟨rfl,rfl⟩
  ·have e7:(k == 7) = false:=by simp [h7]
   rw [if_neg h7]
   by_cases h9:k = 9
   ·subst h9
    go_enter Tryz.func138,Tryz.ntmps138
    go_wp2_with fail
    go_ret
    exact ⟨rfl,rfl⟩
   ·have e9:(k == 9) = false:=by simp [h9]
    rw [if_neg h9]
    clear h1 h7 h9
    go_enter Tryz.func138,Tryz.ntmps138
    go_wp2_with fail
    go_ret
    exact ⟨rfl,rfl⟩
theorem width_knownB (k:Int):(widthV k == 0) = !knownB k:=by
 unfold widthV knownB
 by_cases h1:k = 1
 ·subst h1; decide
 ·by_cases h7:k = 7
  ·subst h7; decide
  ·by_cases h9:k = 9
   ·subst h9; decide
   ·simp [h1,h7,h9]
def ownN (t:TenD):Int:=if t.1 = 1 then (t.2.2.1.length:Int) else if t.1 = 7 then (t.2.2.2.1.length:Int) else (t.2.2.2.2.length:Int)
def elemsN (t:TenD):Int:=(t.2.2.1.length:Int) + t.2.2.2.1.length + t.2.2.2.2.length
def mayT (t:TenD):Bool:=knownB t.1 && ((countV t.2.1).2 != 1 && ((countV t.2.1).2 != 0 || (ownN t == (countV t.2.1).1 && elemsN t == (countV t.2.1).1)))
theorem mayT_W (t:TenD):mayT t = !(tensW t).1:=by
 obtain ⟨ty,ds,fs,is,bs⟩:=t
 unfold mayT tensW
 simp only
 by_cases hk:knownB ty = false
 ·rw [if_pos hk,hk]; rfl
 ·rw [if_neg hk]
  have hk':knownB ty = true:=by simpa using hk
  rw [hk']
  have hs:(hasT (ty,ds,fs,is,bs)).1 = ownN (ty,ds,fs,is,bs) ∧ ((0 < (hasT (ty,ds,fs,is,bs)).2) ↔ elemsN (ty,ds,fs,is,bs) ≠ ownN (ty,ds,fs,is,bs)):=by
   unfold hasT ownN elemsN
   simp only
   by_cases h1:ty = 1
   ·simp only [if_pos h1]; constructor
    ·trivial
    ·omega
   ·simp only [if_neg h1]
    by_cases h7:ty = 7
    ·simp only [if_pos h7]; constructor
     ·trivial
     ·omega
    ·simp only [if_neg h7]; constructor
     ·trivial
     ·omega
  unfold dimsW f3 bad3 big3
  simp only
  obtain ⟨s1,s2⟩:=hs
  generalize countV ds = C
  obtain ⟨C1,C2⟩:=C
  rw [s1]
  have s3:(decide (ownN (ty,ds,fs,is,bs) ≠ C1 ∨ 0 < (hasT (ty,ds,fs,is,bs)).2)) = !(ownN (ty,ds,fs,is,bs) == C1 && elemsN (ty,ds,fs,is,bs) == C1):=by
   rw [Bool.eq_iff_iff]
   simp only [decide_eq_true_eq,Bool.not_eq_true',Bool.and_eq_false_iff,beq_eq_false_iff_ne,s2]
   omega
  rw [s3]
  simp only [bne]
  generalize (C2 == 1) = a
  generalize (C2 == 0) = b
  generalize (ownN (ty,ds,fs,is,bs) == C1 && elemsN (ty,ds,fs,is,bs) == C1) = d
  cases a <;> cases b <;> cases d <;> rfl
theorem cown_any (T:Ten) (A:TA) (w:World):Calls Tryz.prog 139 #[tenV T A] w fun e w' => e = .returned (.int .i64 (ownN T)) ∧ Below w.heap.size w w':=by
 obtain ⟨ty,ds,fs,is,bs⟩:=T
 obtain ⟨pd,cd,pf,cf,pi,ci,pb,cb⟩:=A
 unfold tenV tenCells ownN
 simp only
 have HB:=hide (fun o => al1p w o)
 by_cases h1:ty = 1
 ·subst h1
  go_enter Tryz.func139,Tryz.ntmps139
  go_wp2_with fail
  go_ret
  exact ⟨rfl,uh HB _⟩
 ·have e1:(ty == 1) = false:=by simp [h1]
  rw [if_neg h1]
  by_cases h7:ty = 7
  ·subst h7
   go_enter Tryz.func139,Tryz.ntmps139
   go_wp2_with fail
   go_ret
   exact ⟨rfl,uh HB _⟩
  ·have e7:(ty == 7) = false:=by simp [h7]
   rw [if_neg h7]
   clear h1 h7
   go_enter Tryz.func139,Tryz.ntmps139
   go_wp2_with fail
   go_ret
   exact ⟨rfl,uh HB _⟩
theorem celems_any (T:Ten) (A:TA) (w:World) (h:TenSm T):Calls Tryz.prog 140 #[tenV T A] w fun e w' => e = .returned (.int .i64 (elemsN T)) ∧ Below w.heap.size w w':=by
 obtain ⟨ty,ds,fs,is,bs⟩:=T
 obtain ⟨pd,cd,pf,cf,pi,ci,pb,cb⟩:=A
 obtain ⟨h1,h2,h3,h4⟩:=h
 simp only at h1 h2 h3 h4
 unfold tenV tenCells elemsN
 simp only
 have HB:=hide (fun o => al1p w o)
 go_enter Tryz.func140,Tryz.ntmps140
 go_wp2_with fail
 go_ret
 exact ⟨rfl,uh HB _⟩
theorem count_cases (d:List Int):(countV d).2 = 0 ∨ (countV d).2 = 1 ∨ (countV d).2 = 8:=by
 have hF:∀ (l:List Int) (n:Int),(countF n l).2 = 0 ∨ (countF n l).2 = 8:=fun l => by
  induction l with
  | nil => intro n; exact .inl rfl
  | cons x r ih =>
    intro n
    rw [countF]
    split
    ·exact .inr rfl
    ·split
     ·exact .inr rfl
     ·exact ih _
 unfold countV
 split
 ·exact .inr (.inl rfl)
 ·split
  ·exact .inr (.inr rfl)
  ·split
   ·exact .inl rfl
   ·rcases hF d 1 with h | h
    ·exact .inl h
    ·exact .inr (.inr h)
theorem ctenMay_any (T:Ten) (A:TA) (w:World) (h:TenIn w T A) (hs:TenSm T) :
  Calls Tryz.prog 84 #[tenV T A] w fun e w' => e = .returned (.bool (mayT T)) ∧ Below w.heap.size w w':=by
 obtain ⟨ty,ds,fs,is,bs⟩:=T
 obtain ⟨pd,cd,pf,cf,pi,ci,pb,cb⟩:=A
 have C1:=hide (fun v (hv:Below w.heap.size w v) => ccount_any pd cd ds v (h.2.1.below hv))
 have C2:=hide (fun v => cwidth_any ty v)
 have C3:=hide (fun v => cown_any (ty,ds,fs,is,bs) ⟨pd,cd,pf,cf,pi,ci,pb,cb⟩ v)
 have C4:=hide (fun v => celems_any (ty,ds,fs,is,bs) ⟨pd,cd,pf,cf,pi,ci,pb,cb⟩ v hs)
 obtain ⟨R,hR⟩:∃ R,mayT (ty,ds,fs,is,bs) = R:=⟨_,rfl⟩
 have HR:Hid (R = (!(widthV ty == 0) && ((countV ds).2 != 1 && ((countV ds).2 != 0 || (ownN (ty,ds,fs,is,bs) == (countV ds).1 && elemsN (ty,ds,fs,is,bs) == (countV ds).1))))):=hide (by rw [← hR,width_knownB,Bool.not_not]; rfl)
 rw [hR]
 clear hR h hs
 generalize widthV ty = WD at C2 HR
 generalize countV ds = C at C1 HR
 obtain ⟨N,E⟩:=C
 simp only at C1 HR
 generalize ownN (ty,ds,fs,is,bs) = ON at C3 HR
 generalize elemsN (ty,ds,fs,is,bs) = EN at C4 HR
 unfold tenV tenCells at C3 C4 ⊢
 simp only at C3 C4 ⊢
 go_enter Tryz.func84,Tryz.ntmps84
 go_wp2_with fail
 refine (uh C1 _ (al1p _ _)).mono ?_
 rintro e v ⟨rfl,hv⟩
 replace hv:=hv.symm
 subst hv
 go_wp2_with fail
 refine (uh C2 _).mono ?_
 rintro e v ⟨rfl,hv⟩
 replace hv:=hv.symm
 subst hv
 by_cases c1:WD = 0
 ·have t1:(WD == 0) = true:=by simp [c1]
  have HE:Hid (false = R):=hide (by rw [uh HR,t1]; rfl)
  clear HR c1
  go_wp2_with fail
  go_ret
  exact ⟨ret_bool (uh HE),al1p _ _⟩
 ·have t1:(WD == 0) = false:=by simp [c1]
  by_cases c2:E = 1
  ·have t2:(E == 1) = true:=by simp [c2]
   have HE:Hid (false = R):=hide (by rw [uh HR,c2]; simp)
   clear HR c1 c2
   go_wp2_with fail
   go_ret
   exact ⟨ret_bool (uh HE),al1p _ _⟩
  ·have t2:(E == 1) = false:=by simp [c2]
   by_cases c3:E = 0
   ·have t3:(E != 0) = false:=by simp [c3]
    by_cases c4:ON = N
    ·have t4:(ON == N) = true:=by simp [c4]
     have HE:Hid ((EN == N) = R):=hide (by rw [uh HR,t1,c3,t4]; simp)
     clear HR c1 c2 c3 c4
     go_wp2_with fail
     refine (uh C3 _).mono ?_
     rintro e v ⟨rfl,hv⟩
     have B1:=hide (bl_tr (al1p w (Obj.cells #[.int .i64 ty,.slice pd ds.length cd,.slice pf fs.length cf,.slice pi is.length ci,.slice pb bs.length cb] 80)) hv)
     have x1:=(Box.below (Box.new w #[.int .i64 ty,.slice pd ds.length cd,.slice pf fs.length cf,.slice pi is.length ci,.slice pb bs.length cb] 80) hv).cell
     clear hv
     go_wp2_with fail
     refine (uh C4 _).mono ?_
     rintro e v2 ⟨rfl,hv⟩
     have B2:=hide (bl_tr (uh B1) hv)
     clear hv
     go_wp2_with fail
     go_ret
     exact ⟨ret_bool (uh HE),uh B2⟩
    ·have t4:(ON == N) = false:=by simp [c4]
     have HE:Hid (false = R):=hide (by rw [uh HR,t1,c3,t4]; simp)
     clear HR c1 c2 c3 c4
     go_wp2_with fail
     refine (uh C3 _).mono ?_
     rintro e v ⟨rfl,hv⟩
     have B1:=hide (bl_tr (al1p w (Obj.cells #[.int .i64 ty,.slice pd ds.length cd,.slice pf fs.length cf,.slice pi is.length ci,.slice pb bs.length cb] 80)) hv)
     clear hv
     go_wp2_with fail
     go_ret
     exact ⟨ret_bool (uh HE),uh B1⟩
   ·have t3:(E != 0) = true:=by simp [c3]
    have HE:Hid (true = R):=hide (by rw [uh HR,t1,t3]; simp [c2])
    clear HR c1 c2 c3
    go_wp2_with fail
    go_ret
    exact ⟨ret_bool (uh HE),al1p _ _⟩
def mayV (v:ValD):Bool:=knownB v.2.1 && (countV v.2.2).2 != 1
theorem cvalMay_any (a:VaA) {B:Nat} (w:World) (h:VaIn B w a) :
  Calls Tryz.prog 86 #[.agg (vaCells a).toArray] w fun e w' => e = .returned (.bool (mayV a.d)) ∧ Below w.heap.size w w':=by
 obtain ⟨nm,ty,ds,q,c⟩:=a
 have C1:=hide (fun v (hv:Below w.heap.size w v) => ccount_any q c ds v (h.2.2.1.below hv))
 have C2:=hide (fun v => cwidth_any ty v)
 obtain ⟨R,hR⟩:∃ R,mayV (VaA.d ⟨nm,ty,ds,q,c⟩) = R:=⟨_,rfl⟩
 have HR:Hid (R = (!(widthV ty == 0) && (countV ds).2 != 1)):=hide (by rw [← hR,width_knownB,Bool.not_not]; rfl)
 have hw0:0 ≤ widthV ty:=by unfold widthV; split <;> (try split) <;> (try split) <;> omega
 rw [hR]
 clear hR h
 generalize widthV ty = WD at C2 HR hw0
 generalize countV ds = C at C1 HR
 obtain ⟨N,E⟩:=C
 simp only at C1 HR
 unfold vaCells strV
 simp only
 go_enter Tryz.func86,Tryz.ntmps86
 go_wp2_with fail
 refine (uh C1 _ (al1p _ _)).mono ?_
 rintro e v ⟨rfl,hv⟩
 replace hv:=hv.symm
 subst hv
 go_wp2_with fail
 refine (uh C2 _).mono ?_
 rintro e v ⟨rfl,hv⟩
 replace hv:=hv.symm
 subst hv
 by_cases c1:WD = 0
 ·have t1:¬ 0 < WD:=by omega
  have HE:Hid (false = R):=hide (by rw [uh HR,c1]; rfl)
  clear HR c1
  go_wp2_with fail
  go_ret
  exact ⟨ret_bool (uh HE),al1p _ _⟩
 ·have t1:0 < WD:=by omega
  have HE:Hid ((E != 1) = R):=hide (by rw [uh HR]; simp [c1])
  clear HR c1
  go_wp2_with fail
  go_ret
  exact ⟨ret_bool (uh HE),al1p _ _⟩
def muchD (d:List Int):Bool:=(countV d).2 == 8
theorem cdimsMuch_any (p:Option Addr) (c:Nat) (ds:List Int) (w:World) (h:Ints .i64 w p c ds) :
  Calls Tryz.prog 147 #[.slice p ds.length c] w fun e w' => e = .returned (.bool (muchD ds)) ∧ w' = w:=by
 have C1:=hide (ccount_any p c ds w h)
 unfold muchD
 generalize countV ds = C at C1 ⊢
 obtain ⟨N,E⟩:=C
 simp only at C1 ⊢
 clear h
 go_enter Tryz.func147,Tryz.ntmps147
 go_wp2_with fail
 refine (uh C1).mono ?_
 rintro e v ⟨rfl,hv⟩
 replace hv:=hv.symm
 subst hv
 go_wp2_with fail
 go_ret
 exact ⟨rfl,rfl⟩
def muchN (s:Str):Bool:=decide ((256:Int) < s.length)
theorem cnameMuch_any (s:Str) (w:World):Calls Tryz.prog 87 #[strV s] w fun e w' => e = .returned (.bool (muchN s)) ∧ w' = w:=by
 unfold muchN strV
 have hl:=str_len s
 go_enter Tryz.func87,Tryz.ntmps87
 go_wp2_with fail
 go_ret
 exact ⟨rfl,rfl⟩
end Go.Proofs.YtmdlaahdgjegcaaGreat
