import Derived.Test.YtaikppgoahdjbaaGreatV04
import Derived.Test.YtaikppgoahdjbaaGreatV19
set_option maxRecDepth 100000
set_option maxHeartbeats 8000000
namespace Go.Proofs.YtaikppgoahdjbaaGreat
open Go.RowKit
set_option linter.unusedVariables false
theorem varsF_len:∀ (n:Nat) (r xs:List Int),varsF n r = some xs → xs.length ≤ r.length
 | 0,r,xs,h => by
   unfold varsF at h
   first
    | (simp only [Option.some.injEq] at h; subst h; simp)
    | (split at h <;> first | (simp only [Option.some.injEq] at h; subst h; simp) | cases h)
 | n + 1,r,xs,h => by
   unfold varsF at h
   split at h
   ·simp only [Option.some.injEq] at h; subst h; simp
   ·cases hg:rdG 10 r with
    | none => rw [hg] at h; cases h
    | some y =>
      rw [hg] at h
      simp only at h
      obtain ⟨c1,c2,c3⟩:=rdG_count 10 r y.1 y.2 hg
      cases hv:varsF n (r.drop y.2) with
      | none => rw [hv] at h; cases h
      | some zs =>
        rw [hv] at h
        simp only [Option.map_some,Option.some.injEq] at h
        subst h
        have:=varsF_len n _ zs hv
        simp at this ⊢
        omega
theorem varsL_len {r xs:List Int} (h:varsL r = some xs):xs.length ≤ r.length:=varsF_len _ r xs h
theorem ls_one62 {f:Int → Value} (w:World) (o:Obj) (x:Int) (t:TypeId):Ls f ((w.alloc o).alloc (.cells #[f x] t)) (some ⟨w.heap.size + 1,0,none⟩) 1 [x]:=by
 have:=ls_one6 (f:=f) (w.alloc o) x t
 rw [alloc_size6] at this
 exact this
theorem ls_two64 (w:World) (x y:Int) (t:TypeId):Ls (Value.int .i64) (w.alloc (.cells #[.int .i64 x,.int .i64 y] t)) (some ⟨w.heap.size,0,none⟩) 2 [x,y]:=ls_two w x y t
theorem okW_cnumV_any {A:List FA} (h:okW [0,2] A = false):allOr int1 (A.map FA.f) = none:=by
 unfold okW at h
 rw [List.all_eq_false] at h
 obtain ⟨a,ha,hn⟩:=h
 have h1:¬ a.wr = 0 ∧ ¬ a.wr = 2:=by simp at hn; exact hn
 exact allOr_mem_none (List.mem_map.2 ⟨a,ha,rfl⟩) (int1_no h1.1 h1.2)
theorem cnumV_any (p:Option Addr) (c:Nat) (l:List FA) (num:Int) (w:World) (h:Fls w p c l) (hs:l.length * 48 ≤ 140737488355328) (hd:(sumD l + l.length) * 8 ≤ 140737488355328) :
  Calls Tryz.prog 252 #[.slice p l.length c,.int .i64 num,.int .i64 0,.func (.func 190) #[] #[]] w fun e w' => ∃ v,e = .returned (.tuple #[v,.int .i64 (listV int1 (l.map FA.f) num).2]) ∧ OwnG 45 (Value.int .u64) w w' v (listV int1 (l.map FA.f) num).1:=by
 obtain ⟨i1,hi1,y1,z1,b1⟩:=info_parts Tryz.infoU64
 have SD:=hide (fun v (hv:Below w.heap.size w v) q d hq => csaid_any p q c d l num [0,2] v (h.below hv) hq hs)
 have nl:=h.1.len
 have hal:(allA l num).length ≤ l.length:=List.length_filter_le _ _
 have hsd:=sumD_all l num
 have AI:=hide (allA_in (num:=num) h.2)
 have HV:Hid (listV int1 (l.map FA.f) num = match allOr int1 ((allA l num).map FA.f) with
   | none => ([],6)
   | some x => (x,0)):=hide (by unfold listV; rw [← allA_f]; cases allOr int1 ((allA l num).map FA.f) <;> rfl)
 generalize hR:listV int1 (l.map FA.f) num = R at HV ⊢
 clear hR h
 obtain ⟨R1,R2⟩:=R
 simp only at HV ⊢
 generalize hL:allA l num = A at SD HV hal hsd AI
 clear hL
 have SD1:Hid (Calls Tryz.prog 171 #[.slice p l.length c,.int .i64 num,.slice (some ⟨w.heap.size,0,none⟩) 2 2] (w.alloc (Obj.cells #[.int .i64 0,.int .i64 2] 3)) fun e w' => ∃ v,e = .returned (.tuple #[v,.int .i64 (if okW [0,2] A then 0 else 6)]) ∧ OwnF 148 (w.alloc (Obj.cells #[.int .i64 0,.int .i64 2] 3)) w' v (if okW [0,2] A then A else [])):=hide (uh SD _ (al1p _ _) _ _ (ls_two64 w 0 2 3))
 clear SD
 cases hok:okW [0,2] A with
 | false =>
   have HE:Hid (R1 = [] ∧ R2 = 6):=hide (by have:=uh HV; rw [okW_cnumV_any hok] at this; simpa using this)
   rw [hok] at SD1
   simp only [Bool.false_eq_true,if_false] at SD1
   clear hok HV
   go_enter Tryz.func252,Tryz.ntmps252
   go_wp2_with fail
   refine (uh SD1).mono ?_
   rintro e w1 ⟨v1,rfl,hO⟩
   have B1:=hide (bl_tr (al1p _ _) hO.2)
   clear hO SD1
   go_wp2_with fail
   go_ret2
   obtain ⟨g1,g2⟩:=uh HE
   subst g1 g2
   exact ⟨_,rfl,OwnG.nil _ _ _ (uh B1)⟩
 | true =>
   have HOK:Hid (∀ a ∈ A,a.wr = 0 ∨ a.wr = 2):=hide (fun a ha => by
    unfold okW at hok
    have:=List.all_eq_true.1 hok a ha
    simp at this
    exact this)
   rw [hok] at SD1
   simp only [if_true] at SD1
   clear hok
   go_enter Tryz.func252,Tryz.ntmps252
   go_wp2_with fail
   refine (uh SD1).mono ?_
   rintro e w1 ⟨v1,rfl,hO⟩
   obtain ⟨q1,d1,rfl,hc,_⟩:=hO.form
   have C1:=hide hc
   have B1:=hide (bl_tr (al1p _ _) hO.2)
   clear hc hO SD1
   go_wp2_with fail
   go_loopw [12,30] (fun v iv wr => ∃ n:Nat,∃ xs:List Int,iv = .int .i64 n ∧ n ≤ A.length ∧ xs.length ≤ sumD (A.take n) + n ∧ Hid (allOr int1 ((A.take n).map FA.f) = some xs) ∧ Hid (OwnG 45 (Value.int .u64) w1 wr v xs)) (fun _ iv _ => A.length - (intOf iv).toNat)
   case atStart => exact ⟨0,[],rfl,by omega,by simp,hide rfl,hide (OwnG.nil _ _ _ (Below.refl _ _))⟩
   case round =>
    obtain ⟨n,xs,rfl,hn,hxl,HX,O⟩:=hrel
    by_cases hlt:n < A.length
    ·have hi:(n:Int) < (A.length:Int):=by omega
     obtain ⟨b,o,rfl,hb,k0,k1,k2,k3⟩:=((uh C1).below (uh O).2).at hlt
     have HA:=hide (allOr_one int1 A n hlt xs (uh HX))
     have HI:=hide ((uh AI _ (getD_memF hlt)).below (bl_tr (uh B1) (uh O).2))
     have hsz:sumD (A.take (n + 1)) = sumD (A.take n) + (A.getD n noFA).d.length:=by
      rw [take_addF A n hlt,sumD_append]; simp [sumD]
     have hsz2:=sumD_take A (n + 1)
     have hwr:=uh HOK _ (getD_memF hlt)
     generalize A.getD n noFA = a at k0 k1 k2 k3 HA HI hsz hwr
     by_cases h0:a.wr = 0
     ·have t0:(a.wr == 0) = true:=by simp [h0]
      have HA2:Hid (allOr int1 ((A.take (n + 1)).map FA.f) = some (xs ++ [a.x])):=hide (by rw [uh HA,int1_0 h0]; rfl)
      clear HA HX h0 hwr
      go_wp2_with (at_builtin; (refine wpList_append_ls rfl _ _ 239 rfl w1 45 i1 (.int .u64 0) 8 Tryz.underlying239 hi1 y1 z1 b1 rfl (int_one .u64) _ xs rfl ((uh O).below (al2p _ _ _)) (some ⟨_,0,none⟩) 1 [a.x] rfl (ls_one62 _ _ _ _) (by unfold maxLen; simp <;> omega) (by simp <;> omega) ?_; intro v2 w2 O2; have HO2:=hide O2; clear O2))
      go_roundw
      case rel => exact ⟨n + 1,xs ++ [a.x],by go_num,by omega,by simp; omega,HA2,HO2⟩
      case measure => simp [intOf]; omega
     ·have t0:(a.wr == 0) = false:=by simp [h0]
      have h2:a.wr = 2:=by omega
      have hdl:=(uh HI).2.2.2.len
      have PT:=hide (fun v hv => cpartsV_any a.q a.c a.d v ((uh HI).below hv).2.2.2 (by omega))
      cases hz:varsL a.d with
      | none =>
        rw [hz] at PT
        have HE:Hid (R1 = [] ∧ R2 = 6):=hide (by
         have h3:allOr int1 (A.map FA.f) = none:=allOr_none (n:=n + 1) (by rw [uh HA,int1_2 h2,hz]; rfl)
         have:=uh HV
         rw [h3] at this
         simpa using this)
        have BB:=hide (bl_tr (uh B1) (uh O).2)
        simp only [errO,Option.isSome_none,Bool.false_eq_true,if_false] at PT
        clear HA HX h0 hwr h2 hz
        go_wp2_with fail
        refine (uh PT _ (al1p _ _)).mono ?_
        rintro e w5 ⟨v5,rfl,hO⟩
        have B5:=hide (bl_tr (uh BB) (bl_tr (al1p _ _) hO.2))
        clear hO PT
        go_wp2_with fail
        go_ret2
        obtain ⟨g1,g2⟩:=uh HE
        subst g1 g2
        exact ⟨_,rfl,OwnG.nil _ _ _ (uh B5)⟩
      | some zs =>
        rw [hz] at PT
        simp only [errO,Option.isSome_some,if_true,Option.getD_some] at PT
        have hzl:=varsL_len hz
        have HA2:Hid (allOr int1 ((A.take (n + 1)).map FA.f) = some (xs ++ zs)):=hide (by rw [uh HA,int1_2 h2,hz]; rfl)
        clear HA HX h0 hwr h2 hz
        go_wp2_with fail
        refine (uh PT _ (al1p _ _)).mono ?_
        rintro e w5 ⟨v5,rfl,hO⟩
        obtain ⟨q5,d5,rfl,hl5,_⟩:=hO.form
        have L5:=hide hl5
        have O5:=hide ((uh O).below (bl_tr (al1p _ _) hO.2))
        clear hO hl5 PT
        go_wp2_with (at_builtin; (refine wpList_append_ls rfl _ _ 239 rfl w1 45 i1 (.int .u64 0) 8 Tryz.underlying239 hi1 y1 z1 b1 rfl (int_one .u64) _ xs rfl (uh O5) q5 d5 zs rfl (uh L5) (by unfold maxLen; omega) (by omega) ?_; intro v2 w2 O2; have HO2:=hide O2; clear O2))
        go_roundw
        case rel => exact ⟨n + 1,xs ++ zs,by go_num,by omega,by simp; omega,HA2,HO2⟩
        case measure => simp [intOf]; omega
    ·have hi:¬ (n:Int) < (A.length:Int):=by omega
     have HE:Hid (R1 = xs ∧ R2 = 0):=hide (by
      have h1:=uh HX
      rw [List.take_of_length_le (by omega)] at h1
      have:=uh HV
      rw [h1] at this
      simpa using this)
     have HO:=hide ((uh O).early (uh B1))
     clear O HX
     go_wp2_with fail
     go_ret2
     obtain ⟨g1,g2⟩:=uh HE
     subst g1 g2
     exact ⟨_,rfl,uh HO⟩
theorem okW_cnumW_any {A:List FA} (h:okW [5,2] A = false):allOr num5 (A.map FA.f) = none:=by
 unfold okW at h
 rw [List.all_eq_false] at h
 obtain ⟨a,ha,hn⟩:=h
 have h1:¬ a.wr = 5 ∧ ¬ a.wr = 2:=by simp at hn; exact hn
 exact allOr_mem_none (List.mem_map.2 ⟨a,ha,rfl⟩) (num5_no h1.1 h1.2)
theorem cnumW_any (p:Option Addr) (c:Nat) (l:List FA) (num:Int) (w:World) (h:Fls w p c l) (hs:l.length * 48 ≤ 140737488355328) (hd:(sumD l + l.length) * 8 ≤ 140737488355328) :
  Calls Tryz.prog 252 #[.slice p l.length c,.int .i64 num,.int .i64 5,.func (.func 192) #[] #[]] w fun e w' => ∃ v,e = .returned (.tuple #[v,.int .i64 (listV num5 (l.map FA.f) num).2]) ∧ OwnG 45 (Value.int .u64) w w' v (listV num5 (l.map FA.f) num).1:=by
 obtain ⟨i1,hi1,y1,z1,b1⟩:=info_parts Tryz.infoU64
 have SD:=hide (fun v (hv:Below w.heap.size w v) q d hq => csaid_any p q c d l num [5,2] v (h.below hv) hq hs)
 have nl:=h.1.len
 have hal:(allA l num).length ≤ l.length:=List.length_filter_le _ _
 have hsd:=sumD_all l num
 have AI:=hide (allA_in (num:=num) h.2)
 have HV:Hid (listV num5 (l.map FA.f) num = match allOr num5 ((allA l num).map FA.f) with
   | none => ([],6)
   | some x => (x,0)):=hide (by unfold listV; rw [← allA_f]; cases allOr num5 ((allA l num).map FA.f) <;> rfl)
 generalize hR:listV num5 (l.map FA.f) num = R at HV ⊢
 clear hR h
 obtain ⟨R1,R2⟩:=R
 simp only at HV ⊢
 generalize hL:allA l num = A at SD HV hal hsd AI
 clear hL
 have SD1:Hid (Calls Tryz.prog 171 #[.slice p l.length c,.int .i64 num,.slice (some ⟨w.heap.size,0,none⟩) 2 2] (w.alloc (Obj.cells #[.int .i64 5,.int .i64 2] 3)) fun e w' => ∃ v,e = .returned (.tuple #[v,.int .i64 (if okW [5,2] A then 0 else 6)]) ∧ OwnF 148 (w.alloc (Obj.cells #[.int .i64 5,.int .i64 2] 3)) w' v (if okW [5,2] A then A else [])):=hide (uh SD _ (al1p _ _) _ _ (ls_two64 w 5 2 3))
 clear SD
 cases hok:okW [5,2] A with
 | false =>
   have HE:Hid (R1 = [] ∧ R2 = 6):=hide (by have:=uh HV; rw [okW_cnumW_any hok] at this; simpa using this)
   rw [hok] at SD1
   simp only [Bool.false_eq_true,if_false] at SD1
   clear hok HV
   go_enter Tryz.func252,Tryz.ntmps252
   go_wp2_with fail
   refine (uh SD1).mono ?_
   rintro e w1 ⟨v1,rfl,hO⟩
   have B1:=hide (bl_tr (al1p _ _) hO.2)
   clear hO SD1
   go_wp2_with fail
   go_ret2
   obtain ⟨g1,g2⟩:=uh HE
   subst g1 g2
   exact ⟨_,rfl,OwnG.nil _ _ _ (uh B1)⟩
 | true =>
   have HOK:Hid (∀ a ∈ A,a.wr = 5 ∨ a.wr = 2):=hide (fun a ha => by
    unfold okW at hok
    have:=List.all_eq_true.1 hok a ha
    simp at this
    exact this)
   rw [hok] at SD1
   simp only [if_true] at SD1
   clear hok
   go_enter Tryz.func252,Tryz.ntmps252
   go_wp2_with fail
   refine (uh SD1).mono ?_
   rintro e w1 ⟨v1,rfl,hO⟩
   obtain ⟨q1,d1,rfl,hc,_⟩:=hO.form
   have C1:=hide hc
   have B1:=hide (bl_tr (al1p _ _) hO.2)
   clear hc hO SD1
   go_wp2_with fail
   go_loopw [12,30] (fun v iv wr => ∃ n:Nat,∃ xs:List Int,iv = .int .i64 n ∧ n ≤ A.length ∧ xs.length ≤ sumD (A.take n) + n ∧ Hid (allOr num5 ((A.take n).map FA.f) = some xs) ∧ Hid (OwnG 45 (Value.int .u64) w1 wr v xs)) (fun _ iv _ => A.length - (intOf iv).toNat)
   case atStart => exact ⟨0,[],rfl,by omega,by simp,hide rfl,hide (OwnG.nil _ _ _ (Below.refl _ _))⟩
   case round =>
    obtain ⟨n,xs,rfl,hn,hxl,HX,O⟩:=hrel
    by_cases hlt:n < A.length
    ·have hi:(n:Int) < (A.length:Int):=by omega
     obtain ⟨b,o,rfl,hb,k0,k1,k2,k3⟩:=((uh C1).below (uh O).2).at hlt
     have HA:=hide (allOr_one num5 A n hlt xs (uh HX))
     have HI:=hide ((uh AI _ (getD_memF hlt)).below (bl_tr (uh B1) (uh O).2))
     have hsz:sumD (A.take (n + 1)) = sumD (A.take n) + (A.getD n noFA).d.length:=by
      rw [take_addF A n hlt,sumD_append]; simp [sumD]
     have hsz2:=sumD_take A (n + 1)
     have hwr:=uh HOK _ (getD_memF hlt)
     generalize A.getD n noFA = a at k0 k1 k2 k3 HA HI hsz hwr
     by_cases h0:a.wr = 5
     ·have t0:(a.wr == 5) = true:=by simp [h0]
      have HA2:Hid (allOr num5 ((A.take (n + 1)).map FA.f) = some (xs ++ [a.x])):=hide (by rw [uh HA,num5_5 h0]; rfl)
      clear HA HX h0 hwr
      go_wp2_with (at_builtin; (refine wpList_append_ls rfl _ _ 239 rfl w1 45 i1 (.int .u64 0) 8 Tryz.underlying239 hi1 y1 z1 b1 rfl (int_one .u64) _ xs rfl ((uh O).below (al2p _ _ _)) (some ⟨_,0,none⟩) 1 [a.x] rfl (ls_one62 _ _ _ _) (by unfold maxLen; simp <;> omega) (by simp <;> omega) ?_; intro v2 w2 O2; have HO2:=hide O2; clear O2))
      go_roundw
      case rel => exact ⟨n + 1,xs ++ [a.x],by go_num,by omega,by simp; omega,HA2,HO2⟩
      case measure => simp [intOf]; omega
     ·have t0:(a.wr == 5) = false:=by simp [h0]
      have h2:a.wr = 2:=by omega
      have hdl:=(uh HI).2.2.2.len
      have PT:=hide (fun v hv => cpartsW_any a.q a.c a.d v ((uh HI).below hv).2.2.2 (by omega))
      cases hz:foursO a.d with
      | none =>
        rw [hz] at PT
        have HE:Hid (R1 = [] ∧ R2 = 6):=hide (by
         have h3:allOr num5 (A.map FA.f) = none:=allOr_none (n:=n + 1) (by rw [uh HA,num5_2 h2,hz]; rfl)
         have:=uh HV
         rw [h3] at this
         simpa using this)
        have BB:=hide (bl_tr (uh B1) (uh O).2)
        simp only [errO,Option.isSome_none,Bool.false_eq_true,if_false] at PT
        clear HA HX h0 hwr h2 hz
        go_wp2_with fail
        refine (uh PT _ (al1p _ _)).mono ?_
        rintro e w5 ⟨v5,rfl,hO⟩
        have B5:=hide (bl_tr (uh BB) (bl_tr (al1p _ _) hO.2))
        clear hO PT
        go_wp2_with fail
        go_ret2
        obtain ⟨g1,g2⟩:=uh HE
        subst g1 g2
        exact ⟨_,rfl,OwnG.nil _ _ _ (uh B5)⟩
      | some zs =>
        rw [hz] at PT
        simp only [errO,Option.isSome_some,if_true,Option.getD_some] at PT
        have hzl:=foursO_len hz
        have HA2:Hid (allOr num5 ((A.take (n + 1)).map FA.f) = some (xs ++ zs)):=hide (by rw [uh HA,num5_2 h2,hz]; rfl)
        clear HA HX h0 hwr h2 hz
        go_wp2_with fail
        refine (uh PT _ (al1p _ _)).mono ?_
        rintro e w5 ⟨v5,rfl,hO⟩
        obtain ⟨q5,d5,rfl,hl5,_⟩:=hO.form
        have L5:=hide hl5
        have O5:=hide ((uh O).below (bl_tr (al1p _ _) hO.2))
        clear hO hl5 PT
        go_wp2_with (at_builtin; (refine wpList_append_ls rfl _ _ 239 rfl w1 45 i1 (.int .u64 0) 8 Tryz.underlying239 hi1 y1 z1 b1 rfl (int_one .u64) _ xs rfl (uh O5) q5 d5 zs rfl (uh L5) (by unfold maxLen; omega) (by omega) ?_; intro v2 w2 O2; have HO2:=hide O2; clear O2))
        go_roundw
        case rel => exact ⟨n + 1,xs ++ zs,by go_num,by omega,by simp; omega,HA2,HO2⟩
        case measure => simp [intOf]; omega
    ·have hi:¬ (n:Int) < (A.length:Int):=by omega
     have HE:Hid (R1 = xs ∧ R2 = 0):=hide (by
      have h1:=uh HX
      rw [List.take_of_length_le (by omega)] at h1
      have:=uh HV
      rw [h1] at this
      simpa using this)
     have HO:=hide ((uh O).early (uh B1))
     clear O HX
     go_wp2_with fail
     go_ret2
     obtain ⟨g1,g2⟩:=uh HE
     subst g1 g2
     exact ⟨_,rfl,uh HO⟩
theorem cints6_any (p:Option Addr) (c:Nat) (l:List FA) (num:Int) (w:World) (h:Fls w p c l) (hs:l.length * 48 ≤ 140737488355328) (hd:(sumD l + l.length) * 8 ≤ 140737488355328) :
  Calls Tryz.prog 232 #[.slice p l.length c,.int .i64 num] w fun e w' => ∃ v,e = .returned (.tuple #[v,.int .i64 (listV int1 (l.map FA.f) num).2]) ∧ OwnG 45 (Value.int .u64) w w' v (listV int1 (l.map FA.f) num).1:=by
 have NB:=hide (cnumV_any p c l num w h hs hd)
 generalize listV int1 (l.map FA.f) num = R at NB ⊢
 obtain ⟨R1,R2⟩:=R
 simp only at NB ⊢
 go_enter Tryz.func232,Tryz.ntmps232
 go_wp2_with fail
 refine (uh NB).mono ?_
 rintro e w1 ⟨v1,rfl,hO⟩
 have HO:=hide hO
 clear hO NB
 go_wp2_with fail
 go_ret2
 exact ⟨_,rfl,uh HO⟩
def low32 (xs:List Int):List Int:=xs.map (· % 4294967296)
theorem fours_low (d:List Int) (h:isB d):low32 (fours d) = fours d:=by
 unfold low32 fours
 rw [List.map_map]
 refine List.map_congr_left (fun i hi => ?_)
 simp only [Function.comp_apply]
 have hl:((d.drop (4 * i)).take 4).length = 4:=by
  have:=List.mem_range.1 hi
  simp; omega
 obtain ⟨h0,h1⟩:=leV_range ((d.drop (4 * i)).take 4) (isB_take (isB_drop h _) 4)
 rw [hl] at h1
 have:(256:Int) ^ 4 = 4294967296:=by decide
 omega
theorem fix1_num5 (f:Fld) (h:isB f.2.2.2):fix1 f = (num5 f).map low32:=by
 unfold fix1 num5 foursO
 by_cases h5:f.2.1 = 5
 ·rw [if_pos h5,if_pos h5]; rfl
 ·rw [if_neg h5,if_neg h5]
  by_cases h2:f.2.1 = 2
  ·rw [if_pos h2]
   by_cases h4:f.2.2.2.length % 4 = 0
   ·rw [if_pos ⟨h2,h4⟩,if_pos h4]
    simp only [Option.map_some,fours_low _ h]
   ·rw [if_neg (fun hh => h4 hh.2),if_neg h4]; rfl
  ·rw [if_neg (fun hh => h2 hh.1),if_neg h2]; rfl
theorem allOr_low:∀ (l:List Fld),(∀ f ∈ l,isB f.2.2.2) → allOr fix1 l = (allOr num5 l).map low32
 | [],_ => rfl
 | f :: r,h => by
   simp only [allOr]
   rw [fix1_num5 f (h f (by simp)),allOr_low r (fun g hg => h g (by simp [hg]))]
   cases num5 f with
   | none => rfl
   | some x =>
     cases allOr num5 r with
     | none => rfl
     | some y => simp [low32]
theorem list_low (l:List FA) (num:Int) (h:∀ a ∈ l,isB a.d):listV fix1 (l.map FA.f) num = (low32 (listV num5 (l.map FA.f) num).1,(listV num5 (l.map FA.f) num).2):=by
 unfold listV
 rw [allOr_low _ (fun f hf => by
  unfold allV at hf
  obtain ⟨a,ha,rfl⟩:=List.mem_map.1 (List.mem_filter.1 hf).1
  exact h a ha)]
 cases allOr num5 (allV (l.map FA.f) num) <;> rfl
theorem allOr5_len:∀ (l:List FA) (xs:List Int),allOr num5 (l.map FA.f) = some xs → xs.length ≤ sumD l + l.length
 | [],xs,h => by simp only [List.map_nil,allOr,Option.some.injEq] at h; subst h; simp
 | a :: r,xs,h => by
   simp only [List.map_cons,allOr] at h
   cases hn:num5 a.f with
   | none => rw [hn] at h; cases h
   | some x =>
     rw [hn] at h
     simp only at h
     cases hr:allOr num5 (r.map FA.f) with
     | none => rw [hr] at h; cases h
     | some y =>
       rw [hr] at h
       simp only [Option.map_some,Option.some.injEq] at h
       subst h
       have:=allOr5_len r y hr
       have hx:x.length ≤ a.d.length + 1:=by
        unfold num5 FA.f at hn
        simp only at hn
        split at hn
        ·simp only [Option.some.injEq] at hn; subst hn; simp
        ·split at hn
         ·have:=foursO_len hn; omega
         ·cases hn
       have e:sumD (a :: r) = a.d.length + sumD r:=by simp [sumD]
       simp; omega
theorem list5_len (l:List FA) (num:Int):(listV num5 (l.map FA.f) num).1.length ≤ sumD l + l.length:=by
 unfold listV
 rw [← allA_f]
 have h1:=sumD_all l num
 have h2:(allA l num).length ≤ l.length:=List.length_filter_le _ _
 cases hr:allOr num5 ((allA l num).map FA.f) with
 | none => simp
 | some x =>
   have:=allOr5_len _ _ hr
   simp only
   omega
theorem cfixed6_any (p:Option Addr) (c:Nat) (l:List FA) (num:Int) (w:World) (h:Fls w p c l) (hs:l.length * 48 ≤ 140737488355328) (hd:(sumD l + l.length) * 8 ≤ 140737488355328) :
  Calls Tryz.prog 251 #[.slice p l.length c,.int .i64 num] w fun e w' => ∃ v,e = .returned (.tuple #[v,.int .i64 (listV fix1 (l.map FA.f) num).2]) ∧ OwnG 84 (Value.int .u32) w w' v (listV fix1 (l.map FA.f) num).1:=by
 obtain ⟨i1,hi1,y1,z1,b1⟩:=info_parts Tryz.infoU32p
 have NB:=hide (cnumW_any p c l num w h hs hd)
 rw [list_low l num (fun a ha => (h.2 a ha).ok.2.2)]
 have hxl:=list5_len l num
 generalize listV num5 (l.map FA.f) num = R at NB hxl ⊢
 obtain ⟨R1,R2⟩:=R
 simp only at NB hxl ⊢
 clear h
 go_enter Tryz.func251,Tryz.ntmps251
 go_wp2_with fail
 refine (uh NB).mono ?_
 rintro e w1 ⟨v1,rfl,hO⟩
 obtain ⟨q1,d1,rfl,hc,_⟩:=hO.form
 have C1:=hide hc
 have B1:=hide hO.2
 clear hc hO NB
 go_wp2_with fail
 go_loopw [8,19] (fun v iv wr => ∃ n:Nat,iv = .int .i64 n ∧ n ≤ R1.length ∧ Hid (OwnG 84 (Value.int .u32) w1 wr v (low32 (R1.take n)))) (fun _ iv _ => R1.length - (intOf iv).toNat)
 case atStart => exact ⟨0,rfl,by omega,hide (OwnG.nil _ _ _ (Below.refl _ _))⟩
 case round =>
  obtain ⟨n,rfl,hn,O⟩:=hrel
  by_cases hlt:n < R1.length
  ·have hi:(n:Int) < (R1.length:Int):=by omega
   obtain ⟨b,o,rfl,hb,hcc⟩:=((uh C1).below (uh O).2).lies (by omega)
   have k0:wr.cell? ⟨b,o + n,none⟩ = some (.int .u64 (R1.getD n 0)):=hcc n hlt
   have HT:Hid (low32 (R1.take (n + 1)) = low32 (R1.take n) ++ [R1.getD n 0 % 4294967296]):=hide (by
    have e:R1.take (n + 1) = R1.take n ++ [R1.getD n 0]:=by rw [List.take_add_one,List.getD_eq_getElem?_getD,List.getElem?_eq_getElem hlt]; rfl
    unfold low32
    rw [e,List.map_append]
    rfl)
   have hl:(low32 (R1.take n)).length = n:=by unfold low32; rw [List.length_map,List.length_take]; omega
   generalize R1.getD n 0 = x at k0 HT
   obtain ⟨P,hP⟩:∃ P,low32 (R1.take n) = P:=⟨_,rfl⟩
   rw [hP] at O HT hl
   clear hcc hP
   go_wp2_with (at_builtin; (refine wpList_append_ls rfl _ _ 76 rfl w1 84 i1 (.int .u32 0) 4 Tryz.underlying76 hi1 y1 z1 b1 rfl (int_one .u32) _ P rfl ((uh O).below (al1p _ _)) (some ⟨_,0,none⟩) 1 [x % 4294967296] rfl (ls_one6 _ _ _) (by unfold maxLen; simp only [List.length_singleton]; omega) (by simp only [List.length_singleton]; omega) ?_; intro v2 w2 O2; have HO2:=hide O2; clear O2))
   go_roundw
   case rel => exact ⟨n + 1,by go_num,by omega,hide (by rw [uh HT]; exact uh HO2)⟩
   case measure => simp [intOf]; omega
  ·have hi:¬ (n:Int) < (R1.length:Int):=by omega
   have HO:Hid (OwnG 84 (Value.int .u32) w wr u8 (low32 R1)):=hide (by
    have:=uh O
    rw [List.take_of_length_le (by omega)] at this
    exact this.early (uh B1))
   clear O
   go_wp2_with fail
   go_ret2
   exact ⟨_,rfl,uh HO⟩
end Go.Proofs.YtaikppgoahdjbaaGreat
