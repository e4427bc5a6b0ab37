import Derived.Deep.RegionHeld3
import Derived.Test.YtaikppgoahdjbabGreatV04
import Derived.Test.YtaikppgoahdjbabGreatV14
import Derived.Test.YtaikppgoahdjbabGreatV16
set_option maxRecDepth 100000
set_option maxHeartbeats 8000000
namespace Go.Proofs.YtaikppgoahdjbabGreat
open Go.RowKit
set_option linter.unusedVariables false
theorem cmay_any (a:FA) (w:World) (h:FaIn w a):Calls Tryz.prog 116 #[faV a] w fun e w' => e = .returned (.bool (mayB a.f)) ∧ Below w.heap.size w w':=by
 obtain ⟨n,wr,x,d,q,c⟩:=a
 obtain ⟨h1,h2,h3,h4⟩:=h
 simp only at h1 h2 h3 h4
 have dl:=h4.len
 obtain ⟨x0,x1⟩:=u64_range h3
 unfold faV
 simp only
 obtain ⟨D,hD⟩:∃ D,mayB (FA.f ⟨n,wr,x,d,q,c⟩) = D:=⟨_,rfl⟩
 rw [hD]
 have HV:Hid (D = (decide (1 ≤ n) && decide (n ≤ 536870911) && ((wr == 0 || wr == 1) && d.isEmpty || wr == 5 && d.isEmpty && decide (x < 4294967296) || wr == 2 && x == 0))):=hide (by rw [← hD]; rfl)
 have hde:d.isEmpty = decide ((d.length:Int) = 0):=by cases d <;> simp; omega
 rw [hde] at HV
 clear hD hde h4
 generalize d.length = m at HV dl ⊢
 by_cases c1:n < 1
 ·have t1:decide (n < 1) = true:=by simp [c1]
  have HE:Hid (D = false):=hide (by rw [uh HV]; simp; omega)
  clear HV
  go_enter Tryz.func116,Tryz.ntmps116
  go_wp2_with fail
  go_ret
  exact ⟨ret_bool (by first | rfl | (rw [uh HE,decide_eq_decide]; omega) | exact (uh HE).symm),al1p _ _⟩
 ·have t1:decide (n < 1) = false:=by simp; omega
  by_cases c2:536870911 < n
  ·have t2:decide (536870911 < n) = true:=by simp [c2]
   have HE:Hid (D = false):=hide (by rw [uh HV]; simp; omega)
   clear HV
   go_enter Tryz.func116,Tryz.ntmps116
   go_wp2_with fail
   go_ret
   exact ⟨ret_bool (by first | rfl | (rw [uh HE,decide_eq_decide]; omega) | exact (uh HE).symm),al1p _ _⟩
  ·have t2:decide (536870911 < n) = false:=by simp; omega
   have HV2:Hid (D = ((wr == 0 || wr == 1) && decide ((m:Int) = 0) || wr == 5 && decide ((m:Int) = 0) && decide (x < 4294967296) || wr == 2 && x == 0)):=hide (by
    rw [uh HV,show decide (1 ≤ n) = true by simp; omega,show decide (n ≤ 536870911) = true by simp; omega]; simp)
   clear HV
   by_cases w0:wr = 0
   ·subst w0
    have HE:Hid (D = decide ((m:Int) = 0)):=hide (by rw [uh HV2]; simp)
    clear HV2
    go_enter Tryz.func116,Tryz.ntmps116
    go_wp2_with fail
    go_ret
    exact ⟨ret_bool (by first | rfl | (rw [uh HE,decide_eq_decide]; omega) | exact (uh HE).symm),al1p _ _⟩
   ·have e0:(wr == 0) = false:=by simp [w0]
    by_cases w1:wr = 1
    ·subst w1
     have HE:Hid (D = decide ((m:Int) = 0)):=hide (by rw [uh HV2]; simp)
     clear HV2
     go_enter Tryz.func116,Tryz.ntmps116
     go_wp2_with fail
     go_ret
     exact ⟨ret_bool (by first | rfl | (rw [uh HE,decide_eq_decide]; omega) | exact (uh HE).symm),al1p _ _⟩
    ·have e1:(wr == 1) = false:=by simp [w1]
     by_cases w5:wr = 5
     ·subst w5
      by_cases cm:(m:Int) = 0
      ·have HE:Hid (D = decide (x < 4294967296)):=hide (by rw [uh HV2]; simp [cm])
       clear HV2
       go_enter Tryz.func116,Tryz.ntmps116
       go_wp2_with fail
       go_ret
       exact ⟨ret_bool (by first | rfl | (rw [uh HE,decide_eq_decide]; omega) | exact (uh HE).symm),al1p _ _⟩
      ·have em:((m:Int) == 0) = false:=by simp; omega
       have HE:Hid (D = false):=hide (by rw [uh HV2]; simp; omega)
       clear HV2
       go_enter Tryz.func116,Tryz.ntmps116
       go_wp2_with fail
       go_ret
       exact ⟨ret_bool (by first | rfl | (rw [uh HE,decide_eq_decide]; omega) | exact (uh HE).symm),al1p _ _⟩
     ·have e5:(wr == 5) = false:=by simp [w5]
      by_cases w2:wr = 2
      ·subst w2
       have HE:Hid (D = (x == 0)):=hide (by rw [uh HV2]; simp)
       clear HV2
       go_enter Tryz.func116,Tryz.ntmps116
       go_wp2_with fail
       go_ret
       exact ⟨ret_bool (by first | rfl | (rw [uh HE,decide_eq_decide]; omega) | exact (uh HE).symm),al1p _ _⟩
      ·have e2:(wr == 2) = false:=by simp [w2]
       have HE:Hid (D = false):=hide (by rw [uh HV2,e0,e1,e5,e2]; simp)
       clear HV2 w0 w1 w5 w2
       go_enter Tryz.func116,Tryz.ntmps116
       go_wp2_with fail
       go_ret
       exact ⟨ret_bool (by first | rfl | (rw [uh HE,decide_eq_decide]; omega) | exact (uh HE).symm),al1p _ _⟩
theorem cwithw_any (v0:Value) (os:List Int) (x:Int) (k:Nat) (w0 w:World) (ho:OwnG 5 (Value.int .u8) w0 w v0 os) (hn:os.length ≤ 1000) (h0:0 ≤ x) (h1:x < 18446744073709551616) (hk:k ≤ 8) :
  Calls Tryz.prog 164 #[v0,.int .u64 x,.int .i64 k] w fun e w' => ∃ v,e = .returned v ∧ OwnG 5 (Value.int .u8) w0 w' v (os ++ fxL x k):=by
 obtain ⟨i1,hi1,y1,z1,b1⟩:=info_parts Tryz.infoU8
 have HO0:=hide ho
 clear ho
 go_enter Tryz.func164,Tryz.ntmps164
 go_wp2_with fail
 go_loopw [0,1,8] (fun v yv jv wr => ∃ j:Nat,∃ y:Int,jv = .int .i64 j ∧ yv = .int .u64 y ∧ j ≤ k ∧ 0 ≤ y ∧ y < 18446744073709551616 ∧ Hid (y = x / 256 ^ j) ∧ Hid (OwnG 5 (Value.int .u8) w0 wr v (os ++ fxL x j))) (fun _ _ jv _ => k - (intOf jv).toNat)
 case atStart => exact ⟨0,x,rfl,rfl,by omega,h0,h1,hide (by simp),hide (by rw [fxL,List.append_nil]; exact uh HO0)⟩
 case round =>
  obtain ⟨j,y,rfl,rfl,hj,v0,v1,HY,O⟩:=hrel
  by_cases hjl:j < k
  ·have hji:(j:Int) < (k:Int):=by omega
   have d0:0 ≤ y / 256:=by omega
   have d1:y / 256 < 18446744073709551616:=by omega
   have hl2:(os ++ fxL x j).length ≤ 1008:=by rw [List.length_append,fxL_length]; omega
   have HS:Hid (os ++ fxL x (j + 1) = (os ++ fxL x j) ++ [y % 256]):=hide (by rw [uh HY,fxL,List.append_assoc])
   have HY2:Hid (y / 256 = x / 256 ^ (j + 1)):=hide (by rw [uh HY,Int.pow_succ,Int.ediv_ediv_of_nonneg (Int.pow_nonneg (by decide))])
   obtain ⟨P,hP⟩:∃ P,os ++ fxL x j = P:=⟨_,rfl⟩
   rw [hP] at O hl2 HS
   clear HY hP
   go_wp2_with (at_builtin; (refine wpList_append_ls rfl _ _ 28 rfl w0 5 i1 (.int .u8 0) 1 Tryz.underlying28 hi1 y1 z1 b1 rfl (int_one .u8) _ P rfl ((uh O).below (al1p _ _)) (some ⟨_,0,none⟩) 1 [y % 256] rfl (ls_one6 _ _ _) (by unfold maxLen; simp only [List.length_singleton]; omega) (by simp only [List.length_singleton]; omega) ?_; intro v2 w2 O2; have HO2:=hide O2; clear O2))
   go_roundw
   case rel => exact ⟨j + 1,y / 256,by go_num,rfl,by omega,d0,d1,HY2,hide (by rw [uh HS]; exact uh HO2)⟩
   case measure => simp [intOf]; omega
  ·have hji:¬ (j:Int) < (k:Int):=by omega
   have ej:j = k:=by omega
   subst ej
   clear HY
   go_wp2_with fail
   go_ret
   exact ⟨_,rfl,uh O⟩
def headB (f:Fld):List Int:=varV (f.1 * 8 + f.2.1) ++ (if f.2.1 = 1 then fxL f.2.2.1 8 else if f.2.1 = 5 then fxL f.2.2.1 4 else if f.2.1 = 2 then varV (f.2.2.2.length:Int) else varV f.2.2.1)
theorem headB_data {f:Fld} (h:mayF f):fieldB f = headB f ++ f.2.2.2:=by
 obtain ⟨n,wi,x,d⟩:=f
 obtain ⟨m1,m2,m3⟩:=h
 simp only at m1 m2 m3
 unfold fieldB headB bodyB
 simp only
 rcases m3 with ⟨h3 | h3,h4⟩ | ⟨h3,h4,_⟩ | ⟨h3,h4⟩
 ·subst h3 h4; simp
 ·subst h3 h4; simp
 ·subst h3 h4; simp
 ·subst h3; simp [List.append_assoc]
theorem headB_len (f:Fld):(headB f).length ≤ 20:=by
 have:=varV_len (f.1 * 8 + f.2.1)
 unfold headB
 rw [List.length_append]
 split
 ·rw [fxL_length]; omega
 ·split
  ·rw [fxL_length]; omega
  ·split
   ·have:=varV_len (f.2.2.2.length:Int); omega
   ·have:=varV_len f.2.2.1; omega
theorem or8 (y x:Int) (h0:0 ≤ y) (x0:0 ≤ x) (x1:x < 8) (hs:y * 8 + x < 18446744073709551616):bits .or .u64 (y * 8) x = y * 8 + x:=by
 have key:(BitVec.ofInt 64 (y * 8) ||| BitVec.ofInt 64 x).toNat = y.toNat * 8 + x.toNat:=by
  rw [BitVec.toNat_or,BitVec.toNat_ofInt,BitVec.toNat_ofInt]
  have e1:((y * 8) % ((2 ^ 64:Nat):Int)).toNat = 2 ^ 3 * y.toNat:=by omega
  have e2:(x % ((2 ^ 64:Nat):Int)).toNat = x.toNat:=by omega
  rw [e1,e2,← Nat.two_pow_add_eq_or_of_lt (by omega)]
  omega
 show IntKind.u64.wrap ((BitVec.ofInt 64 (y * 8) ||| BitVec.ofInt 64 x).toNat:Nat) = y * 8 + x
 rw [key,IntKind.wrap_u64]
 omega
theorem OwnG.early {α:Type} {f:α → Value} {t:TypeId} {w w1 wr:World} {v:Value} {os:List α} (h:OwnG t f w1 wr v os) (hb:Below w.heap.size w w1):OwnG t f w wr v os:=by
 obtain ⟨⟨h1,h2⟩,h3⟩:=h
 refine ⟨⟨h1,?_⟩,bl_tr hb h3⟩
 rcases h2 with g | ⟨g,cap,cur,hv,hg,rest⟩
 ·exact .inl g
 ·exact .inr ⟨g,cap,cur,hv,Nat.le_trans hb.size hg,rest⟩
theorem chead_any (a:FA) (w:World) (h:FaIn w a) (hm:mayF a.f) :
  Calls Tryz.prog 117 #[faV a] w fun e w' => ∃ v,e = .returned v ∧ OwnG 5 (Value.int .u8) w w' v (headB a.f):=by
 obtain ⟨x0,x1'⟩:=u64_range h.2.2.1
 have dl:=h.2.2.2.len
 clear h
 obtain ⟨m1,m2,m3⟩:=hm
 simp only [FA.f] at m1 m2 m3
 have hw4:a.wr = 0 ∨ a.wr = 1 ∨ a.wr = 5 ∨ a.wr = 2:=by omega
 have wb:0 ≤ a.wr ∧ a.wr ≤ 5:=by omega
 obtain ⟨wb0,wb1⟩:=wb
 clear m3
 have hor:=or8 a.n a.wr (by omega) wb0 (by omega) (by omega)
 have zt:0 ≤ a.n * 8 + a.wr:=by omega
 have zu:a.n * 8 + a.wr < 18446744073709551616:=by omega
 have VT:=hide (fun v => cvarint_any (a.n * 8 + a.wr) v zt zu)
 have vl:=(varV_len (a.n * 8 + a.wr)).2
 obtain ⟨V1,hV1⟩:∃ V1,varV (a.n * 8 + a.wr) = V1:=⟨_,rfl⟩
 have HV1:=hide hV1
 rw [hV1] at VT vl
 clear hV1
 unfold faV
 rcases hw4 with hw | hw | hw | hw
 ·have t1:(a.wr == 1) = false:=by simp [hw]
  have t5:(a.wr == 5) = false:=by simp [hw]
  have t2:(a.wr == 2) = false:=by simp [hw]
  have HH:Hid (headB a.f = V1 ++ varV a.x):=hide (by rw [← uh HV1]; unfold headB FA.f; simp [hw])
  have VX:=hide (fun v0 (u:World) hO => cwithv_any v0 V1 a.x (w.alloc (Obj.cells #[.int .i64 a.n,.int .i64 a.wr,.int .u64 a.x,.slice a.q a.d.length a.c] 91)) u hO (by omega) x0 x1')
  clear hw HV1
  go_enter Tryz.func117,Tryz.ntmps117
  go_wp2_with fail
  refine (uh VT _).mono ?_
  rintro e U1 ⟨u1,rfl,hO⟩
  have P1:=hide (hO.below (Below.refl _ _))
  have VX1:=hide (uh VX u1 U1 hO)
  have Y1:=hide (Box.below (Box.new w #[.int .i64 a.n,.int .i64 a.wr,.int .u64 a.x,.slice a.q a.d.length a.c] 91) hO.2)
  have x1:=(uh Y1).cell
  have BA:=hide (al1p w (Obj.cells #[.int .i64 a.n,.int .i64 a.wr,.int .u64 a.x,.slice a.q a.d.length a.c] 91))
  clear hO VX VT
  go_wp2_with fail
  refine (uh VX1).mono ?_
  rintro e U2 ⟨u2,rfl,hO⟩
  have HO:=hide hO
  clear hO VX1 x1
  go_wp2_with fail
  go_ret
  exact ⟨_,rfl,own_eq6 (OwnG.early (uh HO) (uh BA)) (uh HH).symm⟩
 ·have t1:(a.wr == 1) = true:=by simp [hw]
  have HH:Hid (headB a.f = V1 ++ fxL a.x 8):=hide (by rw [← uh HV1]; unfold headB FA.f; simp [hw])
  have VX:=hide (fun v0 (u:World) hO => (cwithw_any v0 V1 a.x 8 (w.alloc (Obj.cells #[.int .i64 a.n,.int .i64 a.wr,.int .u64 a.x,.slice a.q a.d.length a.c] 91)) u hO (by omega) x0 x1' (by omega):Calls Tryz.prog 164 #[v0,.int .u64 a.x,.int .i64 8] u _))
  clear hw HV1
  go_enter Tryz.func117,Tryz.ntmps117
  go_wp2_with fail
  refine (uh VT _).mono ?_
  rintro e U1 ⟨u1,rfl,hO⟩
  have P1:=hide (hO.below (Below.refl _ _))
  have VX1:=hide (uh VX u1 U1 hO)
  have Y1:=hide (Box.below (Box.new w #[.int .i64 a.n,.int .i64 a.wr,.int .u64 a.x,.slice a.q a.d.length a.c] 91) hO.2)
  have x1:=(uh Y1).cell
  have BA:=hide (al1p w (Obj.cells #[.int .i64 a.n,.int .i64 a.wr,.int .u64 a.x,.slice a.q a.d.length a.c] 91))
  clear hO VX VT
  go_wp2_with fail
  refine (uh VX1).mono ?_
  rintro e U2 ⟨u2,rfl,hO⟩
  have HO:=hide hO
  clear hO VX1 x1
  go_wp2_with fail
  go_ret
  exact ⟨_,rfl,own_eq6 (OwnG.early (uh HO) (uh BA)) (uh HH).symm⟩
 ·have t1:(a.wr == 1) = false:=by simp [hw]
  have t5:(a.wr == 5) = true:=by simp [hw]
  have HH:Hid (headB a.f = V1 ++ fxL a.x 4):=hide (by rw [← uh HV1]; unfold headB FA.f; simp [hw])
  have VX:=hide (fun v0 (u:World) hO => (cwithw_any v0 V1 a.x 4 (w.alloc (Obj.cells #[.int .i64 a.n,.int .i64 a.wr,.int .u64 a.x,.slice a.q a.d.length a.c] 91)) u hO (by omega) x0 x1' (by omega):Calls Tryz.prog 164 #[v0,.int .u64 a.x,.int .i64 4] u _))
  clear hw HV1
  go_enter Tryz.func117,Tryz.ntmps117
  go_wp2_with fail
  refine (uh VT _).mono ?_
  rintro e U1 ⟨u1,rfl,hO⟩
  have P1:=hide (hO.below (Below.refl _ _))
  have VX1:=hide (uh VX u1 U1 hO)
  have Y1:=hide (Box.below (Box.new w #[.int .i64 a.n,.int .i64 a.wr,.int .u64 a.x,.slice a.q a.d.length a.c] 91) hO.2)
  have x1:=(uh Y1).cell
  have BA:=hide (al1p w (Obj.cells #[.int .i64 a.n,.int .i64 a.wr,.int .u64 a.x,.slice a.q a.d.length a.c] 91))
  clear hO VX VT
  go_wp2_with fail
  refine (uh VX1).mono ?_
  rintro e U2 ⟨u2,rfl,hO⟩
  have HO:=hide hO
  clear hO VX1 x1
  go_wp2_with fail
  go_ret
  exact ⟨_,rfl,own_eq6 (OwnG.early (uh HO) (uh BA)) (uh HH).symm⟩
 ·have t1:(a.wr == 1) = false:=by simp [hw]
  have t5:(a.wr == 5) = false:=by simp [hw]
  have t2:(a.wr == 2) = true:=by simp [hw]
  have HH:Hid (headB a.f = V1 ++ varV (a.d.length:Int)):=hide (by rw [← uh HV1]; unfold headB FA.f; simp [hw])
  have VX:=hide (fun v0 (u:World) hO => cwithv_any v0 V1 (a.d.length:Int) (w.alloc (Obj.cells #[.int .i64 a.n,.int .i64 a.wr,.int .u64 a.x,.slice a.q a.d.length a.c] 91)) u hO (by omega) (by omega) (by omega))
  clear hw HV1
  go_enter Tryz.func117,Tryz.ntmps117
  go_wp2_with fail
  refine (uh VT _).mono ?_
  rintro e U1 ⟨u1,rfl,hO⟩
  have P1:=hide (hO.below (Below.refl _ _))
  have VX1:=hide (uh VX u1 U1 hO)
  have Y1:=hide (Box.below (Box.new w #[.int .i64 a.n,.int .i64 a.wr,.int .u64 a.x,.slice a.q a.d.length a.c] 91) hO.2)
  have x1:=(uh Y1).cell
  have BA:=hide (al1p w (Obj.cells #[.int .i64 a.n,.int .i64 a.wr,.int .u64 a.x,.slice a.q a.d.length a.c] 91))
  clear hO VX VT
  go_wp2_with fail
  refine (uh VX1).mono ?_
  rintro e U2 ⟨u2,rfl,hO⟩
  have HO:=hide hO
  clear hO VX1 x1
  go_wp2_with fail
  go_ret
  exact ⟨_,rfl,own_eq6 (OwnG.early (uh HO) (uh BA)) (uh HH).symm⟩
theorem okW_one (l:List FA) (x:Int):okW [x] l = !(l.any fun a => a.wr != x):=by
 unfold okW
 induction l with
 | nil => rfl
 | cons a r ih =>
   rw [List.all_cons,List.any_cons,ih]
   by_cases h:a.wr = x <;> simp [h]
theorem ls_one64 (w:World) (x:Int) (t:TypeId):Ls (Value.int .i64) (w.alloc (.cells #[.int .i64 x] t)) (some ⟨w.heap.size,0,none⟩) 1 [x]:=ls_one6 w x t
theorem clast_any (p:Option Addr) (c:Nat) (l:List FA) (num wire:Int) (w:World) (h:Fls w p c l) (hs:l.length * 48 ≤ 140737488355328) (hd:∀ a ∈ l,a.d.length ≤ 140737488355328) :
  Calls Tryz.prog 131 #[.slice p l.length c,.int .i64 num,.int .i64 wire] w fun e w' => ∃ a,e = .returned (.tuple #[faV a,.bool (lastV (l.map FA.f) num wire).2.1,.int .i64 (lastV (l.map FA.f) num wire).2.2]) ∧ Hid (a.f = (lastV (l.map FA.f) num wire).1 ∧ FaIn w' a ∧ OwnD w.heap.size w' a ∧ Below w.heap.size w w'):=by
 have SD:=hide (fun v (hv:Below w.heap.size w v) q d hq => csaid_any p q c d l num [wire] v (h.below hv) hq hs)
 have nl:=h.1.len
 have hal:(allA l num).length ≤ l.length:=List.length_filter_le _ _
 have AI:=hide (allA_in (num:=num) h.2)
 have AD:Hid (∀ a ∈ allA l num,a.d.length ≤ 140737488355328):=hide (fun a ha => hd a (List.mem_filter.1 ha).1)
 have HV:Hid (∀ (R:Fld × Bool × Int),lastV (l.map FA.f) num wire = R → R = if okW [wire] (allA l num) = false then (noFld,false,6) else if (allA l num).length = 0 then (noFld,false,0) else (((allA l num).getD ((allA l num).length - 1) noFA).f,true,0)):=hide (fun R hR => by
  rw [← hR]
  have e1:(allV (l.map FA.f) num).any (fun f => f.2.1 != wire) = (allA l num).any (fun a => a.wr != wire):=by rw [← allA_f,any_map]; rfl
  have e2:(allV (l.map FA.f) num).length = (allA l num).length:=by rw [← allA_f,List.length_map]
  unfold lastV
  rw [e1,e2,okW_one]
  cases (allA l num).any (fun a => a.wr != wire)
  ·simp only [Bool.not_false,Bool.false_eq_true,if_false,Bool.true_eq_false]
   split
   ·rfl
   ·rename_i h0
    rw [← allA_f]
    rw [List.getD_eq_getElem?_getD,List.getD_eq_getElem?_getD,List.getElem?_map,List.getElem?_eq_getElem (by omega)]
    rfl
  ·rfl)
 obtain ⟨R,hR⟩:∃ R,lastV (l.map FA.f) num wire = R:=⟨_,rfl⟩
 have HV2:=hide (uh HV R hR)
 rw [hR]
 clear hR HV h hd
 obtain ⟨R1,R2,R3⟩:=R
 simp only
 generalize hL:allA l num = A at SD HV2 AI AD hal
 clear hL
 have SD1:Hid (Calls Tryz.prog 135 #[.slice p l.length c,.int .i64 num,.slice (some ⟨w.heap.size + 1,0,none⟩) 1 1] ((w.alloc (Obj.cells #[.int .i64 0,.int .i64 0,.int .u64 0,.slice none 0 0] 91)).alloc (Obj.cells #[.int .i64 wire] 3)) fun e w' => ∃ v,e = .returned (.tuple #[v,.int .i64 (if okW [wire] A then 0 else 6)]) ∧ OwnF 91 ((w.alloc (Obj.cells #[.int .i64 0,.int .i64 0,.int .u64 0,.slice none 0 0] 91)).alloc (Obj.cells #[.int .i64 wire] 3)) w' v (if okW [wire] A then A else [])):=hide (uh SD _ (al2p _ _ _) _ _ (by have:=ls_one64 (w.alloc (Obj.cells #[.int .i64 0,.int .i64 0,.int .u64 0,.slice none 0 0] 91)) wire 3; rw [alloc_size6] at this; exact this))
 clear SD
 cases hok:okW [wire] A with
 | false =>
   rw [hok] at SD1 HV2
   simp only [Bool.false_eq_true,if_false] at SD1
   have HE:Hid (R1 = noFld ∧ R2 = false ∧ R3 = 6):=hide (by have:=uh HV2; rw [if_pos rfl] at this; simpa using this)
   clear hok HV2
   go_enter Tryz.func131,Tryz.ntmps131
   go_wp2_with fail
   refine (uh SD1).mono ?_
   rintro e w1 ⟨v1,rfl,hO⟩
   obtain ⟨q1,d1,rfl,hc,_⟩:=hO.form
   have B1:=hide (bl_tr (al2p _ _ _) hO.2)
   have R0:=hide (Box.below (Box.alloc (Box.new w #[.int .i64 0,.int .i64 0,.int .u64 0,.slice none 0 0] 91) _) hO.2)
   have z1:w.heap.size < w1.heap.size:=(uh R0).lt
   have r0:=(uh R0).cell
   have f0:=(uh R0).frozen
   clear hc hO SD1
   go_wp2_with fail
   obtain ⟨g1,g2,g3⟩:=uh HE
   subst g1 g2 g3
   exact bodyPost_ret (v:=.tuple #[faV noFA,.bool false,.int .i64 6]) (by simp [results,Tryz.results131,go_sem,faV,noFA,((uh R0).set4 (.int .i64 0) (.int .i64 0) (.int .u64 0) (.slice none 0 0)).cell]) rfl ⟨noFA,rfl,hide ⟨rfl,noFA_in _,OwnD.no _ _ _ _ _,bset4 (uh B1) (by omega) _ _ _ _⟩⟩
 | true =>
   rw [hok] at SD1 HV2
   simp only [if_true] at SD1
   clear hok
   by_cases h0:A.length = 0
   ·have hA:A = []:=List.eq_nil_of_length_eq_zero h0
    subst hA
    have HE:Hid (R1 = noFld ∧ R2 = false ∧ R3 = 0):=hide (by have:=uh HV2; rw [if_neg (by decide)] at this; simpa using this)
    clear HV2 h0
    go_enter Tryz.func131,Tryz.ntmps131
    go_wp2_with fail
    refine (uh SD1).mono ?_
    rintro e w1 ⟨v1,rfl,hO⟩
    obtain ⟨q1,d1,rfl,hc,_⟩:=hO.form
    have B1:=hide (bl_tr (al2p _ _ _) hO.2)
    have R0:=hide (Box.below (Box.alloc (Box.new w #[.int .i64 0,.int .i64 0,.int .u64 0,.slice none 0 0] 91) _) hO.2)
    have z1:w.heap.size < w1.heap.size:=(uh R0).lt
    have r0:=(uh R0).cell
    have f0:=(uh R0).frozen
    clear hc hO SD1
    go_wp2_with fail
    obtain ⟨g1,g2,g3⟩:=uh HE
    subst g1 g2 g3
    exact bodyPost_ret (v:=.tuple #[faV noFA,.bool false,.int .i64 0]) (by simp [results,Tryz.results131,go_sem,faV,noFA,((uh R0).set4 (.int .i64 0) (.int .i64 0) (.int .u64 0) (.slice none 0 0)).cell]) rfl ⟨noFA,rfl,hide ⟨rfl,noFA_in _,OwnD.no _ _ _ _ _,bset4 (uh B1) (by omega) _ _ _ _⟩⟩
   ·have t0:((A.length:Int) == 0) = false:=by rw [beq_eq_false_iff_ne]; omega
    have HE:Hid (R1 = (A.getD (A.length - 1) noFA).f ∧ R2 = true ∧ R3 = 0):=hide (by have:=uh HV2; rw [if_neg (by decide),if_neg h0] at this; simpa using this)
    have hl1:(A.length:Int) - 1 = ((A.length - 1:Nat):Int):=by omega
    have hl2:((A.length - 1:Nat):Int) < (A.length:Int):=by omega
    have hl3:A.length - 1 < A.length:=by omega
    have CC:=hide (fun v (hv:Below w.heap.size w v) => ccopied_any (A.getD (A.length - 1) noFA) v ((uh AI _ (getD_memF hl3)).below hv) (uh AD _ (getD_memF hl3)))
    clear HV2 h0
    go_enter Tryz.func131,Tryz.ntmps131
    go_wp2_with fail
    refine (uh SD1).mono ?_
    rintro e w1 ⟨v1,rfl,hO⟩
    obtain ⟨q1,d1,rfl,hc,_⟩:=hO.form
    have B1:=hide (bl_tr (al2p _ _ _) hO.2)
    have R0:=hide (Box.below (Box.alloc (Box.new w #[.int .i64 0,.int .i64 0,.int .u64 0,.slice none 0 0] 91) _) hO.2)
    have z1:w.heap.size < w1.heap.size:=(uh R0).lt
    have r0:=(uh R0).cell
    have f0:=(uh R0).frozen
    obtain ⟨b,o,rfl,hb,k0,k1,k2,k3⟩:=hc.at hl3
    clear hc hO SD1
    generalize A.getD (A.length - 1) noFA = a at HE CC k0 k1 k2 k3
    generalize A.length - 1 = m at k0 k1 k2 k3 hl1 hl2
    unfold faV at CC
    clear hl3
    go_wp2_with fail
    refine (uh CC _ (uh B1)).mono ?_
    rintro e w5 ⟨a',rfl,hq⟩
    obtain ⟨g1,g2,g3,g4⟩:=uh hq
    have B5:=hide (bl_tr (uh B1) g4)
    have R5:=hide ((uh R0).below g4)
    have r5:=(uh R5).cell
    have f5:=(uh R5).frozen
    have z5:w.heap.size < w5.heap.size:=(uh R5).lt
    have G1:=hide g1
    have G2:=hide g2
    have G3:=hide g3
    clear hq g1 g2 g3 g4 CC r0 f0
    go_wp2_with fail
    refine bodyPost_ret (v:=.tuple #[faV a',.bool true,.int .i64 0]) (by simp [results,Tryz.results131,go_sem,faV,((uh R5).set4 (.int .i64 a'.n) (.int .i64 a'.wr) (.int .u64 a'.x) (.slice a'.q a'.d.length a'.c)).cell]) rfl ?_
    obtain ⟨e1,e2,e3⟩:=uh HE
    subst e2 e3
    refine ⟨a',rfl,hide ⟨by rw [e1]; exact uh G1,?_,?_,bset4 (uh B5) (by omega) _ _ _ _⟩⟩
    ·refine ⟨(uh G2).1,(uh G2).2.1,(uh G2).2.2.1,?_⟩
     have hf:∀ b o,a'.q = some ⟨b,o,none⟩ → 0 < a'.d.length → b ≠ w.heap.size:=fun b o e hp => by
      rcases (uh G3).2 with ⟨_,hn⟩ | ⟨g,cap,cur,hv,hg,_⟩
      ·omega
      ·simp only [Value.slice.injEq] at hv
       rw [hv.1] at e
       simp only [Option.some.injEq,Addr.mk.injEq] at e
       have:=e.1
       omega
     exact ((((uh G2).2.2.2.ls.far hf).far hf).far hf |>.far hf).ints (uh G2).2.2.2.2.2.1
    ·have:=OwnD.mono (uh G3) (show w.heap.size + 1 ≤ w1.heap.size by omega)
     refine (OwnD.kept this (fun b cur hb _ => ?_)).mono (by omega)
     rw [Below.heap_setCell _ _ _ _ (by simp; omega),Below.heap_setCell _ _ _ _ (by simp; omega),Below.heap_setCell _ _ _ _ (by simp; omega),Below.heap_setCell _ _ _ _ (by simp; omega)]
theorem cjoined_any (p:Option Addr) (c:Nat) (l:List FA) (num:Int) (w:World) (h:Fls w p c l) (hs:l.length * 48 ≤ 140737488355328) (hd:sumD l ≤ 140737488355328) :
  Calls Tryz.prog 90 #[.slice p l.length c,.int .i64 num] w fun e w' => ∃ v,e = .returned (.tuple #[v,.bool (joinV (l.map FA.f) num).2.1,.int .i64 (joinV (l.map FA.f) num).2.2]) ∧ OwnG 5 (Value.int .u8) w w' v (joinV (l.map FA.f) num).1:=by
 obtain ⟨i1,hi1,y1,z1,b1⟩:=info_parts Tryz.infoU8
 have SD:=hide (fun v (hv:Below w.heap.size w v) q d hq => csaid_any p q c d l num [2] v (h.below hv) hq hs)
 have nl:=h.1.len
 have hal:(allA l num).length ≤ l.length:=List.length_filter_le _ _
 have hsd:=sumD_all l num
 have AI:=hide (allA_in (num:=num) h.2)
 have HV:Hid (joinV (l.map FA.f) num = if okW [2] (allA l num) = false then ([],false,6) else (flatD (allA l num),decide (0 < (allA l num).length),0)):=hide (by
  have e1:(allV (l.map FA.f) num).any (fun f => f.2.1 != 2) = (allA l num).any (fun a => a.wr != 2):=by rw [← allA_f,any_map]; rfl
  have e2:(allV (l.map FA.f) num).length = (allA l num).length:=by rw [← allA_f,List.length_map]
  unfold joinV
  rw [e1,e2,← allA_f,flatD_f,okW_one]
  cases (allA l num).any (fun a => a.wr != 2) <;> rfl)
 generalize hR:joinV (l.map FA.f) num = R at HV ⊢
 clear hR h
 obtain ⟨R1,R2,R3⟩:=R
 simp only at HV ⊢
 generalize hL:allA l num = A at SD HV hal hsd AI
 clear hL
 have SD1:Hid (Calls Tryz.prog 135 #[.slice p l.length c,.int .i64 num,.slice (some ⟨w.heap.size,0,none⟩) 1 1] (w.alloc (Obj.cells #[.int .i64 2] 3)) fun e w' => ∃ v,e = .returned (.tuple #[v,.int .i64 (if okW [2] A then 0 else 6)]) ∧ OwnF 91 (w.alloc (Obj.cells #[.int .i64 2] 3)) w' v (if okW [2] A then A else [])):=hide (uh SD _ (al1p _ _) _ _ (ls_one64 w 2 3))
 clear SD
 cases hok:okW [2] A with
 | false =>
   rw [hok] at SD1 HV
   simp only [Bool.false_eq_true,if_false] at SD1
   have HE:Hid (R1 = [] ∧ R2 = false ∧ R3 = 6):=hide (by have:=uh HV; rw [if_pos rfl] at this; simpa using this)
   clear hok HV
   go_enter Tryz.func90,Tryz.ntmps90
   go_wp2_with fail
   refine (uh SD1).mono ?_
   rintro e w1 ⟨v1,rfl,hO⟩
   have B1:=hide (bl_tr (al1p _ _) hO.2)
   clear hO SD1
   go_wp2_with fail
   go_ret3
   obtain ⟨g1,g2,g3⟩:=uh HE
   subst g1 g2 g3
   exact ⟨_,rfl,OwnG.nil _ _ _ (uh B1)⟩
 | true =>
   rw [hok] at SD1 HV
   simp only [if_true] at SD1
   have HE:Hid (R1 = flatD A ∧ R2 = decide (0 < A.length) ∧ R3 = 0):=hide (by have:=uh HV; rw [if_neg (by decide)] at this; simpa using this)
   clear hok HV
   go_enter Tryz.func90,Tryz.ntmps90
   go_wp2_with fail
   refine (uh SD1).mono ?_
   rintro e w1 ⟨v1,rfl,hO⟩
   obtain ⟨q1,d1,rfl,hc,_⟩:=hO.form
   have C1:=hide hc
   have B1:=hide (bl_tr (al1p _ _) hO.2)
   clear hc hO SD1
   go_wp2_with fail
   go_loopw [9,24] (fun v iv wr => ∃ n:Nat,iv = .int .i64 n ∧ n ≤ A.length ∧ Hid (OwnG 5 (Value.int .u8) w1 wr v (flatD (A.take n)))) (fun _ iv _ => A.length - (intOf iv).toNat)
   case atStart => exact ⟨0,rfl,by omega,hide (OwnG.nil _ _ _ (Below.refl _ _))⟩
   case round =>
    obtain ⟨n,rfl,hn,O⟩:=hrel
    by_cases hlt:n < A.length
    ·have hi:(n:Int) < (A.length:Int):=by omega
     obtain ⟨b,o,rfl,hb,k0,k1,k2,k3⟩:=((uh C1).below (uh O).2).at hlt
     have HX:Hid (flatD (A.take (n + 1)) = flatD (A.take n) ++ (A.getD n noFA).d):=hide (by rw [take_addF A n hlt]; simp [flatD])
     have HI:=hide ((uh AI _ (getD_memF hlt)).below (bl_tr (uh B1) (uh O).2))
     have hsz:(flatD (A.take n)).length + (A.getD n noFA).d.length ≤ sumD A:=by
      have e1:=sumD_take A (n + 1)
      rw [take_addF A n hlt,sumD_append] at e1
      rw [flatD_len]
      simpa [sumD] using e1
     generalize A.getD n noFA = a at k0 k1 k2 k3 HX HI hsz
     go_wp2_with (at_builtin; (refine wpList_append_ls rfl _ _ 28 rfl w1 5 i1 (.int .u8 0) 1 Tryz.underlying28 hi1 y1 z1 b1 rfl (int_one .u8) _ (flatD (A.take n)) rfl ((uh O).below (al1p _ _)) a.q a.c a.d rfl ((uh HI).below (al1p _ _)).2.2.2.ls (by unfold maxLen; omega) (by omega) ?_; intro v2 w2 O2; have HO2:=hide O2; clear O2))
     go_roundw
     case rel => exact ⟨n + 1,by go_num,by omega,hide (by rw [uh HX]; exact uh HO2)⟩
     case measure => simp [intOf]; omega
    ·have hi:¬ (n:Int) < (A.length:Int):=by omega
     have HO:Hid (OwnG 5 (Value.int .u8) w wr u9 (flatD A)):=hide (by
      have:=uh O
      rw [List.take_of_length_le (by omega)] at this
      exact this.early (uh B1))
     clear O
     by_cases h0:0 < A.length
     ·have t0:decide ((0:Int) < (A.length:Int)) = true:=decide_eq_true (by omega)
      go_wp2_with fail
      go_ret3
      obtain ⟨g1,g2,g3⟩:=uh HE
      rw [decide_eq_true h0] at g2
      subst g1 g2 g3
      exact ⟨_,rfl,uh HO⟩
     ·have t0:decide ((0:Int) < (A.length:Int)) = false:=decide_eq_false (by omega)
      go_wp2_with fail
      go_ret3
      obtain ⟨g1,g2,g3⟩:=uh HE
      rw [decide_eq_false h0] at g2
      subst g1 g2 g3
      exact ⟨_,rfl,uh HO⟩
end Go.Proofs.YtaikppgoahdjbabGreat
