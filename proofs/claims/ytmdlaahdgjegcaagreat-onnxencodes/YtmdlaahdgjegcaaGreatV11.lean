import Derived.Deep.RegionHeld3
import Derived.Test.YtmdlaahdgjegcaaGreatV04
import Derived.Test.YtmdlaahdgjegcaaGreatV10
set_option maxRecDepth 100000
set_option maxHeartbeats 8000000
namespace Go.Proofs.YtmdlaahdgjegcaaGreat
open Go.RowKit
set_option linter.unusedVariables false
theorem cmay_any (a:FA) (w:World) (h:FaIn w a):Calls Tryz.prog 205 #[faV a] w fun e w' => e = .returned (.bool (mayB a.f)) ∧ Below w.heap.size w w':=by
 obtain ⟨n,wr,x,d,q,c⟩:=a
 obtain ⟨h1,h2,h3,h4⟩:=h
 simp only at h1 h2 h3 h4
 have dl:=h4.len
 obtain ⟨x0,x1⟩:=u64_range h3
 unfold faV
 simp only
 obtain ⟨D,hD⟩:∃ D,mayB (FA.f ⟨n,wr,x,d,q,c⟩) = D:=⟨_,rfl⟩
 rw [hD]
 have HV:Hid (D = (decide (1 ≤ n) && decide (n ≤ 536870911) && ((wr == 0 || wr == 1) && d.isEmpty || wr == 5 && d.isEmpty && decide (x < 4294967296) || wr == 2 && x == 0))):=hide (by rw [← hD]; rfl)
 have hde:d.isEmpty = decide ((d.length:Int) = 0):=by cases d <;> simp; omega
 rw [hde] at HV
 clear hD hde h4
 generalize d.length = m at HV dl ⊢
 by_cases c1:n < 1
 ·have t1:decide (n < 1) = true:=by simp [c1]
  have HE:Hid (D = false):=hide (by rw [uh HV]; simp; omega)
  clear HV
  go_enter Tryz.func205,Tryz.ntmps205
  go_wp2_with fail
  go_ret
  exact ⟨ret_bool (by first | rfl | (rw [uh HE,decide_eq_decide]; omega) | exact (uh HE).symm),al1p _ _⟩
 ·have t1:decide (n < 1) = false:=by simp; omega
  by_cases c2:536870911 < n
  ·have t2:decide (536870911 < n) = true:=by simp [c2]
   have HE:Hid (D = false):=hide (by rw [uh HV]; simp; omega)
   clear HV
   go_enter Tryz.func205,Tryz.ntmps205
   go_wp2_with fail
   go_ret
   exact ⟨ret_bool (by first | rfl | (rw [uh HE,decide_eq_decide]; omega) | exact (uh HE).symm),al1p _ _⟩
  ·have t2:decide (536870911 < n) = false:=by simp; omega
   have HV2:Hid (D = ((wr == 0 || wr == 1) && decide ((m:Int) = 0) || wr == 5 && decide ((m:Int) = 0) && decide (x < 4294967296) || wr == 2 && x == 0)):=hide (by
    rw [uh HV,show decide (1 ≤ n) = true by simp; omega,show decide (n ≤ 536870911) = true by simp; omega]; simp)
   clear HV
   by_cases w0:wr = 0
   ·subst w0
    have HE:Hid (D = decide ((m:Int) = 0)):=hide (by rw [uh HV2]; simp)
    clear HV2
    go_enter Tryz.func205,Tryz.ntmps205
    go_wp2_with fail
    go_ret
    exact ⟨ret_bool (by first | rfl | (rw [uh HE,decide_eq_decide]; omega) | exact (uh HE).symm),al1p _ _⟩
   ·have e0:(wr == 0) = false:=by simp [w0]
    by_cases w1:wr = 1
    ·subst w1
     have HE:Hid (D = decide ((m:Int) = 0)):=hide (by rw [uh HV2]; simp)
     clear HV2
     go_enter Tryz.func205,Tryz.ntmps205
     go_wp2_with fail
     go_ret
     exact ⟨ret_bool (by first | rfl | (rw [uh HE,decide_eq_decide]; omega) | exact (uh HE).symm),al1p _ _⟩
    ·have e1:(wr == 1) = false:=by simp [w1]
     by_cases w5:wr = 5
     ·subst w5
      by_cases cm:(m:Int) = 0
      ·have HE:Hid (D = decide (x < 4294967296)):=hide (by rw [uh HV2]; simp [cm])
       clear HV2
       go_enter Tryz.func205,Tryz.ntmps205
       go_wp2_with fail
       go_ret
       exact ⟨ret_bool (by first | rfl | (rw [uh HE,decide_eq_decide]; omega) | exact (uh HE).symm),al1p _ _⟩
      ·have em:((m:Int) == 0) = false:=by simp; omega
       have HE:Hid (D = false):=hide (by rw [uh HV2]; simp; omega)
       clear HV2
       go_enter Tryz.func205,Tryz.ntmps205
       go_wp2_with fail
       go_ret
       exact ⟨ret_bool (by first | rfl | (rw [uh HE,decide_eq_decide]; omega) | exact (uh HE).symm),al1p _ _⟩
     ·have e5:(wr == 5) = false:=by simp [w5]
      by_cases w2:wr = 2
      ·subst w2
       have HE:Hid (D = (x == 0)):=hide (by rw [uh HV2]; simp)
       clear HV2
       go_enter Tryz.func205,Tryz.ntmps205
       go_wp2_with fail
       go_ret
       exact ⟨ret_bool (by first | rfl | (rw [uh HE,decide_eq_decide]; omega) | exact (uh HE).symm),al1p _ _⟩
      ·have e2:(wr == 2) = false:=by simp [w2]
       have HE:Hid (D = false):=hide (by rw [uh HV2,e0,e1,e5,e2]; simp)
       clear HV2 w0 w1 w5 w2
       go_enter Tryz.func205,Tryz.ntmps205
       go_wp2_with fail
       go_ret
       exact ⟨ret_bool (by first | rfl | (rw [uh HE,decide_eq_decide]; omega) | exact (uh HE).symm),al1p _ _⟩
theorem cwithw_any (v0:Value) (os:List Int) (x:Int) (k:Nat) (w0 w:World) (ho:OwnG 5 (Value.int .u8) w0 w v0 os) (hn:os.length ≤ 1000) (h0:0 ≤ x) (h1:x < 18446744073709551616) (hk:k ≤ 8) :
  Calls Tryz.prog 246 #[v0,.int .u64 x,.int .i64 k] w fun e w' => ∃ v,e = .returned v ∧ OwnG 5 (Value.int .u8) w0 w' v (os ++ fxL x k):=by
 obtain ⟨i1,hi1,y1,z1,b1⟩:=info_parts Tryz.infoU8
 have HO0:=hide ho
 clear ho
 go_enter Tryz.func246,Tryz.ntmps246
 go_wp2_with fail
 go_loopw [0,1,8] (fun v yv jv wr => ∃ j:Nat,∃ y:Int,jv = .int .i64 j ∧ yv = .int .u64 y ∧ j ≤ k ∧ 0 ≤ y ∧ y < 18446744073709551616 ∧ Hid (y = x / 256 ^ j) ∧ Hid (OwnG 5 (Value.int .u8) w0 wr v (os ++ fxL x j))) (fun _ _ jv _ => k - (intOf jv).toNat)
 case atStart => exact ⟨0,x,rfl,rfl,by omega,h0,h1,hide (by simp),hide (by rw [fxL,List.append_nil]; exact uh HO0)⟩
 case round =>
  obtain ⟨j,y,rfl,rfl,hj,v0,v1,HY,O⟩:=hrel
  by_cases hjl:j < k
  ·have hji:(j:Int) < (k:Int):=by omega
   have d0:0 ≤ y / 256:=by omega
   have d1:y / 256 < 18446744073709551616:=by omega
   have hl2:(os ++ fxL x j).length ≤ 1008:=by rw [List.length_append,fxL_length]; omega
   have HS:Hid (os ++ fxL x (j + 1) = (os ++ fxL x j) ++ [y % 256]):=hide (by rw [uh HY,fxL,List.append_assoc])
   have HY2:Hid (y / 256 = x / 256 ^ (j + 1)):=hide (by rw [uh HY,Int.pow_succ,Int.ediv_ediv_of_nonneg (Int.pow_nonneg (by decide))])
   obtain ⟨P,hP⟩:∃ P,os ++ fxL x j = P:=⟨_,rfl⟩
   rw [hP] at O hl2 HS
   clear HY hP
   go_wp2_with (at_builtin; (refine wpList_append_ls rfl _ _ 22 rfl w0 5 i1 (.int .u8 0) 1 Tryz.underlying22 hi1 y1 z1 b1 rfl (int_one .u8) _ P rfl ((uh O).below (al1p _ _)) (some ⟨_,0,none⟩) 1 [y % 256] rfl (ls_one6 _ _ _) (by unfold maxLen; simp only [List.length_singleton]; omega) (by simp only [List.length_singleton]; omega) ?_; intro v2 w2 O2; have HO2:=hide O2; clear O2))
   go_roundw
   case rel => exact ⟨j + 1,y / 256,by go_num,rfl,by omega,d0,d1,HY2,hide (by rw [uh HS]; exact uh HO2)⟩
   case measure => simp [intOf]; omega
  ·have hji:¬ (j:Int) < (k:Int):=by omega
   have ej:j = k:=by omega
   subst ej
   clear HY
   go_wp2_with fail
   go_ret
   exact ⟨_,rfl,uh O⟩
def headB (f:Fld):List Int:=varV (f.1 * 8 + f.2.1) ++ (if f.2.1 = 1 then fxL f.2.2.1 8 else if f.2.1 = 5 then fxL f.2.2.1 4 else if f.2.1 = 2 then varV (f.2.2.2.length:Int) else varV f.2.2.1)
theorem headB_data {f:Fld} (h:mayF f):fieldB f = headB f ++ f.2.2.2:=by
 obtain ⟨n,wi,x,d⟩:=f
 obtain ⟨m1,m2,m3⟩:=h
 simp only at m1 m2 m3
 unfold fieldB headB bodyB
 simp only
 rcases m3 with ⟨h3 | h3,h4⟩ | ⟨h3,h4,_⟩ | ⟨h3,h4⟩
 ·subst h3 h4; simp
 ·subst h3 h4; simp
 ·subst h3 h4; simp
 ·subst h3; simp [List.append_assoc]
theorem headB_len (f:Fld):(headB f).length ≤ 20:=by
 have:=varV_len (f.1 * 8 + f.2.1)
 unfold headB
 rw [List.length_append]
 split
 ·rw [fxL_length]; omega
 ·split
  ·rw [fxL_length]; omega
  ·split
   ·have:=varV_len (f.2.2.2.length:Int); omega
   ·have:=varV_len f.2.2.1; omega
theorem or8 (y x:Int) (h0:0 ≤ y) (x0:0 ≤ x) (x1:x < 8) (hs:y * 8 + x < 18446744073709551616):bits .or .u64 (y * 8) x = y * 8 + x:=by
 have key:(BitVec.ofInt 64 (y * 8) ||| BitVec.ofInt 64 x).toNat = y.toNat * 8 + x.toNat:=by
  rw [BitVec.toNat_or,BitVec.toNat_ofInt,BitVec.toNat_ofInt]
  have e1:((y * 8) % ((2 ^ 64:Nat):Int)).toNat = 2 ^ 3 * y.toNat:=by omega
  have e2:(x % ((2 ^ 64:Nat):Int)).toNat = x.toNat:=by omega
  rw [e1,e2,← Nat.two_pow_add_eq_or_of_lt (by omega)]
  omega
 show IntKind.u64.wrap ((BitVec.ofInt 64 (y * 8) ||| BitVec.ofInt 64 x).toNat:Nat) = y * 8 + x
 rw [key,IntKind.wrap_u64]
 omega
theorem OwnG.early {α:Type} {f:α → Value} {t:TypeId} {w w1 wr:World} {v:Value} {os:List α} (h:OwnG t f w1 wr v os) (hb:Below w.heap.size w w1):OwnG t f w wr v os:=by
 obtain ⟨⟨h1,h2⟩,h3⟩:=h
 refine ⟨⟨h1,?_⟩,bl_tr hb h3⟩
 rcases h2 with g | ⟨g,cap,cur,hv,hg,rest⟩
 ·exact .inl g
 ·exact .inr ⟨g,cap,cur,hv,Nat.le_trans hb.size hg,rest⟩
theorem chead_any (a:FA) (w:World) (h:FaIn w a) (hm:mayF a.f) :
  Calls Tryz.prog 206 #[faV a] w fun e w' => ∃ v,e = .returned v ∧ OwnG 5 (Value.int .u8) w w' v (headB a.f):=by
 obtain ⟨x0,x1'⟩:=u64_range h.2.2.1
 have dl:=h.2.2.2.len
 clear h
 obtain ⟨m1,m2,m3⟩:=hm
 simp only [FA.f] at m1 m2 m3
 have hw4:a.wr = 0 ∨ a.wr = 1 ∨ a.wr = 5 ∨ a.wr = 2:=by omega
 have wb:0 ≤ a.wr ∧ a.wr ≤ 5:=by omega
 obtain ⟨wb0,wb1⟩:=wb
 clear m3
 have hor:=or8 a.n a.wr (by omega) wb0 (by omega) (by omega)
 have zt:0 ≤ a.n * 8 + a.wr:=by omega
 have zu:a.n * 8 + a.wr < 18446744073709551616:=by omega
 have VT:=hide (fun v => cvarint_any (a.n * 8 + a.wr) v zt zu)
 have vl:=(varV_len (a.n * 8 + a.wr)).2
 obtain ⟨V1,hV1⟩:∃ V1,varV (a.n * 8 + a.wr) = V1:=⟨_,rfl⟩
 have HV1:=hide hV1
 rw [hV1] at VT vl
 clear hV1
 unfold faV
 rcases hw4 with hw | hw | hw | hw
 ·have t1:(a.wr == 1) = false:=by simp [hw]
  have t5:(a.wr == 5) = false:=by simp [hw]
  have t2:(a.wr == 2) = false:=by simp [hw]
  have HH:Hid (headB a.f = V1 ++ varV a.x):=hide (by rw [← uh HV1]; unfold headB FA.f; simp [hw])
  have VX:=hide (fun v0 (u:World) hO => cwithv_any v0 V1 a.x (w.alloc (Obj.cells #[.int .i64 a.n,.int .i64 a.wr,.int .u64 a.x,.slice a.q a.d.length a.c] 148)) u hO (by omega) x0 x1')
  clear hw HV1
  go_enter Tryz.func206,Tryz.ntmps206
  go_wp2_with fail
  refine (uh VT _).mono ?_
  rintro e U1 ⟨u1,rfl,hO⟩
  have P1:=hide (hO.below (Below.refl _ _))
  have VX1:=hide (uh VX u1 U1 hO)
  have Y1:=hide (Box.below (Box.new w #[.int .i64 a.n,.int .i64 a.wr,.int .u64 a.x,.slice a.q a.d.length a.c] 148) hO.2)
  have x1:=(uh Y1).cell
  have BA:=hide (al1p w (Obj.cells #[.int .i64 a.n,.int .i64 a.wr,.int .u64 a.x,.slice a.q a.d.length a.c] 148))
  clear hO VX VT
  go_wp2_with fail
  refine (uh VX1).mono ?_
  rintro e U2 ⟨u2,rfl,hO⟩
  have HO:=hide hO
  clear hO VX1 x1
  go_wp2_with fail
  go_ret
  exact ⟨_,rfl,own_eq6 (OwnG.early (uh HO) (uh BA)) (uh HH).symm⟩
 ·have t1:(a.wr == 1) = true:=by simp [hw]
  have HH:Hid (headB a.f = V1 ++ fxL a.x 8):=hide (by rw [← uh HV1]; unfold headB FA.f; simp [hw])
  have VX:=hide (fun v0 (u:World) hO => (cwithw_any v0 V1 a.x 8 (w.alloc (Obj.cells #[.int .i64 a.n,.int .i64 a.wr,.int .u64 a.x,.slice a.q a.d.length a.c] 148)) u hO (by omega) x0 x1' (by omega):Calls Tryz.prog 246 #[v0,.int .u64 a.x,.int .i64 8] u _))
  clear hw HV1
  go_enter Tryz.func206,Tryz.ntmps206
  go_wp2_with fail
  refine (uh VT _).mono ?_
  rintro e U1 ⟨u1,rfl,hO⟩
  have P1:=hide (hO.below (Below.refl _ _))
  have VX1:=hide (uh VX u1 U1 hO)
  have Y1:=hide (Box.below (Box.new w #[.int .i64 a.n,.int .i64 a.wr,.int .u64 a.x,.slice a.q a.d.length a.c] 148) hO.2)
  have x1:=(uh Y1).cell
  have BA:=hide (al1p w (Obj.cells #[.int .i64 a.n,.int .i64 a.wr,.int .u64 a.x,.slice a.q a.d.length a.c] 148))
  clear hO VX VT
  go_wp2_with fail
  refine (uh VX1).mono ?_
  rintro e U2 ⟨u2,rfl,hO⟩
  have HO:=hide hO
  clear hO VX1 x1
  go_wp2_with fail
  go_ret
  exact ⟨_,rfl,own_eq6 (OwnG.early (uh HO) (uh BA)) (uh HH).symm⟩
 ·have t1:(a.wr == 1) = false:=by simp [hw]
  have t5:(a.wr == 5) = true:=by simp [hw]
  have HH:Hid (headB a.f = V1 ++ fxL a.x 4):=hide (by rw [← uh HV1]; unfold headB FA.f; simp [hw])
  have VX:=hide (fun v0 (u:World) hO => (cwithw_any v0 V1 a.x 4 (w.alloc (Obj.cells #[.int .i64 a.n,.int .i64 a.wr,.int .u64 a.x,.slice a.q a.d.length a.c] 148)) u hO (by omega) x0 x1' (by omega):Calls Tryz.prog 246 #[v0,.int .u64 a.x,.int .i64 4] u _))
  clear hw HV1
  go_enter Tryz.func206,Tryz.ntmps206
  go_wp2_with fail
  refine (uh VT _).mono ?_
  rintro e U1 ⟨u1,rfl,hO⟩
  have P1:=hide (hO.below (Below.refl _ _))
  have VX1:=hide (uh VX u1 U1 hO)
  have Y1:=hide (Box.below (Box.new w #[.int .i64 a.n,.int .i64 a.wr,.int .u64 a.x,.slice a.q a.d.length a.c] 148) hO.2)
  have x1:=(uh Y1).cell
  have BA:=hide (al1p w (Obj.cells #[.int .i64 a.n,.int .i64 a.wr,.int .u64 a.x,.slice a.q a.d.length a.c] 148))
  clear hO VX VT
  go_wp2_with fail
  refine (uh VX1).mono ?_
  rintro e U2 ⟨u2,rfl,hO⟩
  have HO:=hide hO
  clear hO VX1 x1
  go_wp2_with fail
  go_ret
  exact ⟨_,rfl,own_eq6 (OwnG.early (uh HO) (uh BA)) (uh HH).symm⟩
 ·have t1:(a.wr == 1) = false:=by simp [hw]
  have t5:(a.wr == 5) = false:=by simp [hw]
  have t2:(a.wr == 2) = true:=by simp [hw]
  have HH:Hid (headB a.f = V1 ++ varV (a.d.length:Int)):=hide (by rw [← uh HV1]; unfold headB FA.f; simp [hw])
  have VX:=hide (fun v0 (u:World) hO => cwithv_any v0 V1 (a.d.length:Int) (w.alloc (Obj.cells #[.int .i64 a.n,.int .i64 a.wr,.int .u64 a.x,.slice a.q a.d.length a.c] 148)) u hO (by omega) (by omega) (by omega))
  clear hw HV1
  go_enter Tryz.func206,Tryz.ntmps206
  go_wp2_with fail
  refine (uh VT _).mono ?_
  rintro e U1 ⟨u1,rfl,hO⟩
  have P1:=hide (hO.below (Below.refl _ _))
  have VX1:=hide (uh VX u1 U1 hO)
  have Y1:=hide (Box.below (Box.new w #[.int .i64 a.n,.int .i64 a.wr,.int .u64 a.x,.slice a.q a.d.length a.c] 148) hO.2)
  have x1:=(uh Y1).cell
  have BA:=hide (al1p w (Obj.cells #[.int .i64 a.n,.int .i64 a.wr,.int .u64 a.x,.slice a.q a.d.length a.c] 148))
  clear hO VX VT
  go_wp2_with fail
  refine (uh VX1).mono ?_
  rintro e U2 ⟨u2,rfl,hO⟩
  have HO:=hide hO
  clear hO VX1 x1
  go_wp2_with fail
  go_ret
  exact ⟨_,rfl,own_eq6 (OwnG.early (uh HO) (uh BA)) (uh HH).symm⟩
theorem step_append_ls {α:Type} [Inhabited α] {f:α → Value} {P:Program} {ops:Array Oper} {o:Oper} {a:Act} {w:World} {K:Act → World → Prop} {Q:Exit → Act → World → Prop} {E:Prop} (hg:o.guard = none) (s x:Operand) (t:TypeId)
  (hop:o.op = Op.call { callee:=Callee.builtin Builtin.append,args:=#[s,x],argTypes:=#[t,t] }) (w0:World) (e:TypeId) (i:TypeInfo) (z:Value) (bytes:Nat)
  (h1:P.underlying t = some (.slice e)) (h2:P.info? e = some i) (h3:i.zero = some z) (h4:i.size = 1) (h5:i.bytes = bytes) (h6:z.cells.size = 1) (hf:∀ y,(f y).oneCell' = true)
  (v:Value) (os:List α) (hs:a.eval s = v) (hown:OwnG e f w0 w v os)
  (p:Option Addr) (c:Nat) (xs:List α) (hx:a.eval x = .slice p xs.length c) (hl:Ls f w p c xs)
  (b1:os.length + xs.length ≤ maxLen) (b2:(os.length + xs.length) * bytes ≤ 140737488355328) (hK:∀ v' w',OwnG e f w0 w' v' (os ++ xs) → w.grownBy w' v.ownBlock → K (a.put o.dst v') w') :
  if Region.wanted o (yielded ops a.tmps) = true then Oper.wp P o a w K Q else E:=by
 have hw:Region.wanted o (yielded ops a.tmps) = true:=by simp [Region.wanted,hg]
 rw [if_pos hw]
 cases p with
 | none =>
   have hx0:xs = []:=by
    rcases Nat.eq_zero_or_pos xs.length with g | g
    ·exact List.eq_nil_of_length_eq_zero g
    ·obtain ⟨b,o,e,_⟩:=hl.lies g; cases e
   subst hx0
   have hc0:c = 0:=hl.2.2.2 rfl
   subst hc0
   have hrun:=run_append_owned_none (P:=P) (w:=w) w0.heap.size t o.type e i 1 h1 h2 v _ _ hown.1
   unfold Oper.wp
   simp only [List.length_nil] at hx
   simp [execOp,hop,resolve,invoke,builtin,hs,hx,hrun,Result.andThen]
   refine hK v w ?_ ⟨rfl,rfl,rfl,Nat.le_refl _,fun _ _ _ => rfl⟩
   rw [List.append_nil]; exact hown
 | some ad =>
   obtain ⟨v',w',hrun,r1,r2,_⟩:=run_append_own (P:=P) w w0.heap.size t o.type e i z 1 bytes h1 h2 h3 h4 h5 h6 (by decide) v os.length (os.map f) hown.1 ad xs.length c (xs.map f) (by simp) (ls_cells hl) (fun u hu => by obtain ⟨y,_,rfl⟩:=List.mem_map.1 hu; exact hf y) b1 b2 hown.2.size
   unfold Oper.wp
   simp [execOp,hop,resolve,invoke,builtin,hs,hx,hrun,Result.andThen]
   refine hK v' w' ⟨by rw [List.length_append,List.map_append]; exact r1,?_⟩ r2
   exact hown.2.grown r2 hown.2.size (fun k hk => (hown.1.lt k hk).1)
theorem cwrite_any (p:Option Addr) (c:Nat) (l:List FA) (w:World) (h:Fls w p c l) (hd:∀ a ∈ l,a.d.length ≤ 140737488355328) :
  Calls Tryz.prog 149 #[.slice p l.length c] w fun e w' => ∃ v,e = .returned (.tuple #[v,.int .i64 (writeV (l.map FA.f)).2]) ∧ OwnG 5 (Value.int .u8) w w' v (writeV (l.map FA.f)).1:=by
 obtain ⟨i1,hi1,y1,z1,b1⟩:=info_parts Tryz.infoU8
 have A1:=hide h.1
 have AI:=hide h.2
 have AD:=hide hd
 have nl:=h.1.len
 have HV:Hid (∀ R,writeV (l.map FA.f) = R → R = if (l.map FA.f).all mayB = false then ([],1) else if 4194304 < (msgB (l.map FA.f)).length then ([],8) else (msgB (l.map FA.f),0)):=hide (fun R hR => by rw [← hR]; rfl)
 generalize hR:writeV (l.map FA.f) = R
 replace HV:=hide (uh HV R hR)
 clear hR h hd
 obtain ⟨R1,R2⟩:=R
 simp only
 go_enter Tryz.func149,Tryz.ntmps149
 go_wp2_with fail
 go_loopw [12] (fun iv wr => ∃ n:Nat,iv = .int .i64 n ∧ n ≤ l.length ∧ Hid (∀ i,i < n → mayB (l.getD i noFA).f = true) ∧ Hid (Below w.heap.size w wr)) (fun iv _ => l.length - (intOf iv).toNat)
 case atStart => exact ⟨0,rfl,by omega,hide (fun i hi => by omega),hide (Below.refl _ _)⟩
 case round =>
  obtain ⟨n,rfl,hn,HM,HB⟩:=hrel
  by_cases hlt:n < l.length
  ·have hi:(n:Int) < (l.length:Int):=by omega
   obtain ⟨b,o,rfl,hb,k0,k1,k2,k3⟩:=((uh A1).below (uh HB)).at hlt
   have MY:=hide (fun v hv => cmay_any (l.getD n noFA) v ((uh AI _ (getD_memF hlt)).below (bl_tr (uh HB) hv)))
   have HM2:Hid (mayB (l.getD n noFA).f = true → ∀ i,i < n + 1 → mayB (l.getD i noFA).f = true):=hide (fun hh i hi => by
    by_cases e:i = n
    ·subst e; exact hh
    ·exact uh HM i (by omega))
   have HN2:Hid (mayB (l.getD n noFA).f = false → (l.map FA.f).all mayB = false):=hide (fun hh => by
    rw [List.all_eq_false]
    exact ⟨_,List.mem_map.2 ⟨_,getD_memF hlt,rfl⟩,by rw [hh]; decide⟩)
   generalize mayB (l.getD n noFA).f = D at MY HM2 HN2
   generalize l.getD n noFA = a at k0 k1 k2 k3 MY
   unfold faV at MY
   cases D
   ·have HE:Hid (R1 = [] ∧ R2 = 1):=hide (by have:=uh HV; rw [if_pos (uh HN2 rfl)] at this; simpa using this)
    go_wp2_with fail
    refine (uh MY _ (al1p _ _)).mono ?_
    rintro e w1 ⟨rfl,hb1⟩
    have BB:=hide (bl_tr (uh HB) (bl_tr (al1p _ _) hb1))
    clear hb1
    go_wp2_with fail
    go_ret2
    obtain ⟨g1,g2⟩:=uh HE
    subst g1 g2
    exact ⟨_,rfl,OwnG.nil _ _ _ (uh BB)⟩
   ·have HM3:=hide (uh HM2 rfl)
    go_wp2_with fail
    refine (uh MY _ (al1p _ _)).mono ?_
    rintro e w1 ⟨rfl,hb1⟩
    have BB:=hide (bl_tr (uh HB) (bl_tr (al1p _ _) hb1))
    clear hb1
    go_wp2_with fail
    go_roundw
    case rel => exact ⟨n + 1,by go_num,by omega,HM3,BB⟩
    case measure => simp [intOf]; omega
  ·have hi:¬ (n:Int) < (l.length:Int):=by omega
   have HALL:Hid (∀ i,i < l.length → mayF (l.getD i noFA).f):=hide (fun i hi => (mayB_iff _).1 (uh HM i (by omega)))
   have HV2:Hid ((R1,R2) = if 4194304 < (msgB (l.map FA.f)).length then ([],8) else (msgB (l.map FA.f),0)):=hide (by
    have h1:¬ (l.map FA.f).all mayB = false:=by
     have:(l.map FA.f).all mayB = true:=List.all_eq_true.2 (fun f hf => by
      obtain ⟨a,ha,rfl⟩:=List.mem_map.1 hf
      obtain ⟨i,hi,rfl⟩:=List.getElem_of_mem ha
      have:=uh HM i (by omega)
      rw [List.getD_eq_getElem?_getD,List.getElem?_eq_getElem hi] at this
      exact this)
     rw [this]; decide
    have:=uh HV
    rw [if_neg h1] at this
    exact this)
   clear HV HM
   go_wp2_with fail
   go_loopw [6,22] (fun v iv wr => ∃ n:Nat,iv = .int .i64 n ∧ n ≤ l.length ∧ (mpre l n).length ≤ 4194304 ∧ Hid (OwnG 5 (Value.int .u8) w wr v (mpre l n))) (fun _ iv _ => l.length - (intOf iv).toNat)
   case atStart => exact ⟨0,rfl,by omega,by simp [mpre,msgB],hide (OwnG.nil _ _ _ (uh HB))⟩
   case round =>
    obtain ⟨n,rfl,hn,hml,O⟩:=hrel
    by_cases hlt:n < l.length
    ·have hi:(n:Int) < (l.length:Int):=by omega
     obtain ⟨b,o,rfl,hb,k0,k1,k2,k3⟩:=((uh A1).below (uh O).2).at hlt
     have HF:=hide (msg_step hlt)
     have HI:=hide (uh AI _ (getD_memF hlt))
     have HH:=hide (headB_data (uh HALL n hlt))
     have hhl:=headB_len (l.getD n noFA).f
     have hdl:=uh AD _ (getD_memF hlt)
     have HD:=hide (fun v hv => chead_any (l.getD n noFA) v ((uh AI _ (getD_memF hlt)).below (bl_tr (uh O).2 hv)) (uh HALL n hlt))
     generalize l.getD n noFA = a at k0 k1 k2 k3 HF HI HH hhl hdl HD
     obtain ⟨P,hP⟩:∃ P,mpre l n = P:=⟨_,rfl⟩
     obtain ⟨H,hH⟩:∃ H,headB a.f = H:=⟨_,rfl⟩
     rw [hH] at hhl HD HH
     have HFE:Hid (mpre l (n + 1) = P ++ H ++ a.d):=hide (by rw [← hP,uh HF,uh HH,List.append_assoc]; rfl)
     rw [hP] at hml O
     clear HF hP hH HH
     obtain ⟨v0,hv0⟩:∃ v0,v0 = u6:=⟨_,rfl⟩
     obtain ⟨q0,c0,e0,_,_⟩:=(uh O).form
     subst e0
     unfold faV at HD
     have lmt:(mpre l (n + 1)).length = P.length + H.length + a.d.length:=by rw [uh HFE]; simp only [List.length_append]
     by_cases hbig:4194304 < P.length + H.length + a.d.length
     ·have hbi:(4194304:Int) < (P.length:Int) + (H.length:Int) + (a.d.length:Int):=by omega
      have HE:Hid (R1 = [] ∧ R2 = 8):=hide (by
       have h1:=msg_take (l:=l) (n + 1)
       have:=uh HV2
       rw [if_pos (by omega)] at this
       simpa using this)
      clear lmt
      go_wp2_with fail
      refine (uh HD _ (al1p _ _)).mono ?_
      rintro e U1 ⟨u1,rfl,hO⟩
      obtain ⟨q1,c1,rfl,hL,_⟩:=hO.form
      have BB:=hide (bl_tr (uh O).2 (bl_tr (al1p _ _) hO.2))
      have Y1:=hide ((Box.new wr #[.int .i64 a.n,.int .i64 a.wr,.int .u64 a.x,.slice a.q a.d.length a.c] 148).below hO.2)
      have x1:=(uh Y1).cell
      clear hO hL
      go_wp2_with fail
      go_ret2
      obtain ⟨g1,g2⟩:=uh HE
      subst g1 g2
      exact ⟨_,rfl,OwnG.nil _ _ _ (uh BB)⟩
     ·have hbi:¬ (4194304:Int) < (P.length:Int) + (H.length:Int) + (a.d.length:Int):=by omega
      have hml2:(mpre l (n + 1)).length ≤ 4194304:=by omega
      have HML:=hide hml2
      clear lmt hml2
      go_wp2_with fail
      refine (uh HD _ (al1p _ _)).mono ?_
      rintro e U1 ⟨u1,rfl,hO⟩
      obtain ⟨q1,c1,rfl,hL,_⟩:=hO.form
      have L1:=hide (hL.below (bdrewp _))
      have P1:=hide ((uh O).below (bl_tr (bl_tr (al1p _ _) hO.2) (bdrewp _)))
      have Y1:=hide (((Box.new wr #[.int .i64 a.n,.int .i64 a.wr,.int .u64 a.x,.slice a.q a.d.length a.c] 148).below hO.2))
      have Y2:=hide ((uh Y1).below (bdrewp _))
      have x1:=(uh Y1).cell
      have DB1:=hide (uh Y2).cell
      have LD:=hide (fun (v:World) (hv:Below w.heap.size w v) => ((uh HI).below hv).2.2.2.ls)
      clear hO hL
      go_wp2_with fail
      go_region_held3 (fun v => ∀ j,v.cell? ⟨wr.heap.size,j,none⟩ = #[.int .i64 a.n,.int .i64 a.wr,.int .u64 a.x,.slice a.q a.d.length a.c][j]?) (first | with_reducible exact uh DB3 | with_reducible exact uh DB2 | with_reducible exact uh DB1)
       (first
        | (refine step_append_ls rfl (.tmp 40) (.tmp 42) 22 rfl w 5 i1 (.int .u8 0) 1 Tryz.underlying22 hi1 y1 z1 b1 rfl (int_one .u8) _ (P ++ H) (by simp [Act.eval]) (uh OH2) a.q a.c a.d (by simp [Act.eval]) (uh LD2) (by unfold maxLen; rw [List.length_append]; omega) (by rw [List.length_append]; omega) ?_; intro v3 w3 O3 G3; have HO3:=hide O3; have DB3:=hide ((uh Y3).grown (uh OH2) (by decide) G3).cell; clear O3 G3)
        | (refine step_append_ls rfl (.tmp 38) (.tmp 39) 22 rfl w 5 i1 (.int .u8 0) 1 Tryz.underlying22 hi1 y1 z1 b1 rfl (int_one .u8) _ P (by simp [Act.eval]) (uh P1) q1 c1 H (by simp [Act.eval]) (uh L1) (by unfold maxLen; omega) (by omega) ?_; intro v2 w2 O2 G2; have OH2:=hide O2; have Y3:=hide ((uh Y2).grown (uh P1) (by decide) G2); have DB2:=hide (uh Y3).cell; have LD2:=hide (uh LD _ O2.2); clear O2 G2))
      go_wp2_with fail
      go_roundw
      case rel => exact ⟨n + 1,by go_num,by omega,uh HML,hide (own_eq6 (uh HO3) (uh HFE).symm)⟩
      case measure => simp [intOf]; omega
    ·have hi:¬ (n:Int) < (l.length:Int):=by omega
     have HE:Hid (R1 = mpre l n ∧ R2 = 0):=hide (by
      have e:=msg_all (l:=l) (n:=n) (by omega)
      have:=uh HV2
      rw [← e,if_neg (by omega)] at this
      simpa using this)
     go_wp2_with fail
     go_ret2
     obtain ⟨g1,g2⟩:=uh HE
     subst g1 g2
     exact ⟨_,rfl,uh O⟩
end Go.Proofs.YtmdlaahdgjegcaaGreat
