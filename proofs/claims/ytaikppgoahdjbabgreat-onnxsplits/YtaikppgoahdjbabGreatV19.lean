import Derived.Laws.BytesArg
import Derived.Lib.SlBytesConst
import Derived.Test.YtaikppgoahdjbabGreatV03
import Derived.Test.YtaikppgoahdjbabGreatV14
import Derived.Test.YtaikppgoahdjbabGreatV16
import Derived.Test.YtaikppgoahdjbabGreatV17
import Derived.Test.YtaikppgoahdjbabGreatV18
set_option maxRecDepth 100000
set_option maxHeartbeats 8000000
namespace Go.Proofs.YtaikppgoahdjbabGreat
open Go.RowKit
set_option linter.unusedVariables false
theorem step_append_ls {α:Type} [Inhabited α] {f:α → Value} {P:Program} {ops:Array Oper} {o:Oper} {a:Act} {w:World} {K:Act → World → Prop} {Q:Exit → Act → World → Prop} {E:Prop} (hg:o.guard = none) (s x:Operand) (t:TypeId)
  (hop:o.op = Op.call { callee:=Callee.builtin Builtin.append,args:=#[s,x],argTypes:=#[t,t] }) (w0:World) (e:TypeId) (i:TypeInfo) (z:Value) (bytes:Nat)
  (h1:P.underlying t = some (.slice e)) (h2:P.info? e = some i) (h3:i.zero = some z) (h4:i.size = 1) (h5:i.bytes = bytes) (h6:z.cells.size = 1) (hf:∀ y,(f y).oneCell' = true)
  (v:Value) (os:List α) (hs:a.eval s = v) (hown:OwnG e f w0 w v os)
  (p:Option Addr) (c:Nat) (xs:List α) (hx:a.eval x = .slice p xs.length c) (hl:Ls f w p c xs)
  (b1:os.length + xs.length ≤ maxLen) (b2:(os.length + xs.length) * bytes ≤ 140737488355328) (hK:∀ v' w',OwnG e f w0 w' v' (os ++ xs) → w.grownBy w' v.ownBlock → K (a.put o.dst v') w') :
  if Region.wanted o (yielded ops a.tmps) = true then Oper.wp P o a w K Q else E:=by
 have hw:Region.wanted o (yielded ops a.tmps) = true:=by simp [Region.wanted,hg]
 rw [if_pos hw]
 cases p with
 | none =>
   have hx0:xs = []:=by
    rcases Nat.eq_zero_or_pos xs.length with g | g
    ·exact List.eq_nil_of_length_eq_zero g
    ·obtain ⟨b,o,e,_⟩:=hl.lies g; cases e
   subst hx0
   have hc0:c = 0:=hl.2.2.2 rfl
   subst hc0
   have hrun:=run_append_owned_none (P:=P) (w:=w) w0.heap.size t o.type e i 1 h1 h2 v _ _ hown.1
   unfold Oper.wp
   simp only [List.length_nil] at hx
   simp [execOp,hop,resolve,invoke,builtin,hs,hx,hrun,Result.andThen]
   refine hK v w ?_ ⟨rfl,rfl,rfl,Nat.le_refl _,fun _ _ _ => rfl⟩
   rw [List.append_nil]; exact hown
 | some ad =>
   obtain ⟨v',w',hrun,r1,r2,_⟩:=run_append_own (P:=P) w w0.heap.size t o.type e i z 1 bytes h1 h2 h3 h4 h5 h6 (by decide) v os.length (os.map f) hown.1 ad xs.length c (xs.map f) (by simp) (ls_cells hl) (fun u hu => by obtain ⟨y,_,rfl⟩:=List.mem_map.1 hu; exact hf y) b1 b2 hown.2.size
   unfold Oper.wp
   simp [execOp,hop,resolve,invoke,builtin,hs,hx,hrun,Result.andThen]
   refine hK v' w' ⟨by rw [List.length_append,List.map_append]; exact r1,?_⟩ r2
   exact hown.2.grown r2 hown.2.size (fun k hk => (hown.1.lt k hk).1)
theorem cwrite_any (p:Option Addr) (c:Nat) (l:List FA) (w:World) (h:Fls w p c l) (hd:∀ a ∈ l,a.d.length ≤ 140737488355328) :
  Calls Tryz.prog 70 #[.slice p l.length c] w fun e w' => ∃ v,e = .returned (.tuple #[v,.int .i64 (writeV (l.map FA.f)).2]) ∧ OwnG 5 (Value.int .u8) w w' v (writeV (l.map FA.f)).1:=by
 obtain ⟨i1,hi1,y1,z1,b1⟩:=info_parts Tryz.infoU8
 have A1:=hide h.1
 have AI:=hide h.2
 have AD:=hide hd
 have nl:=h.1.len
 have HV:Hid (∀ R,writeV (l.map FA.f) = R → R = if (l.map FA.f).all mayB = false then ([],1) else if 4194304 < (msgB (l.map FA.f)).length then ([],8) else (msgB (l.map FA.f),0)):=hide (fun R hR => by rw [← hR]; rfl)
 generalize hR:writeV (l.map FA.f) = R
 replace HV:=hide (uh HV R hR)
 clear hR h hd
 obtain ⟨R1,R2⟩:=R
 simp only
 go_enter Tryz.func70,Tryz.ntmps70
 go_wp2_with fail
 go_loopw [12] (fun iv wr => ∃ n:Nat,iv = .int .i64 n ∧ n ≤ l.length ∧ Hid (∀ i,i < n → mayB (l.getD i noFA).f = true) ∧ Hid (Below w.heap.size w wr)) (fun iv _ => l.length - (intOf iv).toNat)
 case atStart => exact ⟨0,rfl,by omega,hide (fun i hi => by omega),hide (Below.refl _ _)⟩
 case round =>
  obtain ⟨n,rfl,hn,HM,HB⟩:=hrel
  by_cases hlt:n < l.length
  ·have hi:(n:Int) < (l.length:Int):=by omega
   obtain ⟨b,o,rfl,hb,k0,k1,k2,k3⟩:=((uh A1).below (uh HB)).at hlt
   have MY:=hide (fun v hv => cmay_any (l.getD n noFA) v ((uh AI _ (getD_memF hlt)).below (bl_tr (uh HB) hv)))
   have HM2:Hid (mayB (l.getD n noFA).f = true → ∀ i,i < n + 1 → mayB (l.getD i noFA).f = true):=hide (fun hh i hi => by
    by_cases e:i = n
    ·subst e; exact hh
    ·exact uh HM i (by omega))
   have HN2:Hid (mayB (l.getD n noFA).f = false → (l.map FA.f).all mayB = false):=hide (fun hh => by
    rw [List.all_eq_false]
    exact ⟨_,List.mem_map.2 ⟨_,getD_memF hlt,rfl⟩,by rw [hh]; decide⟩)
   generalize mayB (l.getD n noFA).f = D at MY HM2 HN2
   generalize l.getD n noFA = a at k0 k1 k2 k3 MY
   unfold faV at MY
   cases D
   ·have HE:Hid (R1 = [] ∧ R2 = 1):=hide (by have:=uh HV; rw [if_pos (uh HN2 rfl)] at this; simpa using this)
    go_wp2_with fail
    refine (uh MY _ (al1p _ _)).mono ?_
    rintro e w1 ⟨rfl,hb1⟩
    have BB:=hide (bl_tr (uh HB) (bl_tr (al1p _ _) hb1))
    clear hb1
    go_wp2_with fail
    go_ret2
    obtain ⟨g1,g2⟩:=uh HE
    subst g1 g2
    exact ⟨_,rfl,OwnG.nil _ _ _ (uh BB)⟩
   ·have HM3:=hide (uh HM2 rfl)
    go_wp2_with fail
    refine (uh MY _ (al1p _ _)).mono ?_
    rintro e w1 ⟨rfl,hb1⟩
    have BB:=hide (bl_tr (uh HB) (bl_tr (al1p _ _) hb1))
    clear hb1
    go_wp2_with fail
    go_roundw
    case rel => exact ⟨n + 1,by go_num,by omega,HM3,BB⟩
    case measure => simp [intOf]; omega
  ·have hi:¬ (n:Int) < (l.length:Int):=by omega
   have HALL:Hid (∀ i,i < l.length → mayF (l.getD i noFA).f):=hide (fun i hi => (mayB_iff _).1 (uh HM i (by omega)))
   have HV2:Hid ((R1,R2) = if 4194304 < (msgB (l.map FA.f)).length then ([],8) else (msgB (l.map FA.f),0)):=hide (by
    have h1:¬ (l.map FA.f).all mayB = false:=by
     have:(l.map FA.f).all mayB = true:=List.all_eq_true.2 (fun f hf => by
      obtain ⟨a,ha,rfl⟩:=List.mem_map.1 hf
      obtain ⟨i,hi,rfl⟩:=List.getElem_of_mem ha
      have:=uh HM i (by omega)
      rw [List.getD_eq_getElem?_getD,List.getElem?_eq_getElem hi] at this
      exact this)
     rw [this]; decide
    have:=uh HV
    rw [if_neg h1] at this
    exact this)
   clear HV HM
   go_wp2_with fail
   go_loopw [6,22] (fun v iv wr => ∃ n:Nat,iv = .int .i64 n ∧ n ≤ l.length ∧ (mpre l n).length ≤ 4194304 ∧ Hid (OwnG 5 (Value.int .u8) w wr v (mpre l n))) (fun _ iv _ => l.length - (intOf iv).toNat)
   case atStart => exact ⟨0,rfl,by omega,by simp [mpre,msgB],hide (OwnG.nil _ _ _ (uh HB))⟩
   case round =>
    obtain ⟨n,rfl,hn,hml,O⟩:=hrel
    by_cases hlt:n < l.length
    ·have hi:(n:Int) < (l.length:Int):=by omega
     obtain ⟨b,o,rfl,hb,k0,k1,k2,k3⟩:=((uh A1).below (uh O).2).at hlt
     have HF:=hide (msg_step hlt)
     have HI:=hide (uh AI _ (getD_memF hlt))
     have HH:=hide (headB_data (uh HALL n hlt))
     have hhl:=headB_len (l.getD n noFA).f
     have hdl:=uh AD _ (getD_memF hlt)
     have HD:=hide (fun v hv => chead_any (l.getD n noFA) v ((uh AI _ (getD_memF hlt)).below (bl_tr (uh O).2 hv)) (uh HALL n hlt))
     generalize l.getD n noFA = a at k0 k1 k2 k3 HF HI HH hhl hdl HD
     obtain ⟨P,hP⟩:∃ P,mpre l n = P:=⟨_,rfl⟩
     obtain ⟨H,hH⟩:∃ H,headB a.f = H:=⟨_,rfl⟩
     rw [hH] at hhl HD HH
     have HFE:Hid (mpre l (n + 1) = P ++ H ++ a.d):=hide (by rw [← hP,uh HF,uh HH,List.append_assoc]; rfl)
     rw [hP] at hml O
     clear HF hP hH HH
     obtain ⟨v0,hv0⟩:∃ v0,v0 = u6:=⟨_,rfl⟩
     obtain ⟨q0,c0,e0,_,_⟩:=(uh O).form
     subst e0
     unfold faV at HD
     have lmt:(mpre l (n + 1)).length = P.length + H.length + a.d.length:=by rw [uh HFE]; simp only [List.length_append]
     by_cases hbig:4194304 < P.length + H.length + a.d.length
     ·have hbi:(4194304:Int) < (P.length:Int) + (H.length:Int) + (a.d.length:Int):=by omega
      have HE:Hid (R1 = [] ∧ R2 = 8):=hide (by
       have h1:=msg_take (l:=l) (n + 1)
       have:=uh HV2
       rw [if_pos (by omega)] at this
       simpa using this)
      clear lmt
      go_wp2_with fail
      refine (uh HD _ (al1p _ _)).mono ?_
      rintro e U1 ⟨u1,rfl,hO⟩
      obtain ⟨q1,c1,rfl,hL,_⟩:=hO.form
      have BB:=hide (bl_tr (uh O).2 (bl_tr (al1p _ _) hO.2))
      have Y1:=hide ((Box.new wr #[.int .i64 a.n,.int .i64 a.wr,.int .u64 a.x,.slice a.q a.d.length a.c] 91).below hO.2)
      have x1:=(uh Y1).cell
      clear hO hL
      go_wp2_with fail
      go_ret2
      obtain ⟨g1,g2⟩:=uh HE
      subst g1 g2
      exact ⟨_,rfl,OwnG.nil _ _ _ (uh BB)⟩
     ·have hbi:¬ (4194304:Int) < (P.length:Int) + (H.length:Int) + (a.d.length:Int):=by omega
      have hml2:(mpre l (n + 1)).length ≤ 4194304:=by omega
      have HML:=hide hml2
      clear lmt hml2
      go_wp2_with fail
      refine (uh HD _ (al1p _ _)).mono ?_
      rintro e U1 ⟨u1,rfl,hO⟩
      obtain ⟨q1,c1,rfl,hL,_⟩:=hO.form
      have L1:=hide (hL.below (bdrewp _))
      have P1:=hide ((uh O).below (bl_tr (bl_tr (al1p _ _) hO.2) (bdrewp _)))
      have Y1:=hide (((Box.new wr #[.int .i64 a.n,.int .i64 a.wr,.int .u64 a.x,.slice a.q a.d.length a.c] 91).below hO.2))
      have Y2:=hide ((uh Y1).below (bdrewp _))
      have x1:=(uh Y1).cell
      have DB1:=hide (uh Y2).cell
      have LD:=hide (fun (v:World) (hv:Below w.heap.size w v) => ((uh HI).below hv).2.2.2.ls)
      clear hO hL
      go_wp2_with fail
      go_region_held3 (fun v => ∀ j,v.cell? ⟨wr.heap.size,j,none⟩ = #[.int .i64 a.n,.int .i64 a.wr,.int .u64 a.x,.slice a.q a.d.length a.c][j]?) (first | with_reducible exact uh DB3 | with_reducible exact uh DB2 | with_reducible exact uh DB1)
       (first
        | (refine step_append_ls rfl (.tmp 40) (.tmp 42) 28 rfl w 5 i1 (.int .u8 0) 1 Tryz.underlying28 hi1 y1 z1 b1 rfl (int_one .u8) _ (P ++ H) (by simp [Act.eval]) (uh OH2) a.q a.c a.d (by simp [Act.eval]) (uh LD2) (by unfold maxLen; rw [List.length_append]; omega) (by rw [List.length_append]; omega) ?_; intro v3 w3 O3 G3; have HO3:=hide O3; have DB3:=hide ((uh Y3).grown (uh OH2) (by decide) G3).cell; clear O3 G3)
        | (refine step_append_ls rfl (.tmp 38) (.tmp 39) 28 rfl w 5 i1 (.int .u8 0) 1 Tryz.underlying28 hi1 y1 z1 b1 rfl (int_one .u8) _ P (by simp [Act.eval]) (uh P1) q1 c1 H (by simp [Act.eval]) (uh L1) (by unfold maxLen; omega) (by omega) ?_; intro v2 w2 O2 G2; have OH2:=hide O2; have Y3:=hide ((uh Y2).grown (uh P1) (by decide) G2); have DB2:=hide (uh Y3).cell; have LD2:=hide (uh LD _ O2.2); clear O2 G2))
      go_wp2_with fail
      go_roundw
      case rel => exact ⟨n + 1,by go_num,by omega,uh HML,hide (own_eq6 (uh HO3) (uh HFE).symm)⟩
      case measure => simp [intOf]; omega
    ·have hi:¬ (n:Int) < (l.length:Int):=by omega
     have HE:Hid (R1 = mpre l n ∧ R2 = 0):=hide (by
      have e:=msg_all (l:=l) (n:=n) (by omega)
      have:=uh HV2
      rw [← e,if_neg (by omega)] at this
      simpa using this)
     go_wp2_with fail
     go_ret2
     obtain ⟨g1,g2⟩:=uh HE
     subst g1 g2
     exact ⟨_,rfl,uh O⟩
theorem varsF_len:∀ (n:Nat) (r xs:List Int),varsF n r = some xs → xs.length ≤ r.length
 | 0,r,xs,h => by
   unfold varsF at h
   first
    | (simp only [Option.some.injEq] at h; subst h; simp)
    | (split at h <;> first | (simp only [Option.some.injEq] at h; subst h; simp) | cases h)
 | n + 1,r,xs,h => by
   unfold varsF at h
   split at h
   ·simp only [Option.some.injEq] at h; subst h; simp
   ·cases hg:rdG 10 r with
    | none => rw [hg] at h; cases h
    | some y =>
      rw [hg] at h
      simp only at h
      obtain ⟨c1,c2,c3⟩:=rdG_count 10 r y.1 y.2 hg
      cases hv:varsF n (r.drop y.2) with
      | none => rw [hv] at h; cases h
      | some zs =>
        rw [hv] at h
        simp only [Option.map_some,Option.some.injEq] at h
        subst h
        have:=varsF_len n _ zs hv
        simp at this ⊢
        omega
theorem varsL_len {r xs:List Int} (h:varsL r = some xs):xs.length ≤ r.length:=varsF_len _ r xs h
theorem ls_one62 {f:Int → Value} (w:World) (o:Obj) (x:Int) (t:TypeId):Ls f ((w.alloc o).alloc (.cells #[f x] t)) (some ⟨w.heap.size + 1,0,none⟩) 1 [x]:=by
 have:=ls_one6 (f:=f) (w.alloc o) x t
 rw [alloc_size6] at this
 exact this
theorem ls_two64 (w:World) (x y:Int) (t:TypeId):Ls (Value.int .i64) (w.alloc (.cells #[.int .i64 x,.int .i64 y] t)) (some ⟨w.heap.size,0,none⟩) 2 [x,y]:=ls_two w x y t
theorem okW_cnumV_any {A:List FA} (h:okW [0,2] A = false):allOr int1 (A.map FA.f) = none:=by
 unfold okW at h
 rw [List.all_eq_false] at h
 obtain ⟨a,ha,hn⟩:=h
 have h1:¬ a.wr = 0 ∧ ¬ a.wr = 2:=by simp at hn; exact hn
 exact allOr_mem_none (List.mem_map.2 ⟨a,ha,rfl⟩) (int1_no h1.1 h1.2)
theorem cnumV_any (p:Option Addr) (c:Nat) (l:List FA) (num:Int) (w:World) (h:Fls w p c l) (hs:l.length * 48 ≤ 140737488355328) (hd:(sumD l + l.length) * 8 ≤ 140737488355328) :
  Calls Tryz.prog 194 #[.slice p l.length c,.int .i64 num,.int .i64 0,.func (.func 154) #[] #[]] w fun e w' => ∃ v,e = .returned (.tuple #[v,.int .i64 (listV int1 (l.map FA.f) num).2]) ∧ OwnG 61 (Value.int .u64) w w' v (listV int1 (l.map FA.f) num).1:=by
 obtain ⟨i1,hi1,y1,z1,b1⟩:=info_parts Tryz.infoU64
 have SD:=hide (fun v (hv:Below w.heap.size w v) q d hq => csaid_any p q c d l num [0,2] v (h.below hv) hq hs)
 have nl:=h.1.len
 have hal:(allA l num).length ≤ l.length:=List.length_filter_le _ _
 have hsd:=sumD_all l num
 have AI:=hide (allA_in (num:=num) h.2)
 have HV:Hid (listV int1 (l.map FA.f) num = match allOr int1 ((allA l num).map FA.f) with
   | none => ([],6)
   | some x => (x,0)):=hide (by unfold listV; rw [← allA_f]; cases allOr int1 ((allA l num).map FA.f) <;> rfl)
 generalize hR:listV int1 (l.map FA.f) num = R at HV ⊢
 clear hR h
 obtain ⟨R1,R2⟩:=R
 simp only at HV ⊢
 generalize hL:allA l num = A at SD HV hal hsd AI
 clear hL
 have SD1:Hid (Calls Tryz.prog 135 #[.slice p l.length c,.int .i64 num,.slice (some ⟨w.heap.size,0,none⟩) 2 2] (w.alloc (Obj.cells #[.int .i64 0,.int .i64 2] 3)) fun e w' => ∃ v,e = .returned (.tuple #[v,.int .i64 (if okW [0,2] A then 0 else 6)]) ∧ OwnF 91 (w.alloc (Obj.cells #[.int .i64 0,.int .i64 2] 3)) w' v (if okW [0,2] A then A else [])):=hide (uh SD _ (al1p _ _) _ _ (ls_two64 w 0 2 3))
 clear SD
 cases hok:okW [0,2] A with
 | false =>
   have HE:Hid (R1 = [] ∧ R2 = 6):=hide (by have:=uh HV; rw [okW_cnumV_any hok] at this; simpa using this)
   rw [hok] at SD1
   simp only [Bool.false_eq_true,if_false] at SD1
   clear hok HV
   go_enter Tryz.func194,Tryz.ntmps194
   go_wp2_with fail
   refine (uh SD1).mono ?_
   rintro e w1 ⟨v1,rfl,hO⟩
   have B1:=hide (bl_tr (al1p _ _) hO.2)
   clear hO SD1
   go_wp2_with fail
   go_ret2
   obtain ⟨g1,g2⟩:=uh HE
   subst g1 g2
   exact ⟨_,rfl,OwnG.nil _ _ _ (uh B1)⟩
 | true =>
   have HOK:Hid (∀ a ∈ A,a.wr = 0 ∨ a.wr = 2):=hide (fun a ha => by
    unfold okW at hok
    have:=List.all_eq_true.1 hok a ha
    simp at this
    exact this)
   rw [hok] at SD1
   simp only [if_true] at SD1
   clear hok
   go_enter Tryz.func194,Tryz.ntmps194
   go_wp2_with fail
   refine (uh SD1).mono ?_
   rintro e w1 ⟨v1,rfl,hO⟩
   obtain ⟨q1,d1,rfl,hc,_⟩:=hO.form
   have C1:=hide hc
   have B1:=hide (bl_tr (al1p _ _) hO.2)
   clear hc hO SD1
   go_wp2_with fail
   go_loopw [12,30] (fun v iv wr => ∃ n:Nat,∃ xs:List Int,iv = .int .i64 n ∧ n ≤ A.length ∧ xs.length ≤ sumD (A.take n) + n ∧ Hid (allOr int1 ((A.take n).map FA.f) = some xs) ∧ Hid (OwnG 61 (Value.int .u64) w1 wr v xs)) (fun _ iv _ => A.length - (intOf iv).toNat)
   case atStart => exact ⟨0,[],rfl,by omega,by simp,hide rfl,hide (OwnG.nil _ _ _ (Below.refl _ _))⟩
   case round =>
    obtain ⟨n,xs,rfl,hn,hxl,HX,O⟩:=hrel
    by_cases hlt:n < A.length
    ·have hi:(n:Int) < (A.length:Int):=by omega
     obtain ⟨b,o,rfl,hb,k0,k1,k2,k3⟩:=((uh C1).below (uh O).2).at hlt
     have HA:=hide (allOr_one int1 A n hlt xs (uh HX))
     have HI:=hide ((uh AI _ (getD_memF hlt)).below (bl_tr (uh B1) (uh O).2))
     have hsz:sumD (A.take (n + 1)) = sumD (A.take n) + (A.getD n noFA).d.length:=by
      rw [take_addF A n hlt,sumD_append]; simp [sumD]
     have hsz2:=sumD_take A (n + 1)
     have hwr:=uh HOK _ (getD_memF hlt)
     generalize A.getD n noFA = a at k0 k1 k2 k3 HA HI hsz hwr
     by_cases h0:a.wr = 0
     ·have t0:(a.wr == 0) = true:=by simp [h0]
      have HA2:Hid (allOr int1 ((A.take (n + 1)).map FA.f) = some (xs ++ [a.x])):=hide (by rw [uh HA,int1_0 h0]; rfl)
      clear HA HX h0 hwr
      go_wp2_with (at_builtin; (refine wpList_append_ls rfl _ _ 221 rfl w1 61 i1 (.int .u64 0) 8 Tryz.underlying221 hi1 y1 z1 b1 rfl (int_one .u64) _ xs rfl ((uh O).below (al2p _ _ _)) (some ⟨_,0,none⟩) 1 [a.x] rfl (ls_one62 _ _ _ _) (by unfold maxLen; simp <;> omega) (by simp <;> omega) ?_; intro v2 w2 O2; have HO2:=hide O2; clear O2))
      go_roundw
      case rel => exact ⟨n + 1,xs ++ [a.x],by go_num,by omega,by simp; omega,HA2,HO2⟩
      case measure => simp [intOf]; omega
     ·have t0:(a.wr == 0) = false:=by simp [h0]
      have h2:a.wr = 2:=by omega
      have hdl:=(uh HI).2.2.2.len
      have PT:=hide (fun v hv => cpartsV_any a.q a.c a.d v ((uh HI).below hv).2.2.2 (by omega))
      cases hz:varsL a.d with
      | none =>
        rw [hz] at PT
        have HE:Hid (R1 = [] ∧ R2 = 6):=hide (by
         have h3:allOr int1 (A.map FA.f) = none:=allOr_none (n:=n + 1) (by rw [uh HA,int1_2 h2,hz]; rfl)
         have:=uh HV
         rw [h3] at this
         simpa using this)
        have BB:=hide (bl_tr (uh B1) (uh O).2)
        simp only [errO,Option.isSome_none,Bool.false_eq_true,if_false] at PT
        clear HA HX h0 hwr h2 hz
        go_wp2_with fail
        refine (uh PT _ (al1p _ _)).mono ?_
        rintro e w5 ⟨v5,rfl,hO⟩
        have B5:=hide (bl_tr (uh BB) (bl_tr (al1p _ _) hO.2))
        clear hO PT
        go_wp2_with fail
        go_ret2
        obtain ⟨g1,g2⟩:=uh HE
        subst g1 g2
        exact ⟨_,rfl,OwnG.nil _ _ _ (uh B5)⟩
      | some zs =>
        rw [hz] at PT
        simp only [errO,Option.isSome_some,if_true,Option.getD_some] at PT
        have hzl:=varsL_len hz
        have HA2:Hid (allOr int1 ((A.take (n + 1)).map FA.f) = some (xs ++ zs)):=hide (by rw [uh HA,int1_2 h2,hz]; rfl)
        clear HA HX h0 hwr h2 hz
        go_wp2_with fail
        refine (uh PT _ (al1p _ _)).mono ?_
        rintro e w5 ⟨v5,rfl,hO⟩
        obtain ⟨q5,d5,rfl,hl5,_⟩:=hO.form
        have L5:=hide hl5
        have O5:=hide ((uh O).below (bl_tr (al1p _ _) hO.2))
        clear hO hl5 PT
        go_wp2_with (at_builtin; (refine wpList_append_ls rfl _ _ 221 rfl w1 61 i1 (.int .u64 0) 8 Tryz.underlying221 hi1 y1 z1 b1 rfl (int_one .u64) _ xs rfl (uh O5) q5 d5 zs rfl (uh L5) (by unfold maxLen; omega) (by omega) ?_; intro v2 w2 O2; have HO2:=hide O2; clear O2))
        go_roundw
        case rel => exact ⟨n + 1,xs ++ zs,by go_num,by omega,by simp; omega,HA2,HO2⟩
        case measure => simp [intOf]; omega
    ·have hi:¬ (n:Int) < (A.length:Int):=by omega
     have HE:Hid (R1 = xs ∧ R2 = 0):=hide (by
      have h1:=uh HX
      rw [List.take_of_length_le (by omega)] at h1
      have:=uh HV
      rw [h1] at this
      simpa using this)
     have HO:=hide ((uh O).early (uh B1))
     clear O HX
     go_wp2_with fail
     go_ret2
     obtain ⟨g1,g2⟩:=uh HE
     subst g1 g2
     exact ⟨_,rfl,uh HO⟩
theorem okW_cnumW_any {A:List FA} (h:okW [5,2] A = false):allOr num5 (A.map FA.f) = none:=by
 unfold okW at h
 rw [List.all_eq_false] at h
 obtain ⟨a,ha,hn⟩:=h
 have h1:¬ a.wr = 5 ∧ ¬ a.wr = 2:=by simp at hn; exact hn
 exact allOr_mem_none (List.mem_map.2 ⟨a,ha,rfl⟩) (num5_no h1.1 h1.2)
theorem cnumW_any (p:Option Addr) (c:Nat) (l:List FA) (num:Int) (w:World) (h:Fls w p c l) (hs:l.length * 48 ≤ 140737488355328) (hd:(sumD l + l.length) * 8 ≤ 140737488355328) :
  Calls Tryz.prog 194 #[.slice p l.length c,.int .i64 num,.int .i64 5,.func (.func 156) #[] #[]] w fun e w' => ∃ v,e = .returned (.tuple #[v,.int .i64 (listV num5 (l.map FA.f) num).2]) ∧ OwnG 61 (Value.int .u64) w w' v (listV num5 (l.map FA.f) num).1:=by
 obtain ⟨i1,hi1,y1,z1,b1⟩:=info_parts Tryz.infoU64
 have SD:=hide (fun v (hv:Below w.heap.size w v) q d hq => csaid_any p q c d l num [5,2] v (h.below hv) hq hs)
 have nl:=h.1.len
 have hal:(allA l num).length ≤ l.length:=List.length_filter_le _ _
 have hsd:=sumD_all l num
 have AI:=hide (allA_in (num:=num) h.2)
 have HV:Hid (listV num5 (l.map FA.f) num = match allOr num5 ((allA l num).map FA.f) with
   | none => ([],6)
   | some x => (x,0)):=hide (by unfold listV; rw [← allA_f]; cases allOr num5 ((allA l num).map FA.f) <;> rfl)
 generalize hR:listV num5 (l.map FA.f) num = R at HV ⊢
 clear hR h
 obtain ⟨R1,R2⟩:=R
 simp only at HV ⊢
 generalize hL:allA l num = A at SD HV hal hsd AI
 clear hL
 have SD1:Hid (Calls Tryz.prog 135 #[.slice p l.length c,.int .i64 num,.slice (some ⟨w.heap.size,0,none⟩) 2 2] (w.alloc (Obj.cells #[.int .i64 5,.int .i64 2] 3)) fun e w' => ∃ v,e = .returned (.tuple #[v,.int .i64 (if okW [5,2] A then 0 else 6)]) ∧ OwnF 91 (w.alloc (Obj.cells #[.int .i64 5,.int .i64 2] 3)) w' v (if okW [5,2] A then A else [])):=hide (uh SD _ (al1p _ _) _ _ (ls_two64 w 5 2 3))
 clear SD
 cases hok:okW [5,2] A with
 | false =>
   have HE:Hid (R1 = [] ∧ R2 = 6):=hide (by have:=uh HV; rw [okW_cnumW_any hok] at this; simpa using this)
   rw [hok] at SD1
   simp only [Bool.false_eq_true,if_false] at SD1
   clear hok HV
   go_enter Tryz.func194,Tryz.ntmps194
   go_wp2_with fail
   refine (uh SD1).mono ?_
   rintro e w1 ⟨v1,rfl,hO⟩
   have B1:=hide (bl_tr (al1p _ _) hO.2)
   clear hO SD1
   go_wp2_with fail
   go_ret2
   obtain ⟨g1,g2⟩:=uh HE
   subst g1 g2
   exact ⟨_,rfl,OwnG.nil _ _ _ (uh B1)⟩
 | true =>
   have HOK:Hid (∀ a ∈ A,a.wr = 5 ∨ a.wr = 2):=hide (fun a ha => by
    unfold okW at hok
    have:=List.all_eq_true.1 hok a ha
    simp at this
    exact this)
   rw [hok] at SD1
   simp only [if_true] at SD1
   clear hok
   go_enter Tryz.func194,Tryz.ntmps194
   go_wp2_with fail
   refine (uh SD1).mono ?_
   rintro e w1 ⟨v1,rfl,hO⟩
   obtain ⟨q1,d1,rfl,hc,_⟩:=hO.form
   have C1:=hide hc
   have B1:=hide (bl_tr (al1p _ _) hO.2)
   clear hc hO SD1
   go_wp2_with fail
   go_loopw [12,30] (fun v iv wr => ∃ n:Nat,∃ xs:List Int,iv = .int .i64 n ∧ n ≤ A.length ∧ xs.length ≤ sumD (A.take n) + n ∧ Hid (allOr num5 ((A.take n).map FA.f) = some xs) ∧ Hid (OwnG 61 (Value.int .u64) w1 wr v xs)) (fun _ iv _ => A.length - (intOf iv).toNat)
   case atStart => exact ⟨0,[],rfl,by omega,by simp,hide rfl,hide (OwnG.nil _ _ _ (Below.refl _ _))⟩
   case round =>
    obtain ⟨n,xs,rfl,hn,hxl,HX,O⟩:=hrel
    by_cases hlt:n < A.length
    ·have hi:(n:Int) < (A.length:Int):=by omega
     obtain ⟨b,o,rfl,hb,k0,k1,k2,k3⟩:=((uh C1).below (uh O).2).at hlt
     have HA:=hide (allOr_one num5 A n hlt xs (uh HX))
     have HI:=hide ((uh AI _ (getD_memF hlt)).below (bl_tr (uh B1) (uh O).2))
     have hsz:sumD (A.take (n + 1)) = sumD (A.take n) + (A.getD n noFA).d.length:=by
      rw [take_addF A n hlt,sumD_append]; simp [sumD]
     have hsz2:=sumD_take A (n + 1)
     have hwr:=uh HOK _ (getD_memF hlt)
     generalize A.getD n noFA = a at k0 k1 k2 k3 HA HI hsz hwr
     by_cases h0:a.wr = 5
     ·have t0:(a.wr == 5) = true:=by simp [h0]
      have HA2:Hid (allOr num5 ((A.take (n + 1)).map FA.f) = some (xs ++ [a.x])):=hide (by rw [uh HA,num5_5 h0]; rfl)
      clear HA HX h0 hwr
      go_wp2_with (at_builtin; (refine wpList_append_ls rfl _ _ 221 rfl w1 61 i1 (.int .u64 0) 8 Tryz.underlying221 hi1 y1 z1 b1 rfl (int_one .u64) _ xs rfl ((uh O).below (al2p _ _ _)) (some ⟨_,0,none⟩) 1 [a.x] rfl (ls_one62 _ _ _ _) (by unfold maxLen; simp <;> omega) (by simp <;> omega) ?_; intro v2 w2 O2; have HO2:=hide O2; clear O2))
      go_roundw
      case rel => exact ⟨n + 1,xs ++ [a.x],by go_num,by omega,by simp; omega,HA2,HO2⟩
      case measure => simp [intOf]; omega
     ·have t0:(a.wr == 5) = false:=by simp [h0]
      have h2:a.wr = 2:=by omega
      have hdl:=(uh HI).2.2.2.len
      have PT:=hide (fun v hv => cpartsW_any a.q a.c a.d v ((uh HI).below hv).2.2.2 (by omega))
      cases hz:foursO a.d with
      | none =>
        rw [hz] at PT
        have HE:Hid (R1 = [] ∧ R2 = 6):=hide (by
         have h3:allOr num5 (A.map FA.f) = none:=allOr_none (n:=n + 1) (by rw [uh HA,num5_2 h2,hz]; rfl)
         have:=uh HV
         rw [h3] at this
         simpa using this)
        have BB:=hide (bl_tr (uh B1) (uh O).2)
        simp only [errO,Option.isSome_none,Bool.false_eq_true,if_false] at PT
        clear HA HX h0 hwr h2 hz
        go_wp2_with fail
        refine (uh PT _ (al1p _ _)).mono ?_
        rintro e w5 ⟨v5,rfl,hO⟩
        have B5:=hide (bl_tr (uh BB) (bl_tr (al1p _ _) hO.2))
        clear hO PT
        go_wp2_with fail
        go_ret2
        obtain ⟨g1,g2⟩:=uh HE
        subst g1 g2
        exact ⟨_,rfl,OwnG.nil _ _ _ (uh B5)⟩
      | some zs =>
        rw [hz] at PT
        simp only [errO,Option.isSome_some,if_true,Option.getD_some] at PT
        have hzl:=foursO_len hz
        have HA2:Hid (allOr num5 ((A.take (n + 1)).map FA.f) = some (xs ++ zs)):=hide (by rw [uh HA,num5_2 h2,hz]; rfl)
        clear HA HX h0 hwr h2 hz
        go_wp2_with fail
        refine (uh PT _ (al1p _ _)).mono ?_
        rintro e w5 ⟨v5,rfl,hO⟩
        obtain ⟨q5,d5,rfl,hl5,_⟩:=hO.form
        have L5:=hide hl5
        have O5:=hide ((uh O).below (bl_tr (al1p _ _) hO.2))
        clear hO hl5 PT
        go_wp2_with (at_builtin; (refine wpList_append_ls rfl _ _ 221 rfl w1 61 i1 (.int .u64 0) 8 Tryz.underlying221 hi1 y1 z1 b1 rfl (int_one .u64) _ xs rfl (uh O5) q5 d5 zs rfl (uh L5) (by unfold maxLen; omega) (by omega) ?_; intro v2 w2 O2; have HO2:=hide O2; clear O2))
        go_roundw
        case rel => exact ⟨n + 1,xs ++ zs,by go_num,by omega,by simp; omega,HA2,HO2⟩
        case measure => simp [intOf]; omega
    ·have hi:¬ (n:Int) < (A.length:Int):=by omega
     have HE:Hid (R1 = xs ∧ R2 = 0):=hide (by
      have h1:=uh HX
      rw [List.take_of_length_le (by omega)] at h1
      have:=uh HV
      rw [h1] at this
      simpa using this)
     have HO:=hide ((uh O).early (uh B1))
     clear O HX
     go_wp2_with fail
     go_ret2
     obtain ⟨g1,g2⟩:=uh HE
     subst g1 g2
     exact ⟨_,rfl,uh HO⟩
theorem cints6_any (p:Option Addr) (c:Nat) (l:List FA) (num:Int) (w:World) (h:Fls w p c l) (hs:l.length * 48 ≤ 140737488355328) (hd:(sumD l + l.length) * 8 ≤ 140737488355328) :
  Calls Tryz.prog 178 #[.slice p l.length c,.int .i64 num] w fun e w' => ∃ v,e = .returned (.tuple #[v,.int .i64 (listV int1 (l.map FA.f) num).2]) ∧ OwnG 61 (Value.int .u64) w w' v (listV int1 (l.map FA.f) num).1:=by
 have NB:=hide (cnumV_any p c l num w h hs hd)
 generalize listV int1 (l.map FA.f) num = R at NB ⊢
 obtain ⟨R1,R2⟩:=R
 simp only at NB ⊢
 go_enter Tryz.func178,Tryz.ntmps178
 go_wp2_with fail
 refine (uh NB).mono ?_
 rintro e w1 ⟨v1,rfl,hO⟩
 have HO:=hide hO
 clear hO NB
 go_wp2_with fail
 go_ret2
 exact ⟨_,rfl,uh HO⟩
def low32 (xs:List Int):List Int:=xs.map (· % 4294967296)
theorem fours_low (d:List Int) (h:isB d):low32 (fours d) = fours d:=by
 unfold low32 fours
 rw [List.map_map]
 refine List.map_congr_left (fun i hi => ?_)
 simp only [Function.comp_apply]
 have hl:((d.drop (4 * i)).take 4).length = 4:=by
  have:=List.mem_range.1 hi
  simp; omega
 obtain ⟨h0,h1⟩:=leV_range ((d.drop (4 * i)).take 4) (isB_take (isB_drop h _) 4)
 rw [hl] at h1
 have:(256:Int) ^ 4 = 4294967296:=by decide
 omega
theorem fix1_num5 (f:Fld) (h:isB f.2.2.2):fix1 f = (num5 f).map low32:=by
 unfold fix1 num5 foursO
 by_cases h5:f.2.1 = 5
 ·rw [if_pos h5,if_pos h5]; rfl
 ·rw [if_neg h5,if_neg h5]
  by_cases h2:f.2.1 = 2
  ·rw [if_pos h2]
   by_cases h4:f.2.2.2.length % 4 = 0
   ·rw [if_pos ⟨h2,h4⟩,if_pos h4]
    simp only [Option.map_some,fours_low _ h]
   ·rw [if_neg (fun hh => h4 hh.2),if_neg h4]; rfl
  ·rw [if_neg (fun hh => h2 hh.1),if_neg h2]; rfl
theorem allOr_low:∀ (l:List Fld),(∀ f ∈ l,isB f.2.2.2) → allOr fix1 l = (allOr num5 l).map low32
 | [],_ => rfl
 | f :: r,h => by
   simp only [allOr]
   rw [fix1_num5 f (h f (by simp)),allOr_low r (fun g hg => h g (by simp [hg]))]
   cases num5 f with
   | none => rfl
   | some x =>
     cases allOr num5 r with
     | none => rfl
     | some y => simp [low32]
theorem list_low (l:List FA) (num:Int) (h:∀ a ∈ l,isB a.d):listV fix1 (l.map FA.f) num = (low32 (listV num5 (l.map FA.f) num).1,(listV num5 (l.map FA.f) num).2):=by
 unfold listV
 rw [allOr_low _ (fun f hf => by
  unfold allV at hf
  obtain ⟨a,ha,rfl⟩:=List.mem_map.1 (List.mem_filter.1 hf).1
  exact h a ha)]
 cases allOr num5 (allV (l.map FA.f) num) <;> rfl
theorem allOr5_len:∀ (l:List FA) (xs:List Int),allOr num5 (l.map FA.f) = some xs → xs.length ≤ sumD l + l.length
 | [],xs,h => by simp only [List.map_nil,allOr,Option.some.injEq] at h; subst h; simp
 | a :: r,xs,h => by
   simp only [List.map_cons,allOr] at h
   cases hn:num5 a.f with
   | none => rw [hn] at h; cases h
   | some x =>
     rw [hn] at h
     simp only at h
     cases hr:allOr num5 (r.map FA.f) with
     | none => rw [hr] at h; cases h
     | some y =>
       rw [hr] at h
       simp only [Option.map_some,Option.some.injEq] at h
       subst h
       have:=allOr5_len r y hr
       have hx:x.length ≤ a.d.length + 1:=by
        unfold num5 FA.f at hn
        simp only at hn
        split at hn
        ·simp only [Option.some.injEq] at hn; subst hn; simp
        ·split at hn
         ·have:=foursO_len hn; omega
         ·cases hn
       have e:sumD (a :: r) = a.d.length + sumD r:=by simp [sumD]
       simp; omega
theorem list5_len (l:List FA) (num:Int):(listV num5 (l.map FA.f) num).1.length ≤ sumD l + l.length:=by
 unfold listV
 rw [← allA_f]
 have h1:=sumD_all l num
 have h2:(allA l num).length ≤ l.length:=List.length_filter_le _ _
 cases hr:allOr num5 ((allA l num).map FA.f) with
 | none => simp
 | some x =>
   have:=allOr5_len _ _ hr
   simp only
   omega
theorem cfixed6_any (p:Option Addr) (c:Nat) (l:List FA) (num:Int) (w:World) (h:Fls w p c l) (hs:l.length * 48 ≤ 140737488355328) (hd:(sumD l + l.length) * 8 ≤ 140737488355328) :
  Calls Tryz.prog 193 #[.slice p l.length c,.int .i64 num] w fun e w' => ∃ v,e = .returned (.tuple #[v,.int .i64 (listV fix1 (l.map FA.f) num).2]) ∧ OwnG 118 (Value.int .u32) w w' v (listV fix1 (l.map FA.f) num).1:=by
 obtain ⟨i1,hi1,y1,z1,b1⟩:=info_parts Tryz.infoU32p
 have NB:=hide (cnumW_any p c l num w h hs hd)
 rw [list_low l num (fun a ha => (h.2 a ha).ok.2.2)]
 have hxl:=list5_len l num
 generalize listV num5 (l.map FA.f) num = R at NB hxl ⊢
 obtain ⟨R1,R2⟩:=R
 simp only at NB hxl ⊢
 clear h
 go_enter Tryz.func193,Tryz.ntmps193
 go_wp2_with fail
 refine (uh NB).mono ?_
 rintro e w1 ⟨v1,rfl,hO⟩
 obtain ⟨q1,d1,rfl,hc,_⟩:=hO.form
 have C1:=hide hc
 have B1:=hide hO.2
 clear hc hO NB
 go_wp2_with fail
 go_loopw [8,19] (fun v iv wr => ∃ n:Nat,iv = .int .i64 n ∧ n ≤ R1.length ∧ Hid (OwnG 118 (Value.int .u32) w1 wr v (low32 (R1.take n)))) (fun _ iv _ => R1.length - (intOf iv).toNat)
 case atStart => exact ⟨0,rfl,by omega,hide (OwnG.nil _ _ _ (Below.refl _ _))⟩
 case round =>
  obtain ⟨n,rfl,hn,O⟩:=hrel
  by_cases hlt:n < R1.length
  ·have hi:(n:Int) < (R1.length:Int):=by omega
   obtain ⟨b,o,rfl,hb,hcc⟩:=((uh C1).below (uh O).2).lies (by omega)
   have k0:wr.cell? ⟨b,o + n,none⟩ = some (.int .u64 (R1.getD n 0)):=hcc n hlt
   have HT:Hid (low32 (R1.take (n + 1)) = low32 (R1.take n) ++ [R1.getD n 0 % 4294967296]):=hide (by
    have e:R1.take (n + 1) = R1.take n ++ [R1.getD n 0]:=by rw [List.take_add_one,List.getD_eq_getElem?_getD,List.getElem?_eq_getElem hlt]; rfl
    unfold low32
    rw [e,List.map_append]
    rfl)
   have hl:(low32 (R1.take n)).length = n:=by unfold low32; rw [List.length_map,List.length_take]; omega
   generalize R1.getD n 0 = x at k0 HT
   obtain ⟨P,hP⟩:∃ P,low32 (R1.take n) = P:=⟨_,rfl⟩
   rw [hP] at O HT hl
   clear hcc hP
   go_wp2_with (at_builtin; (refine wpList_append_ls rfl _ _ 82 rfl w1 118 i1 (.int .u32 0) 4 Tryz.underlying82 hi1 y1 z1 b1 rfl (int_one .u32) _ P rfl ((uh O).below (al1p _ _)) (some ⟨_,0,none⟩) 1 [x % 4294967296] rfl (ls_one6 _ _ _) (by unfold maxLen; simp only [List.length_singleton]; omega) (by simp only [List.length_singleton]; omega) ?_; intro v2 w2 O2; have HO2:=hide O2; clear O2))
   go_roundw
   case rel => exact ⟨n + 1,by go_num,by omega,hide (by rw [uh HT]; exact uh HO2)⟩
   case measure => simp [intOf]; omega
  ·have hi:¬ (n:Int) < (R1.length:Int):=by omega
   have HO:Hid (OwnG 118 (Value.int .u32) w wr u8 (low32 R1)):=hide (by
    have:=uh O
    rw [List.take_of_length_le (by omega)] at this
    exact this.early (uh B1))
   clear O
   go_wp2_with fail
   go_ret2
   exact ⟨_,rfl,uh HO⟩
theorem box_ints {u:World} {k:Nat} {cs:Array Value} {t:TypeId} (h:Box u k cs t) (xs:List Int) (hc:cs = (xs.map (Value.int .u8)).toArray) (hx:∀ x ∈ xs,(Lit.int .u8 x).wf = true) (hn:xs.length ≤ 1000):Ints .u8 u (some ⟨k,0,none⟩) xs.length xs:=by
 refine ⟨Nat.le_refl _,by omega,hx,fun _ => ⟨k,0,rfl,h.lt,fun i hi => ?_⟩,fun h => by cases h⟩
 rw [h.cell,hc,Nat.zero_add]
 simp [List.getElem?_eq_getElem hi]
theorem readV_err (b:List Int) (h:¬ (readV b).2 = 0):(readV b).1 = []:=by
 unfold readV at h ⊢
 split
 ·rfl
 ·rename_i h1
  rw [if_neg h1] at h
  cases hl:readL b with
  | none => rfl
  | some l => rw [hl] at h; exact absurd rfl h
theorem readV_code (b:List Int) (h:b.length ≤ 4194304):(readV b).2 = 0 ∨ (readV b).2 = 6:=by
 unfold readV
 rw [if_neg (by omega)]
 cases readL b with
 | none => exact .inr rfl
 | some l => exact .inl rfl
theorem map_nil_of {L:List FA} (h:L.map FA.f = []):L = []:=by
 cases L with
 | nil => rfl
 | cons a r => cases h
theorem msg_sum:∀ {L:List FA},(∀ f ∈ L.map FA.f,mayF f) → sumD L + L.length ≤ (msgB (L.map FA.f)).length
 | [],_ => by simp [sumD]
 | a :: r,h => by
   have ih:=msg_sum (L:=r) (fun f hf => h f (by simp only [List.map_cons,List.mem_cons]; exact .inr hf))
   have e:msgB ((a :: r).map FA.f) = fieldB a.f ++ msgB (r.map FA.f):=by simp [msgB]
   have e2:sumD (a :: r) = a.d.length + sumD r:=by simp [sumD]
   have h1:=headB_data (h a.f (by simp))
   have h2:1 ≤ (headB a.f).length:=by
    unfold headB
    have:=(varV_len (a.f.1 * 8 + a.f.2.1)).1
    rw [List.length_append]; omega
   rw [e,e2,List.length_append,h1,List.length_append,List.length_cons]
   have:a.f.2.2.2.length = a.d.length:=rfl
   omega
theorem read_sum {b:List Int} {L:List FA} (hb:isB b) (hs:b.length ≤ 4194304) (h:L.map FA.f = (readV b).1):sumD L + L.length ≤ 4194304:=by
 by_cases h0:(readV b).2 = 0
 ·unfold readV at h h0
  rw [if_neg (by omega)] at h h0
  cases hl:readL b with
  | none => rw [hl] at h0; cases h0
  | some l =>
    rw [hl] at h
    simp only at h
    obtain ⟨m1,m2⟩:=readF_may _ b l hb hl
    have:=msg_sum (L:=L) (fun f hf => by rw [h] at hf; exact (m1 f hf).1)
    rw [h] at this
    omega
 ·rw [readV_err b h0] at h
  rw [map_nil_of h]
  simp [sumD]
theorem wpList_append_flds {P:Program} {w:World} {ops:Array Oper} {rest:List Oper} {o:Oper} {a:Act} {Q:Exit → Act → World → Prop} (hgd:o.guard = none) (s x:Operand) (t:TypeId)
  (ho:o.op = .call { callee:=.builtin .append,args:=#[s,x],argTypes:=#[t,t] })
  (w0:World) (e:TypeId) (i:TypeInfo) (z:Value) (bytes:Nat) (ht:P.underlying t = some (.slice e)) (hi:P.info? e = some i) (hz:i.zero = some z)
  (hsize:i.size = 4) (hby:i.bytes = bytes) (hzs:z.cells.size = 4)
  (v:Value) (l:List FA) (hs:a.eval s = v) (hown:OwnF e w0 w v l)
  (p:Option Addr) (c:Nat) (m:List FA) (hx:a.eval x = .slice p m.length c) (hc:Flc w p c m)
  (h63:l.length + m.length ≤ maxLen) (hbytes:(l.length + m.length) * bytes ≤ 140737488355328)
  (h:∀ v' w',OwnF e w0 w' v' (l ++ m) → w.grownBy w' v.ownBlock → wpList P ops Q rest (a.put o.dst v') w'):wpList P ops Q (o :: rest) a w:=by
 cases p with
 | none =>
   have hx0:m = []:=by
    rcases Nat.eq_zero_or_pos m.length with g | g
    ·exact List.eq_nil_of_length_eq_zero g
    ·obtain ⟨b,o,e,_⟩:=hc.2.2.1 g; cases e
   subst hx0
   have hc0:c = 0:=hc.2.2.2 rfl
   subst hc0
   refine wpList_append_own_none hgd s x t ho w0.heap.size e i 4 ht hi v _ _ hs hown.1 hx (h v w ?_ ⟨rfl,rfl,rfl,Nat.le_refl _,fun _ _ _ => rfl⟩)
   rw [List.append_nil]; exact hown
 | some ad =>
   have hcells:∀ j u,(m.flatMap faCells)[j]? = some u → w.cell? (ad.add j) = some u:=by
    rcases Nat.eq_zero_or_pos m.length with g | g
    ·have:m = []:=List.eq_nil_of_length_eq_zero g
     subst this
     intro j u hj; simp at hj
    ·obtain ⟨b,o,e,hb,hcc⟩:=hc.2.2.1 g
     simp only [Option.some.injEq] at e
     subst e
     intro j u hj
     have hjl:j < m.length * 4:=by
      have:=(List.getElem?_eq_some_iff.1 hj).1
      rw [fl_len] at this; exact this
     have e1:j = j / 4 * 4 + j % 4:=by omega
     have e2:=fl_get m (j / 4) (j % 4) (by omega) (by omega)
     rw [← e1] at e2
     rw [e2] at hj
     have:=hcc (j / 4) (by omega) (j % 4) u hj
     rw [Go.WideShapes.add_plain]
     rw [show o + j = o + j / 4 * 4 + j % 4 by omega]
     exact this
   refine wpList_append_own w hgd s x t ho w0.heap.size e i z 4 bytes ht hi hz hsize hby hzs (by decide) v l.length (l.flatMap faCells) hs hown.1 ad m.length c (m.flatMap faCells) hx (fl_len m) hcells (fun u hu => by
    obtain ⟨f,_,hf⟩:=List.mem_flatMap.1 hu
    exact fa_one f u hf) h63 hbytes hown.2.size ?_
   intro v' w' h1 h2 _
   refine h v' w' ⟨?_,hown.2.grown h2 hown.2.size (fun k hk => (hown.1.lt k hk).1)⟩ h2
   rw [List.length_append,List.flatMap_append]; exact h1
end Go.Proofs.YtaikppgoahdjbabGreat
