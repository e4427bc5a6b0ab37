import Derived.WalkMore
import Derived.Test.YtaikppgoahdjbabGreatV03
import Derived.Test.YtaikppgoahdjbabGreatV17
set_option maxRecDepth 100000
set_option maxHeartbeats 8000000
namespace Go.Proofs.YtaikppgoahdjbabGreat
open Go.RowKit
set_option linter.unusedVariables false
def foursO (d:List Int):Option (List Int):=if d.length % 4 = 0 then some (fours d) else none
def num5 (f:Fld):Option (List Int):=if f.2.1 = 5 then some [f.2.2.1] else if f.2.1 = 2 then foursO f.2.2.2 else none
theorem num5_5 {a:FA} (h:a.wr = 5):num5 a.f = some [a.x]:=by unfold num5 FA.f; simp [h]
theorem num5_2 {a:FA} (h:a.wr = 2):num5 a.f = foursO a.d:=by unfold num5 FA.f; simp [h]
theorem num5_no {a:FA} (h:¬ a.wr = 5) (k:¬ a.wr = 2):num5 a.f = none:=by unfold num5 FA.f; simp [h,k]
theorem allOr_mem_none {g:Fld → Option (List Int)}:∀ {l:List Fld} {f:Fld},f ∈ l → g f = none → allOr g l = none
 | x :: r,f,hf,hn => by
   rw [allOr]
   rcases List.mem_cons.1 hf with e | e
   ·subst e; rw [hn]
   ·cases g x with
    | none => rfl
    | some y => simp only [allOr_mem_none e hn,Option.map_none]
theorem foursO_len {d xs:List Int} (h:foursO d = some xs):xs.length ≤ d.length:=by
 unfold foursO at h
 split at h
 ·simp only [Option.some.injEq] at h
  rw [← h,fours_len]; omega
 ·cases h
theorem cpartsV_any (p:Option Addr) (c:Nat) (b:List Int) (w:World) (h:Ints .u8 w p c b) (hs:b.length * 8 ≤ 140737488355328) :
  Calls Tryz.prog 202 #[.slice p b.length c,.func (.func 154) #[] #[]] w fun e w' => ∃ v,e = .returned (.tuple #[v,.int .i64 (errO (varsL b))]) ∧ OwnG 61 (Value.int .u64) w w' v ((varsL b).getD []):=by
 obtain ⟨i1,hi1,y1,z1,b1⟩:=info_parts Tryz.infoU64
 have A1:=hide h
 clear h
 obtain ⟨S,hS⟩:∃ S,varsL b = S:=⟨_,rfl⟩
 have HSp:=hide hS
 rw [hS]
 clear hS
 go_enter Tryz.func202,Tryz.ntmps202
 go_wp2_with fail
 go_step3
 go_wp2_with fail
 go_step3
 go_wp2_with fail
 go_loopw [6,7] (fun v iv wr => ∃ n:Nat,∃ ys:List Int,iv = .int .i64 n ∧ n ≤ b.length ∧ ys.length ≤ n ∧ Hid (varsL b = (varsL (b.drop n)).map (ys ++ ·)) ∧ Hid (OwnG 61 (Value.int .u64) w wr v ys)) (fun _ iv _ => b.length - (intOf iv).toNat)
 case atStart => exact ⟨0,[],rfl,by omega,by simp,hide (by rw [List.drop_zero]; cases varsL b <;> rfl),hide (OwnG.nil _ _ _ (Below.refl _ _))⟩
 case round =>
  obtain ⟨n,ys,rfl,hn,hyl,HY,O⟩:=hrel
  by_cases hlt:n < b.length
  ·have hi:((n:Int) == (b.length:Int)) = false:=by rw [beq_eq_false_iff_ne]; omega
   have HS:=hide (vars_step hlt (uh HY))
   have RV:=hide (fun v (hv:Below w.heap.size w v) => crdv_any p c b (n:Int) v ((uh A1).below hv) (by omega))
   have RV2:=hide (uh RV _ (uh O).2)
   rw [rdV_in hn] at RV2
   rcases hgo:rdG 10 (b.drop n) with _ | ⟨x,k⟩ <;> rw [hgo] at RV2 HS <;> simp only at RV2 HS
   ·have HE:Hid (S = none):=hide (by rw [← uh HSp]; exact uh HS)
    clear hgo HS
    have BB:=hide (uh O).2
    clear RV HY
    go_wp2_with fail
    refine (uh RV2).mono ?_
    rintro e v ⟨rfl,hv⟩
    replace hv:=hv.symm
    subst hv
    go_wp2_with fail
    rw [Exit.noGoto_ret]
    go_ret2
    exact ⟨_,by rw [uh HE]; rfl,by rw [uh HE]; exact OwnG.nil _ _ _ (uh BB)⟩
   ·obtain ⟨g1,g2,g3⟩:=rdG_count 10 _ x k hgo
    simp at g3
    obtain ⟨m,hm⟩:∃ m,n + k = m:=⟨_,rfl⟩
    rw [hm] at RV2 HS
    have HY2:Hid (varsL b = (varsL (b.drop m)).map ((ys ++ [x]) ++ ·)):=hide (by rw [uh HS])
    have hm1:n < m:=by omega
    have hm2:m ≤ b.length:=by omega
    clear hgo HS hm
    clear RV HY
    go_wp2_with fail
    refine (uh RV2).mono ?_
    rintro e v ⟨rfl,hv⟩
    replace hv:=hv.symm
    subst hv
    go_wp2_with (at_builtin; (refine wpList_append_ls rfl _ _ 221 rfl w 61 i1 (.int .u64 0) 8 Tryz.underlying221 hi1 y1 z1 b1 rfl (int_one .u64) _ ys rfl ((uh O).below (al1p _ _)) (some ⟨_,0,none⟩) 1 [x] rfl (ls_one6 _ _ _) (by unfold maxLen; simp only [List.length_singleton]; omega) (by simp only [List.length_singleton]; omega) ?_; intro v2 w2 O2; have HO2:=hide O2; clear O2))
    go_roundw
    case rel => exact ⟨m,ys ++ [x],rfl,by omega,by simp; omega,HY2,HO2⟩
    case measure => simp [intOf]; omega
  ·have en:n = b.length:=by omega
   have hi:((n:Int) == (b.length:Int)) = true:=by rw [en]; simp
   have HE:Hid (S = some ys):=hide (by
    have h1:=uh HY
    rw [List.drop_of_length_le (by omega),varsL_nil] at h1
    simp only [Option.map_some,List.append_nil] at h1
    rw [← uh HSp]
    exact h1)
   have HO:=O
   clear HY O en
   go_wp2_with fail
   rw [Exit.noGoto_ret]
   go_ret2
   exact ⟨_,by rw [uh HE]; rfl,by rw [uh HE]; exact uh HO⟩
theorem cpartsW_any (p:Option Addr) (c:Nat) (b:List Int) (w:World) (h:Ints .u8 w p c b) (hs:b.length * 8 ≤ 140737488355328) :
  Calls Tryz.prog 202 #[.slice p b.length c,.func (.func 156) #[] #[]] w fun e w' => ∃ v,e = .returned (.tuple #[v,.int .i64 (errO (foursO b))]) ∧ OwnG 61 (Value.int .u64) w w' v ((foursO b).getD []):=by
 obtain ⟨i1,hi1,y1,z1,b1⟩:=info_parts Tryz.infoU64
 have A1:=hide h
 clear h
 obtain ⟨S,hS⟩:∃ S,foursO b = S:=⟨_,rfl⟩
 have HSp:=hide hS
 rw [hS]
 clear hS
 go_enter Tryz.func202,Tryz.ntmps202
 go_wp2_with fail
 go_step3
 go_wp2_with fail
 go_step3
 go_wp2_with fail
 go_loopw [6,7] (fun v iv wr => ∃ n:Nat,∃ ys:List Int,iv = .int .i64 n ∧ n ≤ b.length ∧ ys.length ≤ n ∧ Hid (n = 4 * ys.length ∧ ys = (fours b).take ys.length) ∧ Hid (OwnG 61 (Value.int .u64) w wr v ys)) (fun _ iv _ => b.length - (intOf iv).toNat)
 case atStart => exact ⟨0,[],rfl,by omega,by simp,hide (by exact ⟨rfl,by simp⟩),hide (OwnG.nil _ _ _ (Below.refl _ _))⟩
 case round =>
  obtain ⟨n,ys,rfl,hn,hyl,HY,O⟩:=hrel
  by_cases hlt:n < b.length
  ·have hi:((n:Int) == (b.length:Int)) = false:=by rw [beq_eq_false_iff_ne]; omega
   have RV:=hide (fun v (hv:Below w.heap.size w v) => cfour_any p c b n v ((uh A1).below hv) hn (by omega))
   have RV2:=hide (uh RV _ (uh O).2)
   by_cases hsh:b.length < n + 4
   ·rw [if_pos hsh] at RV2
    have HE:Hid (S = none):=hide (by
     rw [← uh HSp]
     unfold foursO
     rw [if_neg (by have:=(uh HY).1; omega)])
    have BB:=hide (uh O).2
    clear RV HY
    go_wp2_with fail
    refine (uh RV2).mono ?_
    rintro e v ⟨rfl,hv⟩
    replace hv:=hv.symm
    subst hv
    go_wp2_with fail
    rw [Exit.noGoto_ret]
    go_ret2
    exact ⟨_,by rw [uh HE]; rfl,by rw [uh HE]; exact OwnG.nil _ _ _ (uh BB)⟩
   ·rw [if_neg hsh] at RV2
    obtain ⟨m,hm⟩:∃ m,n + 4 = m:=⟨_,rfl⟩
    rw [hm] at RV2
    obtain ⟨x,hx⟩:∃ x,leV ((b.drop n).take 4) = x:=⟨_,rfl⟩
    rw [hx] at RV2
    have HY2:Hid (m = 4 * (ys ++ [x]).length ∧ ys ++ [x] = (fours b).take (ys ++ [x]).length):=hide (by
     obtain ⟨h1,h2⟩:=uh HY
     have e:(ys ++ [x]).length = ys.length + 1:=by simp
     refine ⟨by rw [e]; omega,?_⟩
     rw [e,fours_take b ys.length (by omega),← h2,← h1,hx])
    have hm1:n < m:=by omega
    have hm2:m ≤ b.length:=by omega
    clear hm hx
    clear RV HY
    go_wp2_with fail
    refine (uh RV2).mono ?_
    rintro e v ⟨rfl,hv⟩
    replace hv:=hv.symm
    subst hv
    go_wp2_with (at_builtin; (refine wpList_append_ls rfl _ _ 221 rfl w 61 i1 (.int .u64 0) 8 Tryz.underlying221 hi1 y1 z1 b1 rfl (int_one .u64) _ ys rfl ((uh O).below (al1p _ _)) (some ⟨_,0,none⟩) 1 [x] rfl (ls_one6 _ _ _) (by unfold maxLen; simp only [List.length_singleton]; omega) (by simp only [List.length_singleton]; omega) ?_; intro v2 w2 O2; have HO2:=hide O2; clear O2))
    go_roundw
    case rel => exact ⟨m,ys ++ [x],rfl,by omega,by simp; omega,HY2,HO2⟩
    case measure => simp [intOf]; omega
  ·have en:n = b.length:=by omega
   have hi:((n:Int) == (b.length:Int)) = true:=by rw [en]; simp
   have HE:Hid (S = some ys):=hide (by
    obtain ⟨h1,h2⟩:=uh HY
    rw [← uh HSp]
    unfold foursO
    rw [if_pos (by omega)]
    have h3:ys.length = (fours b).length:=by rw [fours_len]; omega
    rw [h3,List.take_length] at h2
    rw [h2])
   have HO:=O
   clear HY O en
   go_wp2_with fail
   rw [Exit.noGoto_ret]
   go_ret2
   exact ⟨_,by rw [uh HE]; rfl,by rw [uh HE]; exact uh HO⟩
end Go.Proofs.YtaikppgoahdjbabGreat
