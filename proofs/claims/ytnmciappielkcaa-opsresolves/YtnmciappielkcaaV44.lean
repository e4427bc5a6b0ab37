import Derived.Test.YtnmciappielkcaaV36
import Derived.Test.YtnmciappielkcaaV38
import Derived.Test.YtnmciappielkcaaV39
set_option maxRecDepth 100000
set_option maxHeartbeats 8000000
namespace Go.Proofs.Ytnmciappielkcaa
open Go.RowKit
set_option linter.unusedVariables false
set_option linter.unusedSimpArgs false
theorem rowsR_names (op:Int):((rowsR op).map fun r => r.1) = (rowT op).2.2.2.2.2.map fun a => a.1:=by
 by_cases h:1 ≤ op ∧ op ≤ 80
 ·have e:(((op - 1).toNat:Nat):Int) + 1 = op:=by omega
  have:=map_at8 rows_names (x:=(op - 1).toNat) (List.mem_range.2 (by omega))
  simp only [e] at this
  exact this
 ·unfold rowsR rowT
  rw [if_neg h,if_neg h]
  rfl
theorem rnames8_any (w:World):Calls Try.prog 34 #[] w fun e w' => ∃ p,e = .returned (.slice p 80 80) ∧ Ls strV w' p 80 (tabT.map fun r => r.1) ∧ Below w.heap.size w w':=by
 refine runF_calls (names_run w) ⟨_,rfl,?_,al1p _ _⟩
 have h:=ls_box8 (l:=tabT.map fun r => r.1) (Box.new w ((tabT.map fun r => r.1).map strV).toArray 9) rfl (by simp only [List.length_map]; rw [show tabT.length = 80 by kernel_rfl]; decide)
 simp only [List.length_map] at h
 rw [show tabT.length = 80 by kernel_rfl] at h
 exact h
theorem rarity8_any (op:Int) (w:World):Calls Try.prog 35 #[.int .i64 op] w fun e w' => e = .returned (.tuple #[.int .i64 (rowT op).2.1,.int .i64 (rowT op).2.2.1,.int .i64 (rowT op).2.2.2.1,.int .i64 (rowT op).2.2.2.2.1]) ∧ Below w.heap.size w w':=by
 by_cases h:1 ≤ op ∧ op ≤ 80
 ·have e:(((op - 1).toNat:Nat):Int) + 1 = op:=by omega
  have:=arity_run w (op - 1).toNat (by omega)
  simp only [e] at this
  exact runF_calls this ⟨rfl,Below.refl _ _⟩
 ·have e:rowT op = noRowD:=by unfold rowT; rw [if_neg h]
  rw [e]
  unfold noRowD
  simp only
  by_cases h1:op < 1
  ·have t1:decide (op < 1) = true:=by simp [h1]
   clear h h1 e
   go_enter Try.func35,Try.ntmps35
   go_wp2_with fail
   exact bodyPost_ret (v:=.tuple #[.int .i64 0,.int .i64 0,.int .i64 0,.int .i64 0]) (by simp [results,Try.results35,go_sem]) rfl ⟨rfl,Below.refl _ _⟩
  ·have t1:decide (op < 1) = false:=by simp [h1]
   have t2:decide (80 < op) = true:=by simp; omega
   clear h h1 e
   go_enter Try.func35,Try.ntmps35
   go_wp2_with fail
   exact bodyPost_ret (v:=.tuple #[.int .i64 0,.int .i64 0,.int .i64 0,.int .i64 0]) (by simp [results,Try.results35,go_sem]) rfl ⟨rfl,Below.refl _ _⟩
theorem rowsW_ok (w:World) (l:List RrD) (hl:l.length ≤ 6):∃ p c,(rowsW w l).1 = .slice p l.length c ∧ Rc 3 rrCells ([],[],false) (rowsW w l).2 p c l ∧ Below w.heap.size w (rowsW w l).2:=by
 unfold rowsW
 cases l with
 | nil => exact ⟨none,0,rfl,Rc.nil _,Below.refl _ _⟩
 | cons x r => exact ⟨_,_,rfl,rc_box rrWd _ (Box.new _ _ _) rfl (by omega),al1p _ _⟩
theorem rowsR_len (op:Int):(rowsR op).length ≤ 6:=by
 have:=congrArg List.length (rowsR_names op)
 simp only [List.length_map] at this
 rw [this]
 exact rowT_len op
theorem rrows8_any (op:Int) (w:World):Calls Try.prog 17 #[.int .i64 op] w fun e w' => ∃ p c,e = .returned (.slice p (rowsR op).length c) ∧ Rc 3 rrCells ([],[],false) w' p c (rowsR op) ∧ Below w.heap.size w w':=by
 by_cases h:1 ≤ op ∧ op ≤ 80
 ·have e:(((op - 1).toNat:Nat):Int) + 1 = op:=by omega
  have:=rows_run w (op - 1).toNat (by omega)
  simp only [e] at this
  obtain ⟨p,c,h1,h2,h3⟩:=rowsW_ok w (rowsR op) (rowsR_len op)
  exact runF_calls this ⟨p,c,by rw [h1],h2,h3⟩
 ·have e:rowsR op = []:=by unfold rowsR; rw [if_neg h]
  rw [e]
  simp only [List.length_nil]
  have t17:(op == 17) = false:=by simp; omega
  have t18:(op == 18) = false:=by simp; omega
  have t19:(op == 19) = false:=by simp; omega
  have t27:(op == 27) = false:=by simp; omega
  have t32:(op == 32) = false:=by simp; omega
  have t44:(op == 44) = false:=by simp; omega
  have t45:(op == 45) = false:=by simp; omega
  have t46:(op == 46) = false:=by simp; omega
  have t47:(op == 47) = false:=by simp; omega
  have t48:(op == 48) = false:=by simp; omega
  have t50:(op == 50) = false:=by simp; omega
  have t51:(op == 51) = false:=by simp; omega
  have t52:(op == 52) = false:=by simp; omega
  have t53:(op == 53) = false:=by simp; omega
  have t58:(op == 58) = false:=by simp; omega
  have t59:(op == 59) = false:=by simp; omega
  have t61:(op == 61) = false:=by simp; omega
  have t62:(op == 62) = false:=by simp; omega
  have t63:(op == 63) = false:=by simp; omega
  have t64:(op == 64) = false:=by simp; omega
  have t65:(op == 65) = false:=by simp; omega
  have t66:(op == 66) = false:=by simp; omega
  have t67:(op == 67) = false:=by simp; omega
  have t68:(op == 68) = false:=by simp; omega
  have t69:(op == 69) = false:=by simp; omega
  have t70:(op == 70) = false:=by simp; omega
  have t71:(op == 71) = false:=by simp; omega
  have t72:(op == 72) = false:=by simp; omega
  have t74:(op == 74) = false:=by simp; omega
  have t75:(op == 75) = false:=by simp; omega
  have t76:(op == 76) = false:=by simp; omega
  have t77:(op == 77) = false:=by simp; omega
  have t79:(op == 79) = false:=by simp; omega
  have t80:(op == 80) = false:=by simp; omega
  clear h e
  go_enter Try.func17,Try.ntmps17
  go_wp2_with fail
  go_ret
  exact ⟨none,0,rfl,Rc.nil _,Below.refl _ _⟩
theorem tab_len80:tabT.length = 80:=by kernel_rfl
theorem rnumber8_any (nm:Str) (w:World) (hn:isB nm):Calls Try.prog 15 #[strV nm] w fun e w' => e = .returned (.int .i64 (numT nm)) ∧ Below w.heap.size w w':=by
 have HX:=hide hn
 have HL:Hid (∀ s ∈ tabT.map (fun r:RowD => r.1),isB s):=hide (fun s hs => by obtain ⟨r,hr,rfl⟩:=List.mem_map.1 hs; exact (tab_isB r hr).1)
 have e1:numT nm = 1 + idxI (fun s:Str => decide (s = nm)) (tabT.map fun r => r.1):=by unfold numT; rw [idxI_map]
 have L80:(tabT.map fun r:RowD => r.1).length = 80:=by rw [List.length_map,tab_len80]
 rw [e1]
 have RN:=hide (rnames8_any)
 generalize (tabT.map fun r => r.1) = l at HL L80 RN ⊢
 have IF:=hide (idxI_found (fun s:Str => decide (s = nm)) default l)
 have IN:=hide (idxI_none (fun s:Str => decide (s = nm)) l)
 obtain ⟨I,hI⟩:∃ I,idxI (fun s => decide (s = nm)) l = I:=⟨_,rfl⟩
 rw [hI] at IF IN ⊢
 have HL80:=hide L80
 clear hn e1 hI L80
 unfold strV
 go_enter Try.func15,Try.ntmps15
 go_wp2_with fail
 refine (uh RN _).mono ?_
 rintro e w1 ⟨p,rfl,hl,hb⟩
 have A1:=hide hl
 have B:=hide hb
 clear hl hb RN
 go_wp2_with fail
 go_loopw [4] (fun iv wr => ∃ n:Nat,iv = .int .i64 n ∧ n ≤ 80 ∧ Hid ((l.take n).any (fun s => decide (s = nm)) = false) ∧ ∃ m,wr = w1.drewN m) (fun iv _ => 80 - (intOf iv).toNat)
 case atStart => exact ⟨0,rfl,by omega,hide rfl,0,rfl⟩
 case round =>
  obtain ⟨n,rfl,hn,HN,m,rfl⟩:=hrel
  by_cases hlt:n < 80
  ·have hi:(n:Int) < 80:=by omega
   have hll:n < l.length:=by rw [uh HL80]; exact hlt
   obtain ⟨b,o,rfl,hb,hc⟩:=(uh A1).lies (by omega)
   have k0:w1.cell? ⟨b,o + n,none⟩ = some (strV (l.getD n default)):=hc n hll
   have HT:=hide (any_take7 (fun s:Str => decide (s = nm)) default l n hll)
   have HM:=hide (uh IF n hll (uh HN))
   have HE:=hide (str_eq8 (uh HL _ (getD_mem7 (z:=default) hll)) (uh HX))
   generalize l.getD n default = a at k0 HT HM HE
   unfold strV at k0
   have he:=uh HE
   clear hc hll
   by_cases hD:a = nm
   ·subst hD
    have HI:Hid (I = n):=hide (uh HM (by simp))
    rw [decide_eq_true rfl] at he
    clear HT HM HN HE
    go_wp2_with fail
    go_ret
    exact ⟨ret_int8 (by have:=uh HI; omega),bw_drew (uh B) _⟩
   ·rw [decide_eq_false hD] at he
    have HN2:Hid ((l.take (n + 1)).any (fun s => decide (s = nm)) = false):=hide (by rw [uh HT,uh HN]; simp [hD])
    clear HT HM HN HE hD
    go_wp2_with fail
    go_roundw
    case rel => exact ⟨n + 1,by go_num,by omega,HN2,_,rfl⟩
    case measure => simp [intOf]; omega
  ·have hi:¬ (n:Int) < 80:=by omega
   have HE:Hid (I = -1):=hide (uh IN (by have:=uh HN; rw [List.take_of_length_le (by rw [uh HL80]; omega)] at this; exact this))
   clear HN
   go_wp2_with fail
   go_ret
   exact ⟨ret_int8 (by have:=uh HE; omega),bw_drew (uh B) _⟩
theorem kind_run (w:World):∀ n:Nat,n < 20 → runF Try.prog 20 #[strV (sortS (n:Int))] w = some (true,.ok (.int .i64 (bndT.getD n (0,0,0,0)).1) w,w)
 | 0,_ => by kernel_rfl
 | 1,_ => by kernel_rfl
 | 2,_ => by kernel_rfl
 | 3,_ => by kernel_rfl
 | 4,_ => by kernel_rfl
 | 5,_ => by kernel_rfl
 | 6,_ => by kernel_rfl
 | 7,_ => by kernel_rfl
 | 8,_ => by kernel_rfl
 | 9,_ => by kernel_rfl
 | 10,_ => by kernel_rfl
 | 11,_ => by kernel_rfl
 | 12,_ => by kernel_rfl
 | 13,_ => by kernel_rfl
 | 14,_ => by kernel_rfl
 | 15,_ => by kernel_rfl
 | 16,_ => by kernel_rfl
 | 17,_ => by kernel_rfl
 | 18,_ => by kernel_rfl
 | 19,_ => by kernel_rfl
 | n + 20,h => absurd h (by omega)
theorem rkind8_any (so:Nat) (h:so < 20) (w:World):Calls Try.prog 20 #[strV (sortS (so:Int))] w fun e w' => e = .returned (.int .i64 (bndT.getD so (0,0,0,0)).1) ∧ w' = w:=runF_calls (kind_run w so h) ⟨rfl,rfl⟩
theorem idxI_one {α:Type} (P:α → Bool) (x:α):∀ l:List α,idxI P (l ++ [x]) = if 0 ≤ idxI P l then idxI P l else if P x = true then (l.length:Int) else -1
 | [] => by simp [idxI]
 | a :: r => by
   have h1:=idxI_one P x r
   have h2:=idxI_ge P r
   simp only [List.cons_append,idxI,h1,List.length_cons]
   by_cases ha:P a = true
   ·simp [ha]
   ·simp only [ha,if_false,Bool.false_eq_true]
    by_cases h3:idxI P r = -1
    ·by_cases h4:P x = true
     ·simp [h3,h4] <;> (try omega)
     ·simp [h3,h4]
    ·have h5:0 ≤ idxI P r:=by omega
     have h6:0 ≤ idxI P r + 1:=by omega
     simp [h3,h5,h6]
def cntA (l:List AtA) (nm:Str):Nat:=(l.filter fun a => decide (a.nm = nm)).length
def nmI (l:List AtA) (nm:Str):Int:=idxI (fun a:AtA => decide (a.nm = nm)) l
def findI (l:List AtA) (nm:Str):Int:=if 2 ≤ cntA l nm then -2 else nmI l nm
theorem cntA_step (l:List AtA) (nm:Str) {n:Nat} (h:n < l.length):cntA (l.take (n + 1)) nm = cntA (l.take n) nm + if (l.getD n noAtA).nm = nm then 1 else 0:=by
 unfold cntA
 rw [List.take_add_one,List.filter_append,List.length_append,List.getElem?_eq_getElem h,List.getD_eq_getElem?_getD,List.getElem?_eq_getElem h]
 simp only [Option.toList_some,List.filter_cons,List.filter_nil,Option.getD_some,decide_eq_true_eq]
 split <;> rfl
theorem cntA_le (l:List AtA) (nm:Str) (n:Nat):cntA (l.take n) nm ≤ cntA l nm:=by
 have h:cntA l nm = cntA (l.take n) nm + cntA (l.drop n) nm:=by
  have e:(l.filter fun a => decide (a.nm = nm)) = ((l.take n ++ l.drop n).filter fun a => decide (a.nm = nm)):=by rw [List.take_append_drop]
  unfold cntA
  rw [e,List.filter_append,List.length_append]
 omega
theorem nmI_step (l:List AtA) (nm:Str) {n:Nat} (h:n < l.length):nmI (l.take (n + 1)) nm = if 0 ≤ nmI (l.take n) nm then nmI (l.take n) nm else if (l.getD n noAtA).nm = nm then (n:Int) else -1:=by
 have e:l.take (n + 1) = l.take n ++ [l.getD n noAtA]:=by
  rw [List.take_add_one,List.getElem?_eq_getElem h,List.getD_eq_getElem?_getD,List.getElem?_eq_getElem h]; rfl
 have el:(l.take n).length = n:=by rw [List.length_take]; omega
 unfold nmI
 rw [e,idxI_one,el]
 simp only [decide_eq_true_eq]
theorem nmI_cnt (l:List AtA) (nm:Str) (h:0 ≤ nmI l nm):1 ≤ cntA l nm:=by
 obtain ⟨n,_,hn,hp,_⟩:=idxI_lt _ noAtA l h
 unfold cntA
 have:l.getD n noAtA ∈ l.filter fun a => decide (a.nm = nm):=List.mem_filter.2 ⟨by rw [List.getD_eq_getElem?_getD,List.getElem?_eq_getElem hn]; exact List.getElem_mem _,hp⟩
 exact List.length_pos_of_mem this
theorem rfind8_any (p:Option Addr) (c:Nat) (l:List AtA) (nm:Str) (w:World) (h:Rc 12 atCells noAtA w p c l) (hl:∀ x ∈ l,isB x.nm) (hn:isB nm) :
  Calls Try.prog 19 #[.slice p l.length c,strV nm] w fun e w' => e = .returned (.int .i64 (findI l nm)) ∧ Below w.heap.size w w':=by
 have H:=hide h
 have HL:=hide hl
 have HN:=hide hn
 have lmax:=h.len
 clear h hl hn
 unfold strV
 go_enter Try.func19,Try.ntmps19
 go_wp2_with fail
 go_loopw [5,6] (fun av iv wr => ∃ n:Nat,∃ i:Int,iv = .int .i64 n ∧ av = .int .i64 i ∧ n ≤ l.length ∧ Hid (i = nmI (l.take n) nm) ∧ Hid (cntA (l.take n) nm ≤ 1) ∧ ∃ m,wr = w.drewN m) (fun _ iv _ => l.length - (intOf iv).toNat)
 case atStart => exact ⟨0,-1,rfl,rfl,by omega,hide rfl,hide (by simp [cntA]),0,rfl⟩
 case round =>
  obtain ⟨n,i,rfl,rfl,hn,HI,HC,m,rfl⟩:=hrel
  by_cases hlt:n < l.length
  ·have hi:(n:Int) < (l.length:Int):=by omega
   obtain ⟨b,o,rfl,hb,hc⟩:=(uh H).lies (by omega)
   have k0:w.cell? ⟨b,o + n * 12,none⟩ = some (strV (l.getD n noAtA).nm):=by have:=hc n hlt 0 _ rfl; simpa using this
   have HE:=hide (str_eq8 (uh HL (l.getD n noAtA) (by rw [List.getD_eq_getElem?_getD,List.getElem?_eq_getElem hlt]; exact List.getElem_mem _)) (uh HN))
   have S1:=hide (cntA_step l nm hlt)
   have S2:=hide (nmI_step l nm hlt)
   have S3:=hide (cntA_le l nm (n + 1))
   have S4:=hide (nmI_cnt (l.take n) nm)
   have S5:=hide (idxI_ge (fun a:AtA => decide (a.nm = nm)) (l.take n))
   clear hc
   obtain ⟨s,hs⟩:∃ s,(l.getD n noAtA).nm = s:=⟨_,rfl⟩
   rw [hs] at k0 HE S1 S2
   clear hs
   unfold strV at k0
   by_cases he:s = nm
   ·have te:((strOfNums s).toList == (strOfNums nm).toList) = true:=by rw [uh HE]; simp [he]
    by_cases h0:0 ≤ i
    ·have t0:decide ((0:Int) ≤ i) = true:=by simp [h0]
     have HR:Hid (findI l nm = -2):=hide (by
      have a1:=uh S1
      rw [if_pos he] at a1
      have a2:=uh S4 (by rw [← uh HI]; exact h0)
      have a3:=uh S3
      unfold findI
      rw [if_pos (by omega)])
     clear he
     go_wp2_with fail
     go_ret
     exact ⟨by rw [uh HR]; rfl,bw_drew (Below.refl _ _) _⟩
    ·have t0:decide ((0:Int) ≤ i) = false:=by simp; omega
     have h5:=uh S5
     have hi0:i = -1:=by
      have:=uh HI
      unfold nmI at this
      omega
     have HI2:Hid ((n:Int) = nmI (l.take (n + 1)) nm):=hide (by rw [uh S2,if_neg (by rw [← uh HI]; exact h0),if_pos he])
     have HC2:Hid (cntA (l.take (n + 1)) nm ≤ 1):=hide (by
      have a1:=uh S1
      rw [if_pos he] at a1
      have a4:cntA (l.take n) nm = 0:=by
       refine Classical.byContradiction fun hne => ?_
       have:∃ x ∈ l.take n,decide (x.nm = nm) = true:=by
        unfold cntA at hne
        obtain ⟨x,hx⟩:=List.exists_mem_of_length_pos (Nat.pos_of_ne_zero hne)
        exact ⟨x,(List.mem_filter.1 hx).1,(List.mem_filter.1 hx).2⟩
       have h6:=idxI_has (fun a:AtA => decide (a.nm = nm)) (l.take n) this
       have:=uh HI
       unfold nmI at this
       omega
      omega)
     have h0b:i < 0:=by omega
     clear he h5 hi0
     go_wp2_with fail
     go_roundw
     case rel => exact ⟨n + 1,n,by go_num,rfl,by omega,HI2,HC2,_,rfl⟩
     case measure => simp [intOf]; omega
   ·have te:((strOfNums s).toList == (strOfNums nm).toList) = false:=by rw [uh HE]; simp [he]
    have HI2:Hid (i = nmI (l.take (n + 1)) nm):=hide (by
     rw [uh S2,uh HI,if_neg he]
     have h5:=uh S5
     split
     ·rfl
     ·rename_i h
      unfold nmI at h ⊢
      omega)
    have HC2:Hid (cntA (l.take (n + 1)) nm ≤ 1):=hide (by rw [uh S1,if_neg he]; have:=uh HC; omega)
    clear he
    go_wp2_with fail
    go_roundw
    case rel => exact ⟨n + 1,i,by go_num,rfl,by omega,HI2,HC2,_,rfl⟩
    case measure => simp [intOf]; omega
  ·have hi:¬ (n:Int) < (l.length:Int):=by omega
   have HR:Hid (findI l nm = i):=hide (by
    have e:l.take n = l:=List.take_of_length_le (by omega)
    have a1:=uh HC
    have a2:=uh HI
    rw [e] at a1 a2
    unfold findI
    rw [if_neg (by omega),a2])
   go_wp2_with fail
   go_ret
   exact ⟨by rw [uh HR]; rfl,bw_drew (Below.refl _ _) _⟩
end Go.Proofs.Ytnmciappielkcaa
