import Derived.Test.YtnoaifcmbioknaaV43
import Derived.Test.YtnoaifcmbioknaaV46
set_option maxRecDepth 100000
set_option maxHeartbeats 8000000
namespace Go.Proofs.Ytnoaifcmbioknaa
open Go.RowKit
set_option linter.unusedVariables false
set_option linter.unusedSimpArgs false
theorem rowsR_names (op:Int):((rowsR op).map fun r => r.1) = (rowT op).2.2.2.2.2.map fun a => a.1:=by
 by_cases h:1 ≤ op ∧ op ≤ 80
 ·have e:(((op - 1).toNat:Nat):Int) + 1 = op:=by omega
  have:=map_at8 rows_names (x:=(op - 1).toNat) (List.mem_range.2 (by omega))
  simp only [e] at this
  exact this
 ·unfold rowsR rowT
  rw [if_neg h,if_neg h]
  rfl
theorem rnames8_any (w:World):Calls Try.prog 21 #[] w fun e w' => ∃ p,e = .returned (.slice p 80 80) ∧ Ls strV w' p 80 (tabT.map fun r => r.1) ∧ Below w.heap.size w w':=by
 refine runF_calls (names_run w) ⟨_,rfl,?_,al1p _ _⟩
 have h:=ls_box8 (l:=tabT.map fun r => r.1) (Box.new w ((tabT.map fun r => r.1).map strV).toArray 9) rfl (by simp only [List.length_map]; rw [show tabT.length = 80 by kernel_rfl]; decide)
 simp only [List.length_map] at h
 rw [show tabT.length = 80 by kernel_rfl] at h
 exact h
theorem rarity8_any (op:Int) (w:World):Calls Try.prog 10 #[.int .i64 op] w fun e w' => e = .returned (.tuple #[.int .i64 (rowT op).2.1,.int .i64 (rowT op).2.2.1,.int .i64 (rowT op).2.2.2.1,.int .i64 (rowT op).2.2.2.2.1]) ∧ Below w.heap.size w w':=by
 by_cases h:1 ≤ op ∧ op ≤ 80
 ·have e:(((op - 1).toNat:Nat):Int) + 1 = op:=by omega
  have:=arity_run w (op - 1).toNat (by omega)
  simp only [e] at this
  exact runF_calls this ⟨rfl,Below.refl _ _⟩
 ·have e:rowT op = noRowD:=by unfold rowT; rw [if_neg h]
  rw [e]
  unfold noRowD
  simp only
  by_cases h1:op < 1
  ·have t1:decide (op < 1) = true:=by simp [h1]
   clear h h1 e
   go_enter Try.func10,Try.ntmps10
   go_wp2_with fail
   exact bodyPost_ret (v:=.tuple #[.int .i64 0,.int .i64 0,.int .i64 0,.int .i64 0]) (by simp [results,Try.results10,go_sem]) rfl ⟨rfl,Below.refl _ _⟩
  ·have t1:decide (op < 1) = false:=by simp [h1]
   have t2:decide (80 < op) = true:=by simp; omega
   clear h h1 e
   go_enter Try.func10,Try.ntmps10
   go_wp2_with fail
   exact bodyPost_ret (v:=.tuple #[.int .i64 0,.int .i64 0,.int .i64 0,.int .i64 0]) (by simp [results,Try.results10,go_sem]) rfl ⟨rfl,Below.refl _ _⟩
theorem rowsW_ok (w:World) (l:List RrD) (hl:l.length ≤ 6):∃ p c,(rowsW w l).1 = .slice p l.length c ∧ Rc 3 rrCells ([],[],false) (rowsW w l).2 p c l ∧ Below w.heap.size w (rowsW w l).2:=by
 unfold rowsW
 cases l with
 | nil => exact ⟨none,0,rfl,Rc.nil _,Below.refl _ _⟩
 | cons x r => exact ⟨_,_,rfl,rc_box rrWd _ (Box.new _ _ _) rfl (by omega),al1p _ _⟩
theorem rowsR_len (op:Int):(rowsR op).length ≤ 6:=by
 have:=congrArg List.length (rowsR_names op)
 simp only [List.length_map] at this
 rw [this]
 exact rowT_len op
theorem rrows8_any (op:Int) (w:World):Calls Try.prog 12 #[.int .i64 op] w fun e w' => ∃ p c,e = .returned (.slice p (rowsR op).length c) ∧ Rc 3 rrCells ([],[],false) w' p c (rowsR op) ∧ Below w.heap.size w w':=by
 by_cases h:1 ≤ op ∧ op ≤ 80
 ·have e:(((op - 1).toNat:Nat):Int) + 1 = op:=by omega
  have:=rows_run w (op - 1).toNat (by omega)
  simp only [e] at this
  obtain ⟨p,c,h1,h2,h3⟩:=rowsW_ok w (rowsR op) (rowsR_len op)
  exact runF_calls this ⟨p,c,by rw [h1],h2,h3⟩
 ·have e:rowsR op = []:=by unfold rowsR; rw [if_neg h]
  rw [e]
  simp only [List.length_nil]
  have t17:(op == 17) = false:=by simp; omega
  have t18:(op == 18) = false:=by simp; omega
  have t19:(op == 19) = false:=by simp; omega
  have t27:(op == 27) = false:=by simp; omega
  have t32:(op == 32) = false:=by simp; omega
  have t44:(op == 44) = false:=by simp; omega
  have t45:(op == 45) = false:=by simp; omega
  have t46:(op == 46) = false:=by simp; omega
  have t47:(op == 47) = false:=by simp; omega
  have t48:(op == 48) = false:=by simp; omega
  have t50:(op == 50) = false:=by simp; omega
  have t51:(op == 51) = false:=by simp; omega
  have t52:(op == 52) = false:=by simp; omega
  have t53:(op == 53) = false:=by simp; omega
  have t58:(op == 58) = false:=by simp; omega
  have t59:(op == 59) = false:=by simp; omega
  have t61:(op == 61) = false:=by simp; omega
  have t62:(op == 62) = false:=by simp; omega
  have t63:(op == 63) = false:=by simp; omega
  have t64:(op == 64) = false:=by simp; omega
  have t65:(op == 65) = false:=by simp; omega
  have t66:(op == 66) = false:=by simp; omega
  have t67:(op == 67) = false:=by simp; omega
  have t68:(op == 68) = false:=by simp; omega
  have t69:(op == 69) = false:=by simp; omega
  have t70:(op == 70) = false:=by simp; omega
  have t71:(op == 71) = false:=by simp; omega
  have t72:(op == 72) = false:=by simp; omega
  have t74:(op == 74) = false:=by simp; omega
  have t75:(op == 75) = false:=by simp; omega
  have t76:(op == 76) = false:=by simp; omega
  have t77:(op == 77) = false:=by simp; omega
  have t79:(op == 79) = false:=by simp; omega
  have t80:(op == 80) = false:=by simp; omega
  clear h e
  go_enter Try.func12,Try.ntmps12
  go_wp2_with fail
  go_ret
  exact ⟨none,0,rfl,Rc.nil _,Below.refl _ _⟩
theorem tab_len80:tabT.length = 80:=by kernel_rfl
theorem rowT_name (n:Nat) (h:n < 80):(tabT.map fun r => r.1).getD n default = (rowT ((n:Int) + 1)).1:=by
 have e:((n:Int) + 1 - 1).toNat = n:=by omega
 unfold rowT
 rw [if_pos ⟨by omega,by omega⟩,e]
 simp only [List.getD_eq_getElem?_getD,List.getElem?_map,List.getElem?_eq_getElem (show n < tabT.length by rw [tab_len80]; exact h)]
 rfl
theorem rname8_any (op:Int) (w:World):Calls Try.prog 14 #[.int .i64 op] w fun e w' => e = .returned (strV (rowT op).1) ∧ Below w.heap.size w w':=by
 by_cases h:1 ≤ op ∧ op ≤ 80
 ·have t1:decide (op < 1) = false:=by simp; omega
  have t2:decide (80 < op) = false:=by simp; omega
  obtain ⟨n,hn⟩:∃ n:Nat,op = (n:Int) + 1:=⟨(op - 1).toNat,by omega⟩
  subst hn
  have hn:n < 80:=by omega
  rw [← rowT_name n hn]
  clear h
  obtain ⟨x,hx⟩:∃ x,(tabT.map fun r:RowD => r.1).getD n default = x:=⟨_,rfl⟩
  rw [hx]
  have HX:=hide hx
  clear hx
  unfold strV
  go_enter Try.func14,Try.ntmps14
  go_wp2_with fail
  refine (rnames8_any _).mono ?_
  rintro e w1 ⟨p,rfl,hl,hb⟩
  obtain ⟨b,o,rfl,hlt,hc⟩:=hl.lies (by rw [List.length_map,tab_len80]; decide)
  have c1:w1.cell? ⟨b,o + n,none⟩ = some (strV ((tabT.map fun r => r.1).getD n default)):=hc n (by rw [List.length_map,tab_len80]; exact hn)
  have hi:(n:Int) < 80:=by omega
  have B:=hide hb
  clear hc hl hb
  rw [uh HX] at c1
  unfold strV at c1
  go_wp2_with fail
  go_ret
  exact ⟨rfl,uh B⟩
 ·have e:rowT op = noRowD:=by unfold rowT; rw [if_neg h]
  rw [e]
  by_cases h1:op < 1
  ·have t1:decide (op < 1) = true:=by simp [h1]
   clear h h1 e
   go_enter Try.func14,Try.ntmps14
   go_wp2_with fail
   go_ret
   exact ⟨rfl,Below.refl _ _⟩
  ·have t1:decide (op < 1) = false:=by simp [h1]
   have t2:decide (80 < op) = true:=by simp; omega
   clear h h1 e
   go_enter Try.func14,Try.ntmps14
   go_wp2_with fail
   go_ret
   exact ⟨rfl,Below.refl _ _⟩
theorem rnumber8_any (nm:Str) (w:World) (hn:isB nm):Calls Try.prog 16 #[strV nm] w fun e w' => e = .returned (.int .i64 (numT nm)) ∧ Below w.heap.size w w':=by
 have HX:=hide hn
 have HL:Hid (∀ s ∈ tabT.map (fun r:RowD => r.1),isB s):=hide (fun s hs => by obtain ⟨r,hr,rfl⟩:=List.mem_map.1 hs; exact (tab_isB r hr).1)
 have e1:numT nm = 1 + idxI (fun s:Str => decide (s = nm)) (tabT.map fun r => r.1):=by unfold numT; rw [idxI_map]
 have L80:(tabT.map fun r:RowD => r.1).length = 80:=by rw [List.length_map,tab_len80]
 rw [e1]
 have RN:=hide (rnames8_any)
 generalize (tabT.map fun r => r.1) = l at HL L80 RN ⊢
 have IF:=hide (idxI_found (fun s:Str => decide (s = nm)) default l)
 have IN:=hide (idxI_none (fun s:Str => decide (s = nm)) l)
 obtain ⟨I,hI⟩:∃ I,idxI (fun s => decide (s = nm)) l = I:=⟨_,rfl⟩
 rw [hI] at IF IN ⊢
 have HL80:=hide L80
 clear hn e1 hI L80
 unfold strV
 go_enter Try.func16,Try.ntmps16
 go_wp2_with fail
 refine (uh RN _).mono ?_
 rintro e w1 ⟨p,rfl,hl,hb⟩
 have A1:=hide hl
 have B:=hide hb
 clear hl hb RN
 go_wp2_with fail
 go_loopw [4] (fun iv wr => ∃ n:Nat,iv = .int .i64 n ∧ n ≤ 80 ∧ Hid ((l.take n).any (fun s => decide (s = nm)) = false) ∧ ∃ m,wr = w1.drewN m) (fun iv _ => 80 - (intOf iv).toNat)
 case atStart => exact ⟨0,rfl,by omega,hide rfl,0,rfl⟩
 case round =>
  obtain ⟨n,rfl,hn,HN,m,rfl⟩:=hrel
  by_cases hlt:n < 80
  ·have hi:(n:Int) < 80:=by omega
   have hll:n < l.length:=by rw [uh HL80]; exact hlt
   obtain ⟨b,o,rfl,hb,hc⟩:=(uh A1).lies (by omega)
   have k0:w1.cell? ⟨b,o + n,none⟩ = some (strV (l.getD n default)):=hc n hll
   have HT:=hide (any_take7 (fun s:Str => decide (s = nm)) default l n hll)
   have HM:=hide (uh IF n hll (uh HN))
   have HE:=hide (str_eq8 (uh HL _ (getD_mem7 (z:=default) hll)) (uh HX))
   generalize l.getD n default = a at k0 HT HM HE
   unfold strV at k0
   have he:=uh HE
   clear hc hll
   by_cases hD:a = nm
   ·subst hD
    have HI:Hid (I = n):=hide (uh HM (by simp))
    rw [decide_eq_true rfl] at he
    clear HT HM HN HE
    go_wp2_with fail
    go_ret
    exact ⟨ret_int8 (by have:=uh HI; omega),bw_drew (uh B) _⟩
   ·rw [decide_eq_false hD] at he
    have HN2:Hid ((l.take (n + 1)).any (fun s => decide (s = nm)) = false):=hide (by rw [uh HT,uh HN]; simp [hD])
    clear HT HM HN HE hD
    go_wp2_with fail
    go_roundw
    case rel => exact ⟨n + 1,by go_num,by omega,HN2,_,rfl⟩
    case measure => simp [intOf]; omega
  ·have hi:¬ (n:Int) < 80:=by omega
   have HE:Hid (I = -1):=hide (uh IN (by have:=uh HN; rw [List.take_of_length_le (by rw [uh HL80]; omega)] at this; exact this))
   clear HN
   go_wp2_with fail
   go_ret
   exact ⟨ret_int8 (by have:=uh HE; omega),bw_drew (uh B) _⟩
end Go.Proofs.Ytnoaifcmbioknaa
