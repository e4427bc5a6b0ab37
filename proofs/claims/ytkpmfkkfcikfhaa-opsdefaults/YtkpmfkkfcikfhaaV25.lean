import Derived.Deep.QuietTactic
import Derived.Test.YtkpmfkkfcikfhaaV02
import Derived.Test.YtkpmfkkfcikfhaaV24
set_option maxRecDepth 100000
set_option maxHeartbeats 8000000
namespace Go.Proofs.Ytkpmfkkfcikfhaa
open Go.RowKit
set_option linter.unusedVariables false
theorem rsame7_any (p q:Option Addr) (cap cap':Nat) (xs ys:List Int) (w:World) (h1:Ints .i64 w p cap xs) (h2:Ints .i64 w q cap' ys) :
  Calls Try.prog 33 #[.slice p xs.length cap,.slice q ys.length cap'] w fun e w' => e = .returned (.bool (decide (xs = ys))) ∧ Below w.heap.size w w':=by
 have hl1:=h1.len
 have hl2:=h2.len
 have H1:=hide h1
 have H2:=hide h2
 clear h1 h2
 by_cases hl:xs.length = ys.length
 ·have hli:((xs.length:Int) == (ys.length:Int)) = true:=by simp [hl]
  have HL:=hide hl
  clear hl
  go_enter Try.func33,Try.ntmps33
  go_wp2_with fail
  go_loopw [5] (fun iv wr => ∃ n:Nat,iv = .int .i64 n ∧ n ≤ xs.length ∧ Hid (xs.take n = ys.take n) ∧ ∃ m,wr = w.drewN m) (fun iv _ => xs.length - (intOf iv).toNat)
  case atStart => exact ⟨0,rfl,by omega,hide (by simp),0,rfl⟩
  case round =>
   obtain ⟨n,rfl,hn,HT,m,rfl⟩:=hrel
   by_cases hlt:n < xs.length
   ·have hlt2:n < ys.length:=by rw [← uh HL]; exact hlt
    obtain ⟨b,o,rfl,hb,hc⟩:=(uh H1).lies (by omega)
    obtain ⟨b',o',rfl,hb',hc'⟩:=(uh H2).lies (by omega)
    have hi:(n:Int) < (xs.length:Int):=by omega
    have hi2:(n:Int) < (ys.length:Int):=by omega
    have c1:=hc n hlt
    have c2:=hc' n hlt2
    have t1:xs.take (n + 1) = xs.take n ++ [xs.getD n 0]:=by rw [List.take_add_one]; simp [List.getElem?_eq_getElem hlt]
    have t2:ys.take (n + 1) = ys.take n ++ [ys.getD n 0]:=by rw [List.take_add_one]; simp [List.getElem?_eq_getElem hlt2]
    have T1:=hide t1
    have T2:=hide t2
    clear hc hc' t1 t2 hlt2
    generalize xs.getD n 0 = x at c1 T1
    generalize ys.getD n 0 = y at c2 T2
    by_cases hxy:x = y
    ·subst hxy
     go_wp2_with fail
     go_quiet (fail)
     go_wp2_with fail
     go_roundw
     case rel => exact ⟨n + 1,by go_num,by omega,hide (by rw [uh T1,uh T2,uh HT]),_,rfl⟩
     case measure => simp [intOf]; omega
    ·have hne:(x == y) = false:=by simp [hxy]
     have hneq:¬ xs = ys:=fun h => by
      have a:=uh T1; have b:=uh T2
      rw [h] at a; rw [a] at b
      have:=List.append_inj_right b (by rw [← uh HT,h])
      simp at this; exact hxy this
     have HN:=hide hneq
     clear hneq hxy
     go_wp2_with fail
     go_quiet (fail)
     go_wp2_with fail
     go_ret
     exact ⟨ret_bool (by simp [uh HN]),bw_drew (bw_drew (Below.refl _ _) _) _⟩
   ·have hi:¬ (n:Int) < (xs.length:Int):=by omega
    have en:n = xs.length:=by omega
    have he:xs = ys:=by
     have:=uh HT
     rw [en,List.take_length,List.take_of_length_le (by rw [uh HL]; exact Nat.le_refl _)] at this
     exact this
    have HE:=hide he
    clear he
    go_wp2_with fail
    go_ret
    exact ⟨ret_bool (by simp [uh HE]),bw_drew (Below.refl _ _) _⟩
 ·have hli:((xs.length:Int) == (ys.length:Int)) = false:=by simp; omega
  have hne:¬ xs = ys:=fun h => hl (by rw [h])
  have HN:=hide hne
  clear hne hl
  go_enter Try.func33,Try.ntmps33
  go_wp2_with fail
  go_ret
  exact ⟨ret_bool (by simp [uh HN]),Below.refl _ _⟩
theorem str_ne {a b:Str} (ha:isB a) (hb:isB b) (h:¬ a = b):((strOfNums a).toList == (strOfNums b).toList) = false:=by
 rw [beq_eq_false_iff_ne]
 intro e
 refine h (str_inj ha hb ?_)
 rw [str_list,str_list] at e
 unfold strOfNums
 rw [e]
end Go.Proofs.Ytkpmfkkfcikfhaa
