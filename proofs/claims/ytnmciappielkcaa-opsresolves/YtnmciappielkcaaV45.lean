import Derived.Test.YtnmciappielkcaaV44
set_option maxRecDepth 100000
set_option maxHeartbeats 8000000
namespace Go.Proofs.Ytnmciappielkcaa
open Go.RowKit
set_option linter.unusedVariables false
set_option linter.unusedSimpArgs false
theorem any_take_step {l:List Str} {n:Nat} (h:n < l.length) (h0:((l.take n).any fun s => decide (s = [])) = false):((l.take (n + 1)).any fun s => decide (s = [])) = decide (l.getD n [] = []):=by
 rw [List.take_add_one,List.any_append,h0,List.getElem?_eq_getElem h,List.getD_eq_getElem?_getD,List.getElem?_eq_getElem h]
 simp
theorem any_take_le {l:List Str} {n m:Nat} (h:n ≤ m) (h0:((l.take n).any fun s => decide (s = [])) = true):((l.take m).any fun s => decide (s = [])) = true:=by
 obtain ⟨x,hx,hp⟩:=List.any_eq_true.1 h0
 refine List.any_eq_true.2 ⟨x,?_,hp⟩
 have e:l.take n = (l.take m).take n:=by rw [List.take_take,Nat.min_eq_left h]
 rw [e] at hx
 exact List.mem_of_mem_take hx
theorem rcounts8_any (op:Int) (s0 s1:Value) (qi:Option Addr) (ci:Nat) (ins:List Str) (qo:Option Addr) (co:Nat) (outs:List Str) (qa:Option Addr) (na ca:Nat) (w:World) (hi:Ls strV w qi ci ins) (ho:Ls strV w qo co outs) :
  Calls Try.prog 16 #[.int .i64 op,.agg #[s0,s1,.slice qi ins.length ci,.slice qo outs.length co,.slice qa na ca]] w fun e w' => e = .returned (.bool (takesB (rowT op).2.1 (rowT op).2.2.1 (rowT op).2.2.2.1 (rowT op).2.2.2.2.1 ins outs)) ∧ Below w.heap.size w w':=by
 have CA:=hide (rarity8_any op)
 have h0:=(rowT_ok op).1
 generalize (rowT op).2.1 = a at CA h0 ⊢
 generalize (rowT op).2.2.1 = b at CA ⊢
 generalize (rowT op).2.2.2.1 = c at CA ⊢
 generalize (rowT op).2.2.2.2.1 = d at CA ⊢
 obtain ⟨a',rfl⟩:∃ n:Nat,a = n:=⟨a.toNat,by omega⟩
 have li:=hi.len
 have lo:=ho.len
 have HI:=hide hi
 have HO:=hide ho
 clear hi ho h0
 obtain ⟨Z,hZ⟩:∃ Z,takesB (a':Int) b c d ins outs = Z:=⟨_,rfl⟩
 rw [hZ]
 have HZ:=hide hZ
 clear hZ
 obtain ⟨X,hX⟩:∃ X,ins.length = X:=⟨_,rfl⟩
 obtain ⟨Y,hY⟩:∃ Y,outs.length = Y:=⟨_,rfl⟩
 rw [hX] at li ⊢
 rw [hY] at lo ⊢
 have HX:=hide hX
 have HY:=hide hY
 clear hX hY
 by_cases hall:(a':Int) ≤ (X:Int) ∧ (X:Int) ≤ b ∧ c ≤ (Y:Int) ∧ (Y:Int) ≤ d
 ·obtain ⟨h1,h2,h3,h4⟩:=hall
  have HZ2:Hid (Z = (!((ins.take a').any fun s => decide (s = [])) && !(outs.any fun s => decide (s = [])))):=hide (by
   rw [← uh HZ]
   unfold takesB
   rw [uh HX,uh HY,decide_eq_true h1,decide_eq_true h2,decide_eq_true h3,decide_eq_true h4,show ((a':Int)).toNat = a' from rfl]
   simp)
  go_enter Try.func16,Try.ntmps16
  go_wp2_with fail
  refine (uh CA _).mono ?_
  rintro e w1 ⟨rfl,hb⟩
  have X0:=hide ((Box.new w #[s0,s1,.slice qi X ci,.slice qo Y co,.slice qa na ca] 25).below hb)
  have B1:=hide (bl_tr (al1p _ _) hb)
  have I1:=hide ((uh HI).below (uh B1))
  have O1:=hide ((uh HO).below (uh B1))
  have x0:=(uh X0).cell
  have xl:=(uh X0).lt
  clear hb CA
  go_wp2_with fail
  go_loopw [9] (fun iv wr => ∃ n:Nat,iv = .int .i64 n ∧ n ≤ a' ∧ Hid (((ins.take n).any fun s => decide (s = [])) = false) ∧ ∃ m,wr = w1.drewN m) (fun iv _ => a' - (intOf iv).toNat)
  case atStart => exact ⟨0,rfl,by omega,hide rfl,0,rfl⟩
  case round =>
   obtain ⟨n,rfl,hn,HA,m,rfl⟩:=hrel
   by_cases hlt:n < a'
   ·have hi1:(n:Int) < (a':Int):=by omega
    have hi2:(n:Int) < (X:Int):=by omega
    have hlx:n < ins.length:=by rw [uh HX]; omega
    obtain ⟨b5,o5,rfl,hb5,hc5⟩:=(uh I1).lies (by omega)
    have k0:=hc5 n hlx
    have ST:=hide (any_take_step hlx (uh HA))
    have SL:=hide (fun h => any_take_le (l:=ins) (n:=n + 1) (m:=a') (by omega) h)
    clear hc5 hlx
    have e9:ins.getD n default = ins.getD n []:=rfl
    rw [e9] at k0
    clear e9
    obtain ⟨s,hs⟩:∃ s,ins.getD n [] = s:=⟨_,rfl⟩
    rw [hs] at k0 ST
    clear hs
    unfold strV at k0
    by_cases he:s = []
    ·have te:(strOfNums s).toList.isEmpty = true:=by rw [str_isE]; simp [he]
     have HF:Hid (Z = false):=hide (by rw [uh HZ2,uh SL (by rw [uh ST]; simp [he])]; rfl)
     clear he
     go_wp2_with fail
     go_ret
     exact ⟨by rw [uh HF]; rfl,bw_drew (uh B1) _⟩
    ·have te:(strOfNums s).toList.isEmpty = false:=by rw [str_isE]; simp [he]
     have HA2:Hid (((ins.take (n + 1)).any fun s => decide (s = [])) = false):=hide (by rw [uh ST]; simp [he])
     clear he
     go_wp2_with fail
     go_roundw
     case rel => exact ⟨n + 1,by go_num,by omega,HA2,_,rfl⟩
     case measure => simp [intOf]; omega
   ·have hi1:¬ (n:Int) < (a':Int):=by omega
    have en:n = a':=by omega
    have HZ3:Hid (Z = !(outs.any fun s => decide (s = []))):=hide (by
     have:=uh HA
     rw [en] at this
     rw [uh HZ2,this]; rfl)
    clear en
    go_wp2_with fail
    go_loopw [10] (fun iv wr => ∃ n:Nat,iv = .int .i64 n ∧ n ≤ Y ∧ Hid (((outs.take n).any fun s => decide (s = [])) = false) ∧ ∃ m,wr = w1.drewN m) (fun iv _ => Y - (intOf iv).toNat)
    case atStart => exact ⟨0,rfl,by omega,hide rfl,_,rfl⟩
    case round =>
     obtain ⟨j,rfl,hj,HB,m2,rfl⟩:=hrel
     by_cases hlt2:j < Y
     ·have hi3:(j:Int) < (Y:Int):=by omega
      have hlx:j < outs.length:=by rw [uh HY]; omega
      obtain ⟨b5,o5,rfl,hb5,hc5⟩:=(uh O1).lies (by omega)
      have k0:=hc5 j hlx
      have ST:=hide (any_take_step hlx (uh HB))
      have SL:=hide (fun h => any_take_le (l:=outs) (n:=j + 1) (m:=Y) (by omega) h)
      clear hc5 hlx
      have e9:outs.getD j default = outs.getD j []:=rfl
      rw [e9] at k0
      clear e9
      obtain ⟨s,hs⟩:∃ s,outs.getD j [] = s:=⟨_,rfl⟩
      rw [hs] at k0 ST
      clear hs
      unfold strV at k0
      by_cases he:s = []
      ·have te:(strOfNums s).toList.isEmpty = true:=by rw [str_isE]; simp [he]
       have HF:Hid (Z = false):=hide (by
        have h9:=uh SL (by rw [uh ST]; simp [he])
        rw [List.take_of_length_le (by rw [uh HY]; exact Nat.le_refl _)] at h9
        rw [uh HZ3,h9]; rfl)
       clear he
       go_wp2_with fail
       go_ret
       exact ⟨by rw [uh HF]; rfl,bw_drew (uh B1) _⟩
      ·have te:(strOfNums s).toList.isEmpty = false:=by rw [str_isE]; simp [he]
       have HB2:Hid (((outs.take (j + 1)).any fun s => decide (s = [])) = false):=hide (by rw [uh ST]; simp [he])
       clear he
       go_wp2_with fail
       go_roundw
       case rel => exact ⟨j + 1,by go_num,by omega,HB2,_,rfl⟩
       case measure => simp [intOf]; omega
     ·have hi3:¬ (j:Int) < (Y:Int):=by omega
      have HF:Hid (Z = true):=hide (by
       have h9:=uh HB
       rw [List.take_of_length_le (by rw [uh HY]; omega)] at h9
       rw [uh HZ3,h9]; rfl)
      go_wp2_with fail
      go_ret
      exact ⟨by rw [uh HF]; rfl,bw_drew (uh B1) _⟩
 ·have HF:Hid (Z = false):=hide (by
   rw [← uh HZ]
   unfold takesB
   rw [uh HX,uh HY]
   refine Bool.eq_false_iff.2 fun h => hall ?_
   simp only [Bool.and_eq_true,decide_eq_true_eq] at h
   exact ⟨h.1.1.1.1.1,h.1.1.1.1.2,h.1.1.2,h.1.2⟩)
  go_enter Try.func16,Try.ntmps16
  go_wp2_with fail
  refine (uh CA _).mono ?_
  rintro e w1 ⟨rfl,hb⟩
  have X0:=hide ((Box.new w #[s0,s1,.slice qi X ci,.slice qo Y co,.slice qa na ca] 25).below hb)
  have B1:=hide (bl_tr (al1p _ _) hb)
  have x0:=(uh X0).cell
  have xl:=(uh X0).lt
  clear hb CA
  by_cases g1:(X:Int) < (a':Int)
  ·clear hall
   go_wp2_with fail
   go_ret
   exact ⟨by rw [uh HF]; rfl,uh B1⟩
  by_cases g2:b < (X:Int)
  ·clear hall
   go_wp2_with fail
   go_ret
   exact ⟨by rw [uh HF]; rfl,uh B1⟩
  by_cases g3:(Y:Int) < c
  ·clear hall
   go_wp2_with fail
   go_ret
   exact ⟨by rw [uh HF]; rfl,uh B1⟩
  by_cases g4:d < (Y:Int)
  ·clear hall
   go_wp2_with fail
   go_ret
   exact ⟨by rw [uh HF]; rfl,uh B1⟩
  ·exact absurd ⟨by omega,by omega,by omega,by omega⟩ hall
theorem bey_take_step {lo hi:Int} {l:List Int} {n:Nat} (h:n < l.length) (h0:((l.take n).any (beyB lo hi)) = false):((l.take (n + 1)).any (beyB lo hi)) = beyB lo hi (l.getD n 0):=by
 rw [List.take_add_one,List.any_append,h0,List.getElem?_eq_getElem h,List.getD_eq_getElem?_getD,List.getElem?_eq_getElem h]
 simp
theorem bey_take_le {lo hi:Int} {l:List Int} {n:Nat} (h0:((l.take n).any (beyB lo hi)) = true):(l.any (beyB lo hi)) = true:=by
 obtain ⟨x,hx,hp⟩:=List.any_eq_true.1 h0
 exact List.any_eq_true.2 ⟨x,List.mem_of_mem_take hx,hp⟩
theorem rwithin8_any (p:Option Addr) (c:Nat) (xs:List Int) (most lo hi:Int) (w:World) (h:Ints .i64 w p c xs) :
  Calls Try.prog 37 #[.slice p xs.length c,.int .i64 most,.int .i64 lo,.int .i64 hi] w fun e w' => e = .returned (.bool (withinR xs most lo hi)) ∧ Below w.heap.size w w':=by
 have H:=hide h
 have lmax:xs.length ≤ 9223372036854775807:=Nat.le_trans h.1 h.2.1
 clear h
 obtain ⟨Z,hZ⟩:∃ Z,withinR xs most lo hi = Z:=⟨_,rfl⟩
 rw [hZ]
 have HZ:=hide hZ
 clear hZ
 obtain ⟨X,hX⟩:∃ X,xs.length = X:=⟨_,rfl⟩
 rw [hX] at lmax ⊢
 have HX:=hide hX
 clear hX
 by_cases hm:most < (X:Int)
 ·have HF:Hid (Z = false):=hide (by
   rw [← uh HZ]
   unfold withinR
   rw [uh HX,decide_eq_false (by omega)]; rfl)
  go_enter Try.func37,Try.ntmps37
  go_wp2_with fail
  go_ret
  exact ⟨by rw [uh HF]; rfl,Below.refl _ _⟩
 ·have HZ2:Hid (Z = !(xs.any (beyB lo hi))):=hide (by
   rw [← uh HZ]
   unfold withinR
   rw [uh HX,decide_eq_true (by omega)]; rfl)
  go_enter Try.func37,Try.ntmps37
  go_wp2_with fail
  go_loopw [9] (fun iv wr => ∃ n:Nat,iv = .int .i64 n ∧ n ≤ X ∧ Hid (((xs.take n).any (beyB lo hi)) = false) ∧ ∃ m,wr = w.drewN m) (fun iv _ => X - (intOf iv).toNat)
  case atStart => exact ⟨0,rfl,by omega,hide rfl,0,rfl⟩
  case round =>
   obtain ⟨n,rfl,hn,HA,m,rfl⟩:=hrel
   by_cases hlt:n < X
   ·have hi1:(n:Int) < (X:Int):=by omega
    have hlx:n < xs.length:=by rw [uh HX]; omega
    obtain ⟨b5,o5,rfl,hb5,hc5⟩:=(uh H).lies (by omega)
    have k0:=hc5 n hlx
    have ST:=hide (bey_take_step (lo:=lo) (hi:=hi) hlx (uh HA))
    clear hc5 hlx
    obtain ⟨s,hs⟩:∃ s,xs.getD n 0 = s:=⟨_,rfl⟩
    rw [hs] at k0 ST
    clear hs
    by_cases he:s < lo
    ·have HF:Hid (Z = false):=hide (by rw [uh HZ2,bey_take_le (n:=n + 1) (by rw [uh ST]; simp [beyB,he])]; rfl)
     have t1:decide (s < lo) = true:=by simp [he]
     go_wp2_with fail
     go_ret
     exact ⟨by rw [uh HF]; rfl,bw_drew (Below.refl _ _) _⟩
    ·have t1:decide (s < lo) = false:=by simp; omega
     by_cases hf:hi < s
     ·have HF:Hid (Z = false):=hide (by rw [uh HZ2,bey_take_le (n:=n + 1) (by rw [uh ST]; simp [beyB,hf])]; rfl)
      have t2:decide (hi < s) = true:=by simp [hf]
      go_wp2_with fail
      go_ret
      exact ⟨by rw [uh HF]; rfl,bw_drew (Below.refl _ _) _⟩
     ·have t2:decide (hi < s) = false:=by simp; omega
      have HA2:Hid (((xs.take (n + 1)).any (beyB lo hi)) = false):=hide (by rw [uh ST]; simp [beyB]; omega)
      go_wp2_with fail
      go_roundw
      case rel => exact ⟨n + 1,by go_num,by omega,HA2,_,rfl⟩
      case measure => simp [intOf]; omega
   ·have hi1:¬ (n:Int) < (X:Int):=by omega
    have HF:Hid (Z = true):=hide (by
     have h9:=uh HA
     rw [List.take_of_length_le (by rw [uh HX]; omega)] at h9
     rw [uh HZ2,h9]; rfl)
    go_wp2_with fail
    go_ret
    exact ⟨by rw [uh HF]; rfl,bw_drew (Below.refl _ _) _⟩
end Go.Proofs.Ytnmciappielkcaa
