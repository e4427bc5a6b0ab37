import Derived.Test.YtkpmfkkfcikfhaaV23
import Derived.Test.YtkpmfkkfcikfhaaV32
set_option maxRecDepth 100000
set_option maxHeartbeats 8000000
namespace Go.Proofs.Ytkpmfkkfcikfhaa
open Go.RowKit
set_option linter.unusedVariables false
set_option linter.unusedSimpArgs false
def wlL (nm:Str) (xs:List Int):List (Nat × FV) :=
 if nm = [112,101,114,109] then [(7,FV.l xs),(8,FV.b true)] else
 if nm = [97,120,101,115] then [(1,FV.l xs),(2,FV.b true)] else
 if nm = [100,105,108,97,116,105,111,110,115] then [(23,FV.l xs)] else
 if nm = [107,101,114,110,101,108,95,115,104,97,112,101] then [(20,FV.l xs)] else
 if nm = [112,97,100,115] then [(22,FV.l xs)] else
 if nm = [115,116,114,105,100,101,115] then [(21,FV.l xs)] else []
theorem lit_yes8 {s:Str} (hs:isB s) (t:Str) (ht:t.all (fun c => decide (0 ≤ c) && decide (c < 256)) = true) (l:List UInt8) (hl:(t.map fun n => UInt8.ofNat n.toNat) = l) (h:s = t):((strOfNums s).toList == l) = true:=by
 rw [str_lit8 s hs t (isB_of ht) l hl]; simp [h]
theorem fin_l8 {B g k:Nat} {D:SeD} {w W:World} {p:Option Addr} {c n:Nat} {xs:List Int} (hn:n = xs.length) (H:SeB B g w D) (hb:Below w.heap.size w W) (hx:OwL .i64 B g W p c xs) (hk:k ≤ 30) (hf:kindsK.getD k 0 = 3):SeB B g (W.setCell ⟨g,k,none⟩ (.slice p n c)) (updD D k (.l xs)) ∧ Stay g w (W.setCell ⟨g,k,none⟩ (.slice p n c)):=by
 subst hn
 have h1:=(H.stay hb).putL k p c xs hx hk hf
 exact ⟨h1.1,(Stay.below hb (Nat.le_of_lt H.lt)).trans h1.2⟩
theorem fin_m8 {B g k j:Nat} {D:SeD} {w W:World} {p:Option Addr} {c n:Nat} {xs:List Int} (hn:n = xs.length) (H:SeB B g w D) (hb:Below w.heap.size w W) (hx:OwL .i64 B g W p c xs) (hk:k ≤ 30) (hf:kindsK.getD k 0 = 3) (hj:j ≤ 30) (hg:kindsK.getD j 0 = 2) :
  SeB B g ((W.setCell ⟨g,k,none⟩ (.slice p n c)).setCell ⟨g,j,none⟩ (.bool true)) (updD (updD D k (.l xs)) j (.b true)) ∧ Stay g w ((W.setCell ⟨g,k,none⟩ (.slice p n c)).setCell ⟨g,j,none⟩ (.bool true)):=by
 have h1:=fin_l8 hn H hb hx hk hf
 have h2:=h1.1.putB j true hj hg
 exact ⟨h2.1,h1.2.trans h2.2⟩
theorem cwlist8_any (nm:Str) (so st ne:Int) (p:Option Addr) (c:Nat) (l:List Int) (B g:Nat) (D:SeD) (w:World) (h:SeB B g w D) (hn:isB nm) (hl:Ints .i64 w p c l) (hs:l.length ≤ 4096) (hB:B ≤ w.heap.size) :
  Calls Try.prog 59 #[.agg #[strV nm,.int .i64 so,.int .i64 st,.int .i64 ne],.pointer (some ⟨g,0,none⟩),.slice p l.length c] w fun e w' => e = .returned (.tuple #[]) ∧ SeB B g w' (updL D (wlL nm l)) ∧ Stay g w w':=by
 obtain ⟨i1,hi1,y1,z1,b1⟩:=info_parts Try.info8int
 have A1:=hide hl.ls
 have WF:=hide hl.2.2.1
 have H:=hide h
 have HN:=hide hn
 have hg:=h.lt
 obtain ⟨E,hE⟩:∃ E,updL D (wlL nm l) = E:=⟨_,rfl⟩
 rw [hE]
 have HE:=hide hE
 clear hl h hn hE
 unfold strV
 obtain ⟨w0,hw0⟩:∃ w0,w0 = w.alloc (.cells #[.string (strOfNums nm),.int .i64 so,.int .i64 st,.int .i64 ne] 62):=⟨_,rfl⟩
 have X0:Hid (Box w0 w.heap.size #[.string (strOfNums nm),.int .i64 so,.int .i64 st,.int .i64 ne] 62):=hide (by rw [hw0]; exact Box.new _ _ _)
 have B0:Hid (Below w.heap.size w w0):=hide (by rw [hw0]; exact al1p _ _)
 have Z0:w0.heap.size = w.heap.size + 1:=by rw [hw0]; simp
 go_enter Try.func59,Try.ntmps59
 go_wp2_with (at_make; (rw [← hw0]; refine wpList_make_full _ rfl _ _ 37 rfl w0.heap.size 3 i1 (.int .i64 0) 1 Try.underlying37 hi1 y1 z1 _ _ _ _ l.length rfl rfl (by omega) (by omega) (by rw [b1]; omega) (by unfold maxLen; omega) (Nat.le_refl _) ?_; intro w1 hown hgrow; have HM:=hide (Mrow.made i64Wd (0:Int) rfl hown); have HB:=hide ((Below.refl w0.heap.size w0).grown hgrow (Nat.le_refl _) (fun k hk => by cases hk)); clear hown hgrow))
 clear hw0
 rw [Z0] at HM
 go_loopw [14] (fun iv wr => ∃ n:Nat,iv = .int .i64 n ∧ n ≤ l.length ∧ Hid (Mrow 3 i64c wr (w.heap.size + 1) ((l.take n).map id ++ List.replicate (l.length - n) 0)) ∧ Hid (Below w0.heap.size w0 wr)) (fun iv _ => l.length - (intOf iv).toNat)
 case atStart => exact ⟨0,rfl,by omega,hide (by rw [List.take_zero,List.map_nil,List.nil_append]; exact uh HM),HB⟩
 case round =>
  obtain ⟨n,rfl,hn,M,BB⟩:=hrel
  by_cases hlt:n < l.length
  ·have hi:(n:Int) < (l.length:Int):=by omega
   obtain ⟨b,o,rfl,hb,hc⟩:=((uh A1).below (bl_tr (uh B0) (uh BB))).lies (by omega)
   have k1:wr.cell? ⟨b,o + n,none⟩ = some (.int .i64 (l.getD n 0)):=hc n hlt
   obtain ⟨m,hm⟩:∃ m,l.length - n = m + 1:=⟨l.length - n - 1,by omega⟩
   rw [hm] at M
   have tl:((l.take n).map id).length = n:=by rw [List.length_map,List.length_take]; omega
   have hl:((l.take n).map id ++ List.replicate (m + 1) (0:Int)).length = l.length:=by rw [List.length_append,tl,List.length_replicate]; omega
   have M2:=hide (Mrow.set i64Wd (uh M) (id (l.getD n 0)) (i:=n) (by omega))
   have e1:((l.take n).map id ++ List.replicate (m + 1) (0:Int)).set n (id (l.getD n 0)) = (l.take (n + 1)).map id ++ List.replicate m 0:=by
    have:=set_mid ((l.take n).map id) m (0:Int) (id (l.getD n 0))
    rw [tl] at this
    rw [this,map_take7 id 0 l n hlt]
   rw [e1,Nat.mul_one] at M2
   have c1:wr.cell? ⟨w.heap.size + 1,n,none⟩ = some (.int .i64 (((l.take n).map id ++ List.replicate (m + 1) (0:Int)).getD n 0)):=by
    have:=Mrow.at i64Wd (z:=(0:Int)) (uh M) (i:=n) (j:=0) (by omega) rfl
    simpa using this
   have f1:=(uh M).frozen n
   have hs1:w.heap.size + 1 < wr.heap.size:=lt_of_block (uh M)
   generalize ((l.take n).map id ++ List.replicate (m + 1) (0:Int)).getD n 0 = c0 at c1
   have BB2:=hide (setMany_below (i64c (id (l.getD n 0))) wr (w.heap.size + 1) n (uh BB) (by omega))
   generalize l.getD n 0 = x at k1 M2 BB2
   simp only [id] at M2 BB2
   clear e1 hl M hc tl HE
   go_wp2_with fail
   go_roundw
   case rel => exact ⟨n + 1,by go_num,by omega,by rw [show l.length - (n + 1) = m by omega]; exact M2,BB2⟩
   case measure => simp [intOf]; omega
  ·have hi:¬ (n:Int) < (l.length:Int):=by omega
   rw [List.take_of_length_le (by omega),show l.length - n = 0 by omega,List.replicate_zero,List.append_nil,List.map_id] at M
   have OW:Hid (OwL .i64 B g wr (some ⟨w.heap.size + 1,0,none⟩) l.length l):=hide (by
    have o1:=(own_i64 (Mrow.own i64Wd (uh M) (by omega:w0.heap.size ≤ w.heap.size + 1) (by unfold maxLen; omega) (uh BB))).form
    obtain ⟨q,d,e,hL,hF⟩:=o1
    simp only [Value.slice.injEq] at e
    obtain ⟨e1,_,e3⟩:=e
    rw [← e1,← e3] at hL
    rw [← e1] at hF
    exact ⟨hL.ints (uh WF),fun b o e hp => have k:=hF b o e hp; ⟨by omega,by omega,k.2⟩⟩)
   have B2:=hide (bl_tr (uh B0) (uh BB))
   have X2:=((uh X0).below (uh BB)).cell
   have xl:=((uh X0).below (uh BB)).lt
   clear M BB X0 A1
   by_cases d0:nm = [112,101,114,109]
   ·have e:wlL nm l = [(7,FV.l l),(8,FV.b true)]:=by unfold wlL; rw [if_pos d0]
    rw [e] at HE
    have n0:((strOfNums nm).toList == [112,101,114,109]) = true:=lit_yes8 (uh HN) [112,101,114,109] rfl _ rfl d0
    have hS:=(uh H).stay (uh B2)
    obtain ⟨⟨v7,c7⟩,f7⟩:=hS.facts 7 (by decide)
    obtain ⟨⟨v8,c8⟩,f8⟩:=hS.facts 8 (by decide)
    have hgl:=hS.lt
    clear hS e d0 
    go_wp2_with fail
    go_end0
    refine ⟨rfl,?_⟩
    rw [← uh HE]
    exact fin_m8 (by simp) (uh H) (uh B2) (uh OW) (by decide) rfl (by decide) rfl
   have n0:((strOfNums nm).toList == [112,101,114,109]) = false:=lit_no8 (uh HN) [112,101,114,109] rfl _ rfl d0
   by_cases d1:nm = [97,120,101,115]
   ·have e:wlL nm l = [(1,FV.l l),(2,FV.b true)]:=by unfold wlL; rw [if_neg d0,if_pos d1]
    rw [e] at HE
    have n1:((strOfNums nm).toList == [97,120,101,115]) = true:=lit_yes8 (uh HN) [97,120,101,115] rfl _ rfl d1
    have hS:=(uh H).stay (uh B2)
    obtain ⟨⟨v1,c1⟩,f1⟩:=hS.facts 1 (by decide)
    obtain ⟨⟨v2,c2⟩,f2⟩:=hS.facts 2 (by decide)
    have hgl:=hS.lt
    clear hS e d1 d0
    go_wp2_with fail
    go_end0
    refine ⟨rfl,?_⟩
    rw [← uh HE]
    exact fin_m8 (by simp) (uh H) (uh B2) (uh OW) (by decide) rfl (by decide) rfl
   have n1:((strOfNums nm).toList == [97,120,101,115]) = false:=lit_no8 (uh HN) [97,120,101,115] rfl _ rfl d1
   by_cases d2:nm = [100,105,108,97,116,105,111,110,115]
   ·have e:wlL nm l = [(23,FV.l l)]:=by unfold wlL; rw [if_neg d0,if_neg d1,if_pos d2]
    rw [e] at HE
    have n2:((strOfNums nm).toList == [100,105,108,97,116,105,111,110,115]) = true:=lit_yes8 (uh HN) [100,105,108,97,116,105,111,110,115] rfl _ rfl d2
    have hS:=(uh H).stay (uh B2)
    obtain ⟨⟨v23,c23⟩,f23⟩:=hS.facts 23 (by decide)
    have hgl:=hS.lt
    clear hS e d2 d0 d1
    go_wp2_with fail
    go_end0
    refine ⟨rfl,?_⟩
    rw [← uh HE]
    exact fin_l8 (by simp) (uh H) (uh B2) (uh OW) (by decide) rfl
   have n2:((strOfNums nm).toList == [100,105,108,97,116,105,111,110,115]) = false:=lit_no8 (uh HN) [100,105,108,97,116,105,111,110,115] rfl _ rfl d2
   by_cases d3:nm = [107,101,114,110,101,108,95,115,104,97,112,101]
   ·have e:wlL nm l = [(20,FV.l l)]:=by unfold wlL; rw [if_neg d0,if_neg d1,if_neg d2,if_pos d3]
    rw [e] at HE
    have n3:((strOfNums nm).toList == [107,101,114,110,101,108,95,115,104,97,112,101]) = true:=lit_yes8 (uh HN) [107,101,114,110,101,108,95,115,104,97,112,101] rfl _ rfl d3
    have hS:=(uh H).stay (uh B2)
    obtain ⟨⟨v20,c20⟩,f20⟩:=hS.facts 20 (by decide)
    have hgl:=hS.lt
    clear hS e d3 d0 d1 d2
    go_wp2_with fail
    go_end0
    refine ⟨rfl,?_⟩
    rw [← uh HE]
    exact fin_l8 (by simp) (uh H) (uh B2) (uh OW) (by decide) rfl
   have n3:((strOfNums nm).toList == [107,101,114,110,101,108,95,115,104,97,112,101]) = false:=lit_no8 (uh HN) [107,101,114,110,101,108,95,115,104,97,112,101] rfl _ rfl d3
   by_cases d4:nm = [112,97,100,115]
   ·have e:wlL nm l = [(22,FV.l l)]:=by unfold wlL; rw [if_neg d0,if_neg d1,if_neg d2,if_neg d3,if_pos d4]
    rw [e] at HE
    have n4:((strOfNums nm).toList == [112,97,100,115]) = true:=lit_yes8 (uh HN) [112,97,100,115] rfl _ rfl d4
    have hS:=(uh H).stay (uh B2)
    obtain ⟨⟨v22,c22⟩,f22⟩:=hS.facts 22 (by decide)
    have hgl:=hS.lt
    clear hS e d4 d0 d1 d2 d3
    go_wp2_with fail
    go_end0
    refine ⟨rfl,?_⟩
    rw [← uh HE]
    exact fin_l8 (by simp) (uh H) (uh B2) (uh OW) (by decide) rfl
   have n4:((strOfNums nm).toList == [112,97,100,115]) = false:=lit_no8 (uh HN) [112,97,100,115] rfl _ rfl d4
   by_cases d5:nm = [115,116,114,105,100,101,115]
   ·have e:wlL nm l = [(21,FV.l l)]:=by unfold wlL; rw [if_neg d0,if_neg d1,if_neg d2,if_neg d3,if_neg d4,if_pos d5]
    rw [e] at HE
    have n5:((strOfNums nm).toList == [115,116,114,105,100,101,115]) = true:=lit_yes8 (uh HN) [115,116,114,105,100,101,115] rfl _ rfl d5
    have hS:=(uh H).stay (uh B2)
    obtain ⟨⟨v21,c21⟩,f21⟩:=hS.facts 21 (by decide)
    have hgl:=hS.lt
    clear hS e d5 d0 d1 d2 d3 d4
    go_wp2_with fail
    go_end0
    refine ⟨rfl,?_⟩
    rw [← uh HE]
    exact fin_l8 (by simp) (uh H) (uh B2) (uh OW) (by decide) rfl
   have n5:((strOfNums nm).toList == [115,116,114,105,100,101,115]) = false:=lit_no8 (uh HN) [115,116,114,105,100,101,115] rfl _ rfl d5
   have e:wlL nm l = []:=by unfold wlL; rw [if_neg d0,if_neg d1,if_neg d2,if_neg d3,if_neg d4,if_neg d5]
   rw [e] at HE
   clear d0 d1 d2 d3 d4 d5 e
   go_wp2_with fail
   go_end0
   refine ⟨rfl,?_⟩
   rw [← uh HE]
   exact ⟨(uh H).stay (uh B2),Stay.below (uh B2) (Nat.le_of_lt hg)⟩
end Go.Proofs.Ytkpmfkkfcikfhaa
