import Derived.Test.YtaikppgoahdjbabGreatV02
set_option maxRecDepth 100000
set_option maxHeartbeats 8000000
namespace Go.Proofs.YtaikppgoahdjbabGreat
open Go.RowKit
set_option linter.unusedVariables false
def sumD (l:List FA):Nat:=(l.map fun a => a.d.length).sum
theorem sumD_append (l m:List FA):sumD (l ++ m) = sumD l + sumD m:=by simp [sumD]
theorem sumD_all (l:List FA) (num:Int):sumD (allA l num) ≤ sumD l:=by
 induction l with
 | nil => simp [allA,sumD]
 | cons a r ih =>
   have e:sumD (a :: r) = a.d.length + sumD r:=by simp [sumD]
   unfold allA at ih ⊢
   rw [List.filter_cons]
   split
   ·have e2:sumD (a :: r.filter fun a => a.n == num) = a.d.length + sumD (r.filter fun a => a.n == num):=by simp [sumD]
    omega
   ·omega
theorem sumD_take (l:List FA) (n:Nat):sumD (l.take n) ≤ sumD l:=by
 have:=sumD_append (l.take n) (l.drop n)
 rw [List.take_append_drop] at this
 omega
def flatD (l:List FA):List Int:=l.flatMap fun a => a.d
theorem flatD_len (l:List FA):(flatD l).length = sumD l:=by
 unfold flatD sumD
 rw [List.length_flatMap]
theorem flatD_f (l:List FA):(l.map FA.f).flatMap (fun f => f.2.2.2) = flatD l:=by
 unfold flatD
 rw [List.flatMap_map]
 rfl
theorem take_addF (l:List FA) (n:Nat) (h:n < l.length):l.take (n + 1) = l.take n ++ [l.getD n noFA]:=by
 rw [List.take_add_one,List.getD_eq_getElem?_getD,List.getElem?_eq_getElem h]
 rfl
theorem allA_in {w:World} {l:List FA} {num:Int} (h:∀ a ∈ l,FaIn w a):∀ a ∈ allA l num,FaIn w a:=fun a ha => h a (List.mem_filter.1 ha).1
theorem flatD_isB {w:World} {l:List FA} (h:∀ a ∈ l,FaIn w a):isB (flatD l):=fun c hc => by
 obtain ⟨a,ha,hd⟩:=List.mem_flatMap.1 hc
 exact (h a ha).ok.2.2 c hd
theorem rjoined_any (p:Option Addr) (c:Nat) (l:List FA) (num:Int) (w:World) (h:Fls w p c l) (hs:l.length * 48 ≤ 140737488355328) (hd:sumD l ≤ 140737488355328) :
  Calls Tryz.prog 22 #[.slice p l.length c,.int .i64 num] w fun e w' => (∃ q d,e = .returned (.tuple #[.slice q (joinV (l.map FA.f) num).1.length d,.bool (joinV (l.map FA.f) num).2.1,.int .i64 (joinV (l.map FA.f) num).2.2]) ∧ Ints .u8 w' q d (joinV (l.map FA.f) num).1 ∧ Fresh w.heap.size w' q (joinV (l.map FA.f) num).1.length) ∧ Below w.heap.size w w':=by
 obtain ⟨i1,hi1,y1,z1,b1⟩:=info_parts Tryz.infoU8
 have AL:=hide (fun v (hv:Below w.heap.size w v) => rall_any p c l num v (h.below hv) hs)
 have nl:=h.1.len
 have hal:(allA l num).length ≤ l.length:=List.length_filter_le _ _
 have hsd:=sumD_all l num
 have AI:=hide (allA_in (num:=num) h.2)
 have HV:Hid (joinV (l.map FA.f) num = if (allA l num).any (fun a => a.wr != 2) = true then ([],false,6) else (flatD (allA l num),decide (0 < (allA l num).length),0)):=hide (by
  have e1:(allV (l.map FA.f) num).any (fun f => f.2.1 != 2) = (allA l num).any (fun a => a.wr != 2):=by rw [← allA_f,any_map]; rfl
  have e2:(allV (l.map FA.f) num).length = (allA l num).length:=by rw [← allA_f,List.length_map]
  unfold joinV
  rw [e1,e2,← allA_f,flatD_f])
 generalize hR:joinV (l.map FA.f) num = R at HV ⊢
 clear hR h
 obtain ⟨R1,R2,R3⟩:=R
 simp only at HV ⊢
 generalize hL:allA l num = A at AL HV hal hsd AI
 clear hL
 go_enter Tryz.func22,Tryz.ntmps22
 go_wp2_with fail
 refine (uh AL _ (Below.refl _ _)).mono ?_
 rintro e w1 ⟨v1,rfl,hO⟩
 obtain ⟨q1,d1,rfl,hc,_⟩:=hO.form
 have C1:=hide hc
 have B1:=hide hO.2
 clear hc hO AL
 go_wp2_with fail
 go_loopw [8,9] (fun v iv wr => ∃ n:Nat,iv = .int .i64 n ∧ n ≤ A.length ∧ Hid ((A.take n).any (fun a => a.wr != 2) = false) ∧ Hid (OwnG 5 (Value.int .u8) w1 wr v (flatD (A.take n)))) (fun _ iv _ => A.length - (intOf iv).toNat)
 case atStart => exact ⟨0,rfl,by omega,hide (by simp),hide (OwnG.nil _ _ _ (Below.refl _ _))⟩
 case round =>
  obtain ⟨n,rfl,hn,HN,O⟩:=hrel
  by_cases hlt:n < A.length
  ·have hi:(n:Int) < (A.length:Int):=by omega
   obtain ⟨b,o,rfl,hb,k0,k1,k2,k3⟩:=((uh C1).below (uh O).2).at hlt
   have HT:Hid ((A.take (n + 1)).any (fun a => a.wr != 2) = ((A.take n).any (fun a => a.wr != 2) || (A.getD n noFA).wr != 2)):=hide (any_take (fun f => f.2.1 != 2) A n hlt)
   have HW:Hid (((A.getD n noFA).wr != 2) = true → A.any (fun a => a.wr != 2) = true):=hide (fun hh => any_of (P:=fun f => f.2.1 != 2) hlt hh)
   have HX:Hid (flatD (A.take (n + 1)) = flatD (A.take n) ++ (A.getD n noFA).d):=hide (by rw [take_addF A n hlt]; simp [flatD])
   have HI:=hide ((uh AI _ (getD_memF hlt)).below (bl_tr (uh B1) (uh O).2))
   have hsz:(flatD (A.take n)).length + (A.getD n noFA).d.length ≤ sumD A:=by
    have e1:=sumD_take A (n + 1)
    rw [take_addF A n hlt,sumD_append] at e1
    rw [flatD_len]
    simpa [sumD] using e1
   generalize A.getD n noFA = a at k0 k1 k2 k3 HT HW HX HI hsz
   by_cases hw:a.wr = 2
   ·have tw:(a.wr != 2) = false:=bneFp hw
    have HN2:Hid ((A.take (n + 1)).any (fun a => a.wr != 2) = false):=hide (by rw [uh HT,uh HN,tw]; rfl)
    clear HT HW HN hw
    go_wp2_with (at_builtin; (refine wpList_append_ls rfl _ _ 28 rfl w1 5 i1 (.int .u8 0) 1 Tryz.underlying28 hi1 y1 z1 b1 rfl (int_one .u8) _ (flatD (A.take n)) rfl (uh O) a.q a.c a.d rfl (uh HI).2.2.2.ls (by unfold maxLen; omega) (by omega) ?_; intro v2 w2 O2; have HO2:=hide O2; clear O2))
    go_roundw
    case rel => exact ⟨n + 1,by go_num,by omega,HN2,hide (by rw [uh HX]; exact uh HO2)⟩
    case measure => simp [intOf]; omega
   ·have tw:(a.wr != 2) = true:=bneTp hw
    have HE:Hid (R1 = [] ∧ R2 = false ∧ R3 = 6):=hide (by have:=uh HV; rw [if_pos (uh HW tw)] at this; simpa using this)
    have BB:=hide (bl_tr (uh B1) (uh O).2)
    clear HT HW HN hw
    go_wp2_with fail
    go_ret3
    obtain ⟨g1,g2,g3⟩:=uh HE
    subst g1 g2 g3
    exact ⟨⟨none,0,rfl,⟨by simp,by omega,by simp,by simp,fun _ => rfl⟩,Fresh.nil _ _⟩,uh BB⟩
  ·have hi:¬ (n:Int) < (A.length:Int):=by omega
   have HF:Hid (A.any (fun a => a.wr != 2) = false):=hide (by have:=uh HN; rw [List.take_of_length_le (by omega)] at this; exact this)
   have HE:Hid (R1 = flatD A ∧ R2 = decide (0 < A.length) ∧ R3 = 0):=hide (by have:=uh HV; rw [uh HF,if_neg (by decide)] at this; simpa using this)
   obtain ⟨q,d,hv,hL,hF⟩:=(uh O).form
   rw [List.take_of_length_le (by omega)] at hv hL hF
   have HFR:=hide (hF.mono (uh B1).size)
   have HL:=hide (hL.ints (isB_wf (flatD_isB (uh AI))))
   have BB:=hide (bl_tr (uh B1) (uh O).2)
   subst hv
   clear HN hL hF O
   clear HV
   by_cases h0:0 < A.length
   ·have t0:decide ((0:Int) < (A.length:Int)) = true:=decide_eq_true (by omega)
    go_wp2_with fail
    go_ret3
    obtain ⟨g1,g2,g3⟩:=uh HE
    rw [decide_eq_true h0] at g2
    subst g1 g2 g3
    exact ⟨⟨q,d,rfl,uh HL,uh HFR⟩,uh BB⟩
   ·have t0:decide ((0:Int) < (A.length:Int)) = false:=decide_eq_false (by omega)
    go_wp2_with fail
    go_ret3
    obtain ⟨g1,g2,g3⟩:=uh HE
    rw [decide_eq_false h0] at g2
    subst g1 g2 g3
    exact ⟨⟨q,d,rfl,uh HL,uh HFR⟩,uh BB⟩
theorem Tryz.infoU64:(Tryz.prog.info? 61).map (fun i => (i.zero,i.size,i.bytes)) = some (some (.int .u64 0),1,8):=by kernel_rfl
theorem allOr_one (g:Fld → Option (List Int)) (l:List FA) (n:Nat) (h:n < l.length) (xs:List Int) (hx:allOr g ((l.take n).map FA.f) = some xs):allOr g ((l.take (n + 1)).map FA.f) = (g (l.getD n noFA).f).map (xs ++ ·):=by
 rw [take_addF l n h,List.map_append,allOr_append,hx]
 simp only [List.map_cons,List.map_nil,allOr]
 cases g (l.getD n noFA).f <;> simp
theorem allOr_none {g:Fld → Option (List Int)} {l:List FA} {n:Nat} (h:allOr g ((l.take n).map FA.f) = none):allOr g (l.map FA.f) = none:=by
 rw [← List.take_append_drop n l,List.map_append,allOr_append,h]
theorem vars_step {d:List Int} {m:Nat} {ys:List Int} (hm:m < d.length) (h:varsL d = (varsL (d.drop m)).map (ys ++ ·)):varsL d = match rdG 10 (d.drop m) with
  | none => none
  | some y => (varsL (d.drop (m + y.2))).map ((ys ++ [y.1]) ++ ·):=by
 rw [h,varsL_step (by simp; omega)]
 cases rdG 10 (d.drop m) with
 | none => rfl
 | some y =>
   simp only [List.drop_drop]
   cases varsL (d.drop (m + y.2)) <;> simp
theorem rdV_in {d:List Int} {m:Nat} (hm:m ≤ d.length):rdV d (m:Int) = match rdG 10 (d.drop m) with
  | none => (0,0,6)
  | some y => (y.1,((m + y.2:Nat):Int),0):=by
 unfold rdV rdN
 rw [if_neg (by omega),Int.toNat_natCast]
 cases rdG 10 (d.drop m) <;> rfl
theorem int1_0 {a:FA} (h:a.wr = 0):int1 a.f = some [a.x]:=by unfold int1 FA.f; simp [h]
theorem int1_2 {a:FA} (h:a.wr = 2):int1 a.f = varsL a.d:=by unfold int1 FA.f; simp [h]
theorem int1_no {a:FA} (h:¬ a.wr = 0) (k:¬ a.wr = 2):int1 a.f = none:=by unfold int1 FA.f; simp [h,k]
theorem Tryz.infoU32p:(Tryz.prog.info? 118).map (fun i => (i.zero,i.size,i.bytes)) = some (some (.int .u32 0),1,4):=by kernel_rfl
theorem fours_len (d:List Int):(fours d).length = d.length / 4:=by simp [fours]
theorem fours_take (d:List Int) (m:Nat) (h:4 * m + 4 ≤ d.length):(fours d).take (m + 1) = (fours d).take m ++ [leV ((d.drop (4 * m)).take 4)]:=by
 rw [List.take_add_one]
 congr 1
 unfold fours
 rw [List.getElem?_map,List.getElem?_range (by omega)]
 rfl
theorem Ints.cut {k:IntKind} {w:World} {p:Option Addr} {b o c:Nat} {xs:List Int} (h:Ints k w p c xs) (e:p = some ⟨b,o,none⟩) (i n:Nat) (hin:i + n ≤ xs.length):Ints k w (some ⟨b,o + i,none⟩) (c - i) ((xs.drop i).take n):=by
 subst e
 have hl:((xs.drop i).take n).length = n:=by simp; omega
 have hc:=h.1
 refine ⟨by rw [hl]; omega,by have:=h.2.1; omega,fun x hx => h.2.2.1 x (List.mem_of_mem_drop (List.mem_of_mem_take hx)),fun hp => ?_,fun h => by cases h⟩
 rw [hl] at hp
 obtain ⟨b',o',e',hb,hcell⟩:=h.lies (by omega)
 simp only [Option.some.injEq,Addr.mk.injEq] at e'
 obtain ⟨rfl,rfl,_⟩:=e'
 refine ⟨b,o + i,rfl,hb,fun j hj => ?_⟩
 rw [hl] at hj
 have:=hcell (i + j) (by omega)
 rw [Nat.add_assoc,this]
 congr 2
 rw [List.getD_eq_getElem?_getD,List.getD_eq_getElem?_getD,List.getElem?_take_of_lt hj,List.getElem?_drop]
end Go.Proofs.YtaikppgoahdjbabGreat
