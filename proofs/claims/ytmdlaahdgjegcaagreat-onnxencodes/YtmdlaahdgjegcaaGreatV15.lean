import Derived.WalkMore
import Derived.Test.YtmdlaahdgjegcaaGreatV03
import Derived.Test.YtmdlaahdgjegcaaGreatV11
import Derived.Test.YtmdlaahdgjegcaaGreatV14
set_option maxRecDepth 100000
set_option maxHeartbeats 8000000
namespace Go.Proofs.YtmdlaahdgjegcaaGreat
open Go.RowKit
set_option linter.unusedVariables false
theorem okW_one (l:List FA) (x:Int):okW [x] l = !(l.any fun a => a.wr != x):=by
 unfold okW
 induction l with
 | nil => rfl
 | cons a r ih =>
   rw [List.all_cons,List.any_cons,ih]
   by_cases h:a.wr = x <;> simp [h]
theorem ls_one64 (w:World) (x:Int) (t:TypeId):Ls (Value.int .i64) (w.alloc (.cells #[.int .i64 x] t)) (some ⟨w.heap.size,0,none⟩) 1 [x]:=ls_one6 w x t
theorem clast_any (p:Option Addr) (c:Nat) (l:List FA) (num wire:Int) (w:World) (h:Fls w p c l) (hs:l.length * 48 ≤ 140737488355328) (hd:∀ a ∈ l,a.d.length ≤ 140737488355328) :
  Calls Tryz.prog 167 #[.slice p l.length c,.int .i64 num,.int .i64 wire] w fun e w' => ∃ a,e = .returned (.tuple #[faV a,.bool (lastV (l.map FA.f) num wire).2.1,.int .i64 (lastV (l.map FA.f) num wire).2.2]) ∧ Hid (a.f = (lastV (l.map FA.f) num wire).1 ∧ FaIn w' a ∧ OwnD w.heap.size w' a ∧ Below w.heap.size w w'):=by
 have SD:=hide (fun v (hv:Below w.heap.size w v) q d hq => csaid_any p q c d l num [wire] v (h.below hv) hq hs)
 have nl:=h.1.len
 have hal:(allA l num).length ≤ l.length:=List.length_filter_le _ _
 have AI:=hide (allA_in (num:=num) h.2)
 have AD:Hid (∀ a ∈ allA l num,a.d.length ≤ 140737488355328):=hide (fun a ha => hd a (List.mem_filter.1 ha).1)
 have HV:Hid (∀ (R:Fld × Bool × Int),lastV (l.map FA.f) num wire = R → R = if okW [wire] (allA l num) = false then (noFld,false,6) else if (allA l num).length = 0 then (noFld,false,0) else (((allA l num).getD ((allA l num).length - 1) noFA).f,true,0)):=hide (fun R hR => by
  rw [← hR]
  have e1:(allV (l.map FA.f) num).any (fun f => f.2.1 != wire) = (allA l num).any (fun a => a.wr != wire):=by rw [← allA_f,any_map]; rfl
  have e2:(allV (l.map FA.f) num).length = (allA l num).length:=by rw [← allA_f,List.length_map]
  unfold lastV
  rw [e1,e2,okW_one]
  cases (allA l num).any (fun a => a.wr != wire)
  ·simp only [Bool.not_false,Bool.false_eq_true,if_false,Bool.true_eq_false]
   split
   ·rfl
   ·rename_i h0
    rw [← allA_f]
    rw [List.getD_eq_getElem?_getD,List.getD_eq_getElem?_getD,List.getElem?_map,List.getElem?_eq_getElem (by omega)]
    rfl
  ·rfl)
 obtain ⟨R,hR⟩:∃ R,lastV (l.map FA.f) num wire = R:=⟨_,rfl⟩
 have HV2:=hide (uh HV R hR)
 rw [hR]
 clear hR HV h hd
 obtain ⟨R1,R2,R3⟩:=R
 simp only
 generalize hL:allA l num = A at SD HV2 AI AD hal
 clear hL
 have SD1:Hid (Calls Tryz.prog 171 #[.slice p l.length c,.int .i64 num,.slice (some ⟨w.heap.size + 1,0,none⟩) 1 1] ((w.alloc (Obj.cells #[.int .i64 0,.int .i64 0,.int .u64 0,.slice none 0 0] 148)).alloc (Obj.cells #[.int .i64 wire] 3)) fun e w' => ∃ v,e = .returned (.tuple #[v,.int .i64 (if okW [wire] A then 0 else 6)]) ∧ OwnF 148 ((w.alloc (Obj.cells #[.int .i64 0,.int .i64 0,.int .u64 0,.slice none 0 0] 148)).alloc (Obj.cells #[.int .i64 wire] 3)) w' v (if okW [wire] A then A else [])):=hide (uh SD _ (al2p _ _ _) _ _ (by have:=ls_one64 (w.alloc (Obj.cells #[.int .i64 0,.int .i64 0,.int .u64 0,.slice none 0 0] 148)) wire 3; rw [alloc_size6] at this; exact this))
 clear SD
 cases hok:okW [wire] A with
 | false =>
   rw [hok] at SD1 HV2
   simp only [Bool.false_eq_true,if_false] at SD1
   have HE:Hid (R1 = noFld ∧ R2 = false ∧ R3 = 6):=hide (by have:=uh HV2; rw [if_pos rfl] at this; simpa using this)
   clear hok HV2
   go_enter Tryz.func167,Tryz.ntmps167
   go_wp2_with fail
   refine (uh SD1).mono ?_
   rintro e w1 ⟨v1,rfl,hO⟩
   obtain ⟨q1,d1,rfl,hc,_⟩:=hO.form
   have B1:=hide (bl_tr (al2p _ _ _) hO.2)
   have R0:=hide (Box.below (Box.alloc (Box.new w #[.int .i64 0,.int .i64 0,.int .u64 0,.slice none 0 0] 148) _) hO.2)
   have z1:w.heap.size < w1.heap.size:=(uh R0).lt
   have r0:=(uh R0).cell
   have f0:=(uh R0).frozen
   clear hc hO SD1
   go_wp2_with fail
   obtain ⟨g1,g2,g3⟩:=uh HE
   subst g1 g2 g3
   exact bodyPost_ret (v:=.tuple #[faV noFA,.bool false,.int .i64 6]) (by simp [results,Tryz.results167,go_sem,faV,noFA,((uh R0).set4 (.int .i64 0) (.int .i64 0) (.int .u64 0) (.slice none 0 0)).cell]) rfl ⟨noFA,rfl,hide ⟨rfl,noFA_in _,OwnD.no _ _ _ _ _,bset4 (uh B1) (by omega) _ _ _ _⟩⟩
 | true =>
   rw [hok] at SD1 HV2
   simp only [if_true] at SD1
   clear hok
   by_cases h0:A.length = 0
   ·have hA:A = []:=List.eq_nil_of_length_eq_zero h0
    subst hA
    have HE:Hid (R1 = noFld ∧ R2 = false ∧ R3 = 0):=hide (by have:=uh HV2; rw [if_neg (by decide)] at this; simpa using this)
    clear HV2 h0
    go_enter Tryz.func167,Tryz.ntmps167
    go_wp2_with fail
    refine (uh SD1).mono ?_
    rintro e w1 ⟨v1,rfl,hO⟩
    obtain ⟨q1,d1,rfl,hc,_⟩:=hO.form
    have B1:=hide (bl_tr (al2p _ _ _) hO.2)
    have R0:=hide (Box.below (Box.alloc (Box.new w #[.int .i64 0,.int .i64 0,.int .u64 0,.slice none 0 0] 148) _) hO.2)
    have z1:w.heap.size < w1.heap.size:=(uh R0).lt
    have r0:=(uh R0).cell
    have f0:=(uh R0).frozen
    clear hc hO SD1
    go_wp2_with fail
    obtain ⟨g1,g2,g3⟩:=uh HE
    subst g1 g2 g3
    exact bodyPost_ret (v:=.tuple #[faV noFA,.bool false,.int .i64 0]) (by simp [results,Tryz.results167,go_sem,faV,noFA,((uh R0).set4 (.int .i64 0) (.int .i64 0) (.int .u64 0) (.slice none 0 0)).cell]) rfl ⟨noFA,rfl,hide ⟨rfl,noFA_in _,OwnD.no _ _ _ _ _,bset4 (uh B1) (by omega) _ _ _ _⟩⟩
   ·have t0:((A.length:Int) == 0) = false:=by rw [beq_eq_false_iff_ne]; omega
    have HE:Hid (R1 = (A.getD (A.length - 1) noFA).f ∧ R2 = true ∧ R3 = 0):=hide (by have:=uh HV2; rw [if_neg (by decide),if_neg h0] at this; simpa using this)
    have hl1:(A.length:Int) - 1 = ((A.length - 1:Nat):Int):=by omega
    have hl2:((A.length - 1:Nat):Int) < (A.length:Int):=by omega
    have hl3:A.length - 1 < A.length:=by omega
    have CC:=hide (fun v (hv:Below w.heap.size w v) => ccopied_any (A.getD (A.length - 1) noFA) v ((uh AI _ (getD_memF hl3)).below hv) (uh AD _ (getD_memF hl3)))
    clear HV2 h0
    go_enter Tryz.func167,Tryz.ntmps167
    go_wp2_with fail
    refine (uh SD1).mono ?_
    rintro e w1 ⟨v1,rfl,hO⟩
    obtain ⟨q1,d1,rfl,hc,_⟩:=hO.form
    have B1:=hide (bl_tr (al2p _ _ _) hO.2)
    have R0:=hide (Box.below (Box.alloc (Box.new w #[.int .i64 0,.int .i64 0,.int .u64 0,.slice none 0 0] 148) _) hO.2)
    have z1:w.heap.size < w1.heap.size:=(uh R0).lt
    have r0:=(uh R0).cell
    have f0:=(uh R0).frozen
    obtain ⟨b,o,rfl,hb,k0,k1,k2,k3⟩:=hc.at hl3
    clear hc hO SD1
    generalize A.getD (A.length - 1) noFA = a at HE CC k0 k1 k2 k3
    generalize A.length - 1 = m at k0 k1 k2 k3 hl1 hl2
    unfold faV at CC
    clear hl3
    go_wp2_with fail
    refine (uh CC _ (uh B1)).mono ?_
    rintro e w5 ⟨a',rfl,hq⟩
    obtain ⟨g1,g2,g3,g4⟩:=uh hq
    have B5:=hide (bl_tr (uh B1) g4)
    have R5:=hide ((uh R0).below g4)
    have r5:=(uh R5).cell
    have f5:=(uh R5).frozen
    have z5:w.heap.size < w5.heap.size:=(uh R5).lt
    have G1:=hide g1
    have G2:=hide g2
    have G3:=hide g3
    clear hq g1 g2 g3 g4 CC r0 f0
    go_wp2_with fail
    refine bodyPost_ret (v:=.tuple #[faV a',.bool true,.int .i64 0]) (by simp [results,Tryz.results167,go_sem,faV,((uh R5).set4 (.int .i64 a'.n) (.int .i64 a'.wr) (.int .u64 a'.x) (.slice a'.q a'.d.length a'.c)).cell]) rfl ?_
    obtain ⟨e1,e2,e3⟩:=uh HE
    subst e2 e3
    refine ⟨a',rfl,hide ⟨by rw [e1]; exact uh G1,?_,?_,bset4 (uh B5) (by omega) _ _ _ _⟩⟩
    ·refine ⟨(uh G2).1,(uh G2).2.1,(uh G2).2.2.1,?_⟩
     have hf:∀ b o,a'.q = some ⟨b,o,none⟩ → 0 < a'.d.length → b ≠ w.heap.size:=fun b o e hp => by
      rcases (uh G3).2 with ⟨_,hn⟩ | ⟨g,cap,cur,hv,hg,_⟩
      ·omega
      ·simp only [Value.slice.injEq] at hv
       rw [hv.1] at e
       simp only [Option.some.injEq,Addr.mk.injEq] at e
       have:=e.1
       omega
     exact ((((uh G2).2.2.2.ls.far hf).far hf).far hf |>.far hf).ints (uh G2).2.2.2.2.2.1
    ·have:=OwnD.mono (uh G3) (show w.heap.size + 1 ≤ w1.heap.size by omega)
     refine (OwnD.kept this (fun b cur hb _ => ?_)).mono (by omega)
     rw [Below.heap_setCell _ _ _ _ (by simp; omega),Below.heap_setCell _ _ _ _ (by simp; omega),Below.heap_setCell _ _ _ _ (by simp; omega),Below.heap_setCell _ _ _ _ (by simp; omega)]
theorem cjoined_any (p:Option Addr) (c:Nat) (l:List FA) (num:Int) (w:World) (h:Fls w p c l) (hs:l.length * 48 ≤ 140737488355328) (hd:sumD l ≤ 140737488355328) :
  Calls Tryz.prog 116 #[.slice p l.length c,.int .i64 num] w fun e w' => ∃ v,e = .returned (.tuple #[v,.bool (joinV (l.map FA.f) num).2.1,.int .i64 (joinV (l.map FA.f) num).2.2]) ∧ OwnG 5 (Value.int .u8) w w' v (joinV (l.map FA.f) num).1:=by
 obtain ⟨i1,hi1,y1,z1,b1⟩:=info_parts Tryz.infoU8
 have SD:=hide (fun v (hv:Below w.heap.size w v) q d hq => csaid_any p q c d l num [2] v (h.below hv) hq hs)
 have nl:=h.1.len
 have hal:(allA l num).length ≤ l.length:=List.length_filter_le _ _
 have hsd:=sumD_all l num
 have AI:=hide (allA_in (num:=num) h.2)
 have HV:Hid (joinV (l.map FA.f) num = if okW [2] (allA l num) = false then ([],false,6) else (flatD (allA l num),decide (0 < (allA l num).length),0)):=hide (by
  have e1:(allV (l.map FA.f) num).any (fun f => f.2.1 != 2) = (allA l num).any (fun a => a.wr != 2):=by rw [← allA_f,any_map]; rfl
  have e2:(allV (l.map FA.f) num).length = (allA l num).length:=by rw [← allA_f,List.length_map]
  unfold joinV
  rw [e1,e2,← allA_f,flatD_f,okW_one]
  cases (allA l num).any (fun a => a.wr != 2) <;> rfl)
 generalize hR:joinV (l.map FA.f) num = R at HV ⊢
 clear hR h
 obtain ⟨R1,R2,R3⟩:=R
 simp only at HV ⊢
 generalize hL:allA l num = A at SD HV hal hsd AI
 clear hL
 have SD1:Hid (Calls Tryz.prog 171 #[.slice p l.length c,.int .i64 num,.slice (some ⟨w.heap.size,0,none⟩) 1 1] (w.alloc (Obj.cells #[.int .i64 2] 3)) fun e w' => ∃ v,e = .returned (.tuple #[v,.int .i64 (if okW [2] A then 0 else 6)]) ∧ OwnF 148 (w.alloc (Obj.cells #[.int .i64 2] 3)) w' v (if okW [2] A then A else [])):=hide (uh SD _ (al1p _ _) _ _ (ls_one64 w 2 3))
 clear SD
 cases hok:okW [2] A with
 | false =>
   rw [hok] at SD1 HV
   simp only [Bool.false_eq_true,if_false] at SD1
   have HE:Hid (R1 = [] ∧ R2 = false ∧ R3 = 6):=hide (by have:=uh HV; rw [if_pos rfl] at this; simpa using this)
   clear hok HV
   go_enter Tryz.func116,Tryz.ntmps116
   go_wp2_with fail
   refine (uh SD1).mono ?_
   rintro e w1 ⟨v1,rfl,hO⟩
   have B1:=hide (bl_tr (al1p _ _) hO.2)
   clear hO SD1
   go_wp2_with fail
   go_ret3
   obtain ⟨g1,g2,g3⟩:=uh HE
   subst g1 g2 g3
   exact ⟨_,rfl,OwnG.nil _ _ _ (uh B1)⟩
 | true =>
   rw [hok] at SD1 HV
   simp only [if_true] at SD1
   have HE:Hid (R1 = flatD A ∧ R2 = decide (0 < A.length) ∧ R3 = 0):=hide (by have:=uh HV; rw [if_neg (by decide)] at this; simpa using this)
   clear hok HV
   go_enter Tryz.func116,Tryz.ntmps116
   go_wp2_with fail
   refine (uh SD1).mono ?_
   rintro e w1 ⟨v1,rfl,hO⟩
   obtain ⟨q1,d1,rfl,hc,_⟩:=hO.form
   have C1:=hide hc
   have B1:=hide (bl_tr (al1p _ _) hO.2)
   clear hc hO SD1
   go_wp2_with fail
   go_loopw [9,24] (fun v iv wr => ∃ n:Nat,iv = .int .i64 n ∧ n ≤ A.length ∧ Hid (OwnG 5 (Value.int .u8) w1 wr v (flatD (A.take n)))) (fun _ iv _ => A.length - (intOf iv).toNat)
   case atStart => exact ⟨0,rfl,by omega,hide (OwnG.nil _ _ _ (Below.refl _ _))⟩
   case round =>
    obtain ⟨n,rfl,hn,O⟩:=hrel
    by_cases hlt:n < A.length
    ·have hi:(n:Int) < (A.length:Int):=by omega
     obtain ⟨b,o,rfl,hb,k0,k1,k2,k3⟩:=((uh C1).below (uh O).2).at hlt
     have HX:Hid (flatD (A.take (n + 1)) = flatD (A.take n) ++ (A.getD n noFA).d):=hide (by rw [take_addF A n hlt]; simp [flatD])
     have HI:=hide ((uh AI _ (getD_memF hlt)).below (bl_tr (uh B1) (uh O).2))
     have hsz:(flatD (A.take n)).length + (A.getD n noFA).d.length ≤ sumD A:=by
      have e1:=sumD_take A (n + 1)
      rw [take_addF A n hlt,sumD_append] at e1
      rw [flatD_len]
      simpa [sumD] using e1
     generalize A.getD n noFA = a at k0 k1 k2 k3 HX HI hsz
     go_wp2_with (at_builtin; (refine wpList_append_ls rfl _ _ 22 rfl w1 5 i1 (.int .u8 0) 1 Tryz.underlying22 hi1 y1 z1 b1 rfl (int_one .u8) _ (flatD (A.take n)) rfl ((uh O).below (al1p _ _)) a.q a.c a.d rfl ((uh HI).below (al1p _ _)).2.2.2.ls (by unfold maxLen; omega) (by omega) ?_; intro v2 w2 O2; have HO2:=hide O2; clear O2))
     go_roundw
     case rel => exact ⟨n + 1,by go_num,by omega,hide (by rw [uh HX]; exact uh HO2)⟩
     case measure => simp [intOf]; omega
    ·have hi:¬ (n:Int) < (A.length:Int):=by omega
     have HO:Hid (OwnG 5 (Value.int .u8) w wr u9 (flatD A)):=hide (by
      have:=uh O
      rw [List.take_of_length_le (by omega)] at this
      exact this.early (uh B1))
     clear O
     by_cases h0:0 < A.length
     ·have t0:decide ((0:Int) < (A.length:Int)) = true:=decide_eq_true (by omega)
      go_wp2_with fail
      go_ret3
      obtain ⟨g1,g2,g3⟩:=uh HE
      rw [decide_eq_true h0] at g2
      subst g1 g2 g3
      exact ⟨_,rfl,uh HO⟩
     ·have t0:decide ((0:Int) < (A.length:Int)) = false:=decide_eq_false (by omega)
      go_wp2_with fail
      go_ret3
      obtain ⟨g1,g2,g3⟩:=uh HE
      rw [decide_eq_false h0] at g2
      subst g1 g2 g3
      exact ⟨_,rfl,uh HO⟩
def foursO (d:List Int):Option (List Int):=if d.length % 4 = 0 then some (fours d) else none
def num5 (f:Fld):Option (List Int):=if f.2.1 = 5 then some [f.2.2.1] else if f.2.1 = 2 then foursO f.2.2.2 else none
theorem num5_5 {a:FA} (h:a.wr = 5):num5 a.f = some [a.x]:=by unfold num5 FA.f; simp [h]
theorem num5_2 {a:FA} (h:a.wr = 2):num5 a.f = foursO a.d:=by unfold num5 FA.f; simp [h]
theorem num5_no {a:FA} (h:¬ a.wr = 5) (k:¬ a.wr = 2):num5 a.f = none:=by unfold num5 FA.f; simp [h,k]
theorem allOr_mem_none {g:Fld → Option (List Int)}:∀ {l:List Fld} {f:Fld},f ∈ l → g f = none → allOr g l = none
 | x :: r,f,hf,hn => by
   rw [allOr]
   rcases List.mem_cons.1 hf with e | e
   ·subst e; rw [hn]
   ·cases g x with
    | none => rfl
    | some y => simp only [allOr_mem_none e hn,Option.map_none]
theorem foursO_len {d xs:List Int} (h:foursO d = some xs):xs.length ≤ d.length:=by
 unfold foursO at h
 split at h
 ·simp only [Option.some.injEq] at h
  rw [← h,fours_len]; omega
 ·cases h
theorem cpartsV_any (p:Option Addr) (c:Nat) (b:List Int) (w:World) (h:Ints .u8 w p c b) (hs:b.length * 8 ≤ 140737488355328) :
  Calls Tryz.prog 260 #[.slice p b.length c,.func (.func 190) #[] #[]] w fun e w' => ∃ v,e = .returned (.tuple #[v,.int .i64 (errO (varsL b))]) ∧ OwnG 45 (Value.int .u64) w w' v ((varsL b).getD []):=by
 obtain ⟨i1,hi1,y1,z1,b1⟩:=info_parts Tryz.infoU64
 have A1:=hide h
 clear h
 obtain ⟨S,hS⟩:∃ S,varsL b = S:=⟨_,rfl⟩
 have HSp:=hide hS
 rw [hS]
 clear hS
 go_enter Tryz.func260,Tryz.ntmps260
 go_wp2_with fail
 go_step3
 go_wp2_with fail
 go_step3
 go_wp2_with fail
 go_loopw [6,7] (fun v iv wr => ∃ n:Nat,∃ ys:List Int,iv = .int .i64 n ∧ n ≤ b.length ∧ ys.length ≤ n ∧ Hid (varsL b = (varsL (b.drop n)).map (ys ++ ·)) ∧ Hid (OwnG 45 (Value.int .u64) w wr v ys)) (fun _ iv _ => b.length - (intOf iv).toNat)
 case atStart => exact ⟨0,[],rfl,by omega,by simp,hide (by rw [List.drop_zero]; cases varsL b <;> rfl),hide (OwnG.nil _ _ _ (Below.refl _ _))⟩
 case round =>
  obtain ⟨n,ys,rfl,hn,hyl,HY,O⟩:=hrel
  by_cases hlt:n < b.length
  ·have hi:((n:Int) == (b.length:Int)) = false:=by rw [beq_eq_false_iff_ne]; omega
   have HS:=hide (vars_step hlt (uh HY))
   have RV:=hide (fun v (hv:Below w.heap.size w v) => crdv_any p c b (n:Int) v ((uh A1).below hv) (by omega))
   have RV2:=hide (uh RV _ (uh O).2)
   rw [rdV_in hn] at RV2
   rcases hgo:rdG 10 (b.drop n) with _ | ⟨x,k⟩ <;> rw [hgo] at RV2 HS <;> simp only at RV2 HS
   ·have HE:Hid (S = none):=hide (by rw [← uh HSp]; exact uh HS)
    clear hgo HS
    have BB:=hide (uh O).2
    clear RV HY
    go_wp2_with fail
    refine (uh RV2).mono ?_
    rintro e v ⟨rfl,hv⟩
    replace hv:=hv.symm
    subst hv
    go_wp2_with fail
    rw [Exit.noGoto_ret]
    go_ret2
    exact ⟨_,by rw [uh HE]; rfl,by rw [uh HE]; exact OwnG.nil _ _ _ (uh BB)⟩
   ·obtain ⟨g1,g2,g3⟩:=rdG_count 10 _ x k hgo
    simp at g3
    obtain ⟨m,hm⟩:∃ m,n + k = m:=⟨_,rfl⟩
    rw [hm] at RV2 HS
    have HY2:Hid (varsL b = (varsL (b.drop m)).map ((ys ++ [x]) ++ ·)):=hide (by rw [uh HS])
    have hm1:n < m:=by omega
    have hm2:m ≤ b.length:=by omega
    clear hgo HS hm
    clear RV HY
    go_wp2_with fail
    refine (uh RV2).mono ?_
    rintro e v ⟨rfl,hv⟩
    replace hv:=hv.symm
    subst hv
    go_wp2_with (at_builtin; (refine wpList_append_ls rfl _ _ 239 rfl w 45 i1 (.int .u64 0) 8 Tryz.underlying239 hi1 y1 z1 b1 rfl (int_one .u64) _ ys rfl ((uh O).below (al1p _ _)) (some ⟨_,0,none⟩) 1 [x] rfl (ls_one6 _ _ _) (by unfold maxLen; simp only [List.length_singleton]; omega) (by simp only [List.length_singleton]; omega) ?_; intro v2 w2 O2; have HO2:=hide O2; clear O2))
    go_roundw
    case rel => exact ⟨m,ys ++ [x],rfl,by omega,by simp; omega,HY2,HO2⟩
    case measure => simp [intOf]; omega
  ·have en:n = b.length:=by omega
   have hi:((n:Int) == (b.length:Int)) = true:=by rw [en]; simp
   have HE:Hid (S = some ys):=hide (by
    have h1:=uh HY
    rw [List.drop_of_length_le (by omega),varsL_nil] at h1
    simp only [Option.map_some,List.append_nil] at h1
    rw [← uh HSp]
    exact h1)
   have HO:=O
   clear HY O en
   go_wp2_with fail
   rw [Exit.noGoto_ret]
   go_ret2
   exact ⟨_,by rw [uh HE]; rfl,by rw [uh HE]; exact uh HO⟩
theorem cpartsW_any (p:Option Addr) (c:Nat) (b:List Int) (w:World) (h:Ints .u8 w p c b) (hs:b.length * 8 ≤ 140737488355328) :
  Calls Tryz.prog 260 #[.slice p b.length c,.func (.func 192) #[] #[]] w fun e w' => ∃ v,e = .returned (.tuple #[v,.int .i64 (errO (foursO b))]) ∧ OwnG 45 (Value.int .u64) w w' v ((foursO b).getD []):=by
 obtain ⟨i1,hi1,y1,z1,b1⟩:=info_parts Tryz.infoU64
 have A1:=hide h
 clear h
 obtain ⟨S,hS⟩:∃ S,foursO b = S:=⟨_,rfl⟩
 have HSp:=hide hS
 rw [hS]
 clear hS
 go_enter Tryz.func260,Tryz.ntmps260
 go_wp2_with fail
 go_step3
 go_wp2_with fail
 go_step3
 go_wp2_with fail
 go_loopw [6,7] (fun v iv wr => ∃ n:Nat,∃ ys:List Int,iv = .int .i64 n ∧ n ≤ b.length ∧ ys.length ≤ n ∧ Hid (n = 4 * ys.length ∧ ys = (fours b).take ys.length) ∧ Hid (OwnG 45 (Value.int .u64) w wr v ys)) (fun _ iv _ => b.length - (intOf iv).toNat)
 case atStart => exact ⟨0,[],rfl,by omega,by simp,hide (by exact ⟨rfl,by simp⟩),hide (OwnG.nil _ _ _ (Below.refl _ _))⟩
 case round =>
  obtain ⟨n,ys,rfl,hn,hyl,HY,O⟩:=hrel
  by_cases hlt:n < b.length
  ·have hi:((n:Int) == (b.length:Int)) = false:=by rw [beq_eq_false_iff_ne]; omega
   have RV:=hide (fun v (hv:Below w.heap.size w v) => cfour_any p c b n v ((uh A1).below hv) hn (by omega))
   have RV2:=hide (uh RV _ (uh O).2)
   by_cases hsh:b.length < n + 4
   ·rw [if_pos hsh] at RV2
    have HE:Hid (S = none):=hide (by
     rw [← uh HSp]
     unfold foursO
     rw [if_neg (by have:=(uh HY).1; omega)])
    have BB:=hide (uh O).2
    clear RV HY
    go_wp2_with fail
    refine (uh RV2).mono ?_
    rintro e v ⟨rfl,hv⟩
    replace hv:=hv.symm
    subst hv
    go_wp2_with fail
    rw [Exit.noGoto_ret]
    go_ret2
    exact ⟨_,by rw [uh HE]; rfl,by rw [uh HE]; exact OwnG.nil _ _ _ (uh BB)⟩
   ·rw [if_neg hsh] at RV2
    obtain ⟨m,hm⟩:∃ m,n + 4 = m:=⟨_,rfl⟩
    rw [hm] at RV2
    obtain ⟨x,hx⟩:∃ x,leV ((b.drop n).take 4) = x:=⟨_,rfl⟩
    rw [hx] at RV2
    have HY2:Hid (m = 4 * (ys ++ [x]).length ∧ ys ++ [x] = (fours b).take (ys ++ [x]).length):=hide (by
     obtain ⟨h1,h2⟩:=uh HY
     have e:(ys ++ [x]).length = ys.length + 1:=by simp
     refine ⟨by rw [e]; omega,?_⟩
     rw [e,fours_take b ys.length (by omega),← h2,← h1,hx])
    have hm1:n < m:=by omega
    have hm2:m ≤ b.length:=by omega
    clear hm hx
    clear RV HY
    go_wp2_with fail
    refine (uh RV2).mono ?_
    rintro e v ⟨rfl,hv⟩
    replace hv:=hv.symm
    subst hv
    go_wp2_with (at_builtin; (refine wpList_append_ls rfl _ _ 239 rfl w 45 i1 (.int .u64 0) 8 Tryz.underlying239 hi1 y1 z1 b1 rfl (int_one .u64) _ ys rfl ((uh O).below (al1p _ _)) (some ⟨_,0,none⟩) 1 [x] rfl (ls_one6 _ _ _) (by unfold maxLen; simp only [List.length_singleton]; omega) (by simp only [List.length_singleton]; omega) ?_; intro v2 w2 O2; have HO2:=hide O2; clear O2))
    go_roundw
    case rel => exact ⟨m,ys ++ [x],rfl,by omega,by simp; omega,HY2,HO2⟩
    case measure => simp [intOf]; omega
  ·have en:n = b.length:=by omega
   have hi:((n:Int) == (b.length:Int)) = true:=by rw [en]; simp
   have HE:Hid (S = some ys):=hide (by
    obtain ⟨h1,h2⟩:=uh HY
    rw [← uh HSp]
    unfold foursO
    rw [if_pos (by omega)]
    have h3:ys.length = (fours b).length:=by rw [fours_len]; omega
    rw [h3,List.take_length] at h2
    rw [h2])
   have HO:=O
   clear HY O en
   go_wp2_with fail
   rw [Exit.noGoto_ret]
   go_ret2
   exact ⟨_,by rw [uh HE]; rfl,by rw [uh HE]; exact uh HO⟩
theorem varsF_len:∀ (n:Nat) (r xs:List Int),varsF n r = some xs → xs.length ≤ r.length
 | 0,r,xs,h => by
   unfold varsF at h
   first
    | (simp only [Option.some.injEq] at h; subst h; simp)
    | (split at h <;> first | (simp only [Option.some.injEq] at h; subst h; simp) | cases h)
 | n + 1,r,xs,h => by
   unfold varsF at h
   split at h
   ·simp only [Option.some.injEq] at h; subst h; simp
   ·cases hg:rdG 10 r with
    | none => rw [hg] at h; cases h
    | some y =>
      rw [hg] at h
      simp only at h
      obtain ⟨c1,c2,c3⟩:=rdG_count 10 r y.1 y.2 hg
      cases hv:varsF n (r.drop y.2) with
      | none => rw [hv] at h; cases h
      | some zs =>
        rw [hv] at h
        simp only [Option.map_some,Option.some.injEq] at h
        subst h
        have:=varsF_len n _ zs hv
        simp at this ⊢
        omega
theorem varsL_len {r xs:List Int} (h:varsL r = some xs):xs.length ≤ r.length:=varsF_len _ r xs h
theorem ls_one62 {f:Int → Value} (w:World) (o:Obj) (x:Int) (t:TypeId):Ls f ((w.alloc o).alloc (.cells #[f x] t)) (some ⟨w.heap.size + 1,0,none⟩) 1 [x]:=by
 have:=ls_one6 (f:=f) (w.alloc o) x t
 rw [alloc_size6] at this
 exact this
theorem ls_two64 (w:World) (x y:Int) (t:TypeId):Ls (Value.int .i64) (w.alloc (.cells #[.int .i64 x,.int .i64 y] t)) (some ⟨w.heap.size,0,none⟩) 2 [x,y]:=ls_two w x y t
theorem okW_cnumV_any {A:List FA} (h:okW [0,2] A = false):allOr int1 (A.map FA.f) = none:=by
 unfold okW at h
 rw [List.all_eq_false] at h
 obtain ⟨a,ha,hn⟩:=h
 have h1:¬ a.wr = 0 ∧ ¬ a.wr = 2:=by simp at hn; exact hn
 exact allOr_mem_none (List.mem_map.2 ⟨a,ha,rfl⟩) (int1_no h1.1 h1.2)
theorem cnumV_any (p:Option Addr) (c:Nat) (l:List FA) (num:Int) (w:World) (h:Fls w p c l) (hs:l.length * 48 ≤ 140737488355328) (hd:(sumD l + l.length) * 8 ≤ 140737488355328) :
  Calls Tryz.prog 252 #[.slice p l.length c,.int .i64 num,.int .i64 0,.func (.func 190) #[] #[]] w fun e w' => ∃ v,e = .returned (.tuple #[v,.int .i64 (listV int1 (l.map FA.f) num).2]) ∧ OwnG 45 (Value.int .u64) w w' v (listV int1 (l.map FA.f) num).1:=by
 obtain ⟨i1,hi1,y1,z1,b1⟩:=info_parts Tryz.infoU64
 have SD:=hide (fun v (hv:Below w.heap.size w v) q d hq => csaid_any p q c d l num [0,2] v (h.below hv) hq hs)
 have nl:=h.1.len
 have hal:(allA l num).length ≤ l.length:=List.length_filter_le _ _
 have hsd:=sumD_all l num
 have AI:=hide (allA_in (num:=num) h.2)
 have HV:Hid (listV int1 (l.map FA.f) num = match allOr int1 ((allA l num).map FA.f) with
   | none => ([],6)
   | some x => (x,0)):=hide (by unfold listV; rw [← allA_f]; cases allOr int1 ((allA l num).map FA.f) <;> rfl)
 generalize hR:listV int1 (l.map FA.f) num = R at HV ⊢
 clear hR h
 obtain ⟨R1,R2⟩:=R
 simp only at HV ⊢
 generalize hL:allA l num = A at SD HV hal hsd AI
 clear hL
 have SD1:Hid (Calls Tryz.prog 171 #[.slice p l.length c,.int .i64 num,.slice (some ⟨w.heap.size,0,none⟩) 2 2] (w.alloc (Obj.cells #[.int .i64 0,.int .i64 2] 3)) fun e w' => ∃ v,e = .returned (.tuple #[v,.int .i64 (if okW [0,2] A then 0 else 6)]) ∧ OwnF 148 (w.alloc (Obj.cells #[.int .i64 0,.int .i64 2] 3)) w' v (if okW [0,2] A then A else [])):=hide (uh SD _ (al1p _ _) _ _ (ls_two64 w 0 2 3))
 clear SD
 cases hok:okW [0,2] A with
 | false =>
   have HE:Hid (R1 = [] ∧ R2 = 6):=hide (by have:=uh HV; rw [okW_cnumV_any hok] at this; simpa using this)
   rw [hok] at SD1
   simp only [Bool.false_eq_true,if_false] at SD1
   clear hok HV
   go_enter Tryz.func252,Tryz.ntmps252
   go_wp2_with fail
   refine (uh SD1).mono ?_
   rintro e w1 ⟨v1,rfl,hO⟩
   have B1:=hide (bl_tr (al1p _ _) hO.2)
   clear hO SD1
   go_wp2_with fail
   go_ret2
   obtain ⟨g1,g2⟩:=uh HE
   subst g1 g2
   exact ⟨_,rfl,OwnG.nil _ _ _ (uh B1)⟩
 | true =>
   have HOK:Hid (∀ a ∈ A,a.wr = 0 ∨ a.wr = 2):=hide (fun a ha => by
    unfold okW at hok
    have:=List.all_eq_true.1 hok a ha
    simp at this
    exact this)
   rw [hok] at SD1
   simp only [if_true] at SD1
   clear hok
   go_enter Tryz.func252,Tryz.ntmps252
   go_wp2_with fail
   refine (uh SD1).mono ?_
   rintro e w1 ⟨v1,rfl,hO⟩
   obtain ⟨q1,d1,rfl,hc,_⟩:=hO.form
   have C1:=hide hc
   have B1:=hide (bl_tr (al1p _ _) hO.2)
   clear hc hO SD1
   go_wp2_with fail
   go_loopw [12,30] (fun v iv wr => ∃ n:Nat,∃ xs:List Int,iv = .int .i64 n ∧ n ≤ A.length ∧ xs.length ≤ sumD (A.take n) + n ∧ Hid (allOr int1 ((A.take n).map FA.f) = some xs) ∧ Hid (OwnG 45 (Value.int .u64) w1 wr v xs)) (fun _ iv _ => A.length - (intOf iv).toNat)
   case atStart => exact ⟨0,[],rfl,by omega,by simp,hide rfl,hide (OwnG.nil _ _ _ (Below.refl _ _))⟩
   case round =>
    obtain ⟨n,xs,rfl,hn,hxl,HX,O⟩:=hrel
    by_cases hlt:n < A.length
    ·have hi:(n:Int) < (A.length:Int):=by omega
     obtain ⟨b,o,rfl,hb,k0,k1,k2,k3⟩:=((uh C1).below (uh O).2).at hlt
     have HA:=hide (allOr_one int1 A n hlt xs (uh HX))
     have HI:=hide ((uh AI _ (getD_memF hlt)).below (bl_tr (uh B1) (uh O).2))
     have hsz:sumD (A.take (n + 1)) = sumD (A.take n) + (A.getD n noFA).d.length:=by
      rw [take_addF A n hlt,sumD_append]; simp [sumD]
     have hsz2:=sumD_take A (n + 1)
     have hwr:=uh HOK _ (getD_memF hlt)
     generalize A.getD n noFA = a at k0 k1 k2 k3 HA HI hsz hwr
     by_cases h0:a.wr = 0
     ·have t0:(a.wr == 0) = true:=by simp [h0]
      have HA2:Hid (allOr int1 ((A.take (n + 1)).map FA.f) = some (xs ++ [a.x])):=hide (by rw [uh HA,int1_0 h0]; rfl)
      clear HA HX h0 hwr
      go_wp2_with (at_builtin; (refine wpList_append_ls rfl _ _ 239 rfl w1 45 i1 (.int .u64 0) 8 Tryz.underlying239 hi1 y1 z1 b1 rfl (int_one .u64) _ xs rfl ((uh O).below (al2p _ _ _)) (some ⟨_,0,none⟩) 1 [a.x] rfl (ls_one62 _ _ _ _) (by unfold maxLen; simp <;> omega) (by simp <;> omega) ?_; intro v2 w2 O2; have HO2:=hide O2; clear O2))
      go_roundw
      case rel => exact ⟨n + 1,xs ++ [a.x],by go_num,by omega,by simp; omega,HA2,HO2⟩
      case measure => simp [intOf]; omega
     ·have t0:(a.wr == 0) = false:=by simp [h0]
      have h2:a.wr = 2:=by omega
      have hdl:=(uh HI).2.2.2.len
      have PT:=hide (fun v hv => cpartsV_any a.q a.c a.d v ((uh HI).below hv).2.2.2 (by omega))
      cases hz:varsL a.d with
      | none =>
        rw [hz] at PT
        have HE:Hid (R1 = [] ∧ R2 = 6):=hide (by
         have h3:allOr int1 (A.map FA.f) = none:=allOr_none (n:=n + 1) (by rw [uh HA,int1_2 h2,hz]; rfl)
         have:=uh HV
         rw [h3] at this
         simpa using this)
        have BB:=hide (bl_tr (uh B1) (uh O).2)
        simp only [errO,Option.isSome_none,Bool.false_eq_true,if_false] at PT
        clear HA HX h0 hwr h2 hz
        go_wp2_with fail
        refine (uh PT _ (al1p _ _)).mono ?_
        rintro e w5 ⟨v5,rfl,hO⟩
        have B5:=hide (bl_tr (uh BB) (bl_tr (al1p _ _) hO.2))
        clear hO PT
        go_wp2_with fail
        go_ret2
        obtain ⟨g1,g2⟩:=uh HE
        subst g1 g2
        exact ⟨_,rfl,OwnG.nil _ _ _ (uh B5)⟩
      | some zs =>
        rw [hz] at PT
        simp only [errO,Option.isSome_some,if_true,Option.getD_some] at PT
        have hzl:=varsL_len hz
        have HA2:Hid (allOr int1 ((A.take (n + 1)).map FA.f) = some (xs ++ zs)):=hide (by rw [uh HA,int1_2 h2,hz]; rfl)
        clear HA HX h0 hwr h2 hz
        go_wp2_with fail
        refine (uh PT _ (al1p _ _)).mono ?_
        rintro e w5 ⟨v5,rfl,hO⟩
        obtain ⟨q5,d5,rfl,hl5,_⟩:=hO.form
        have L5:=hide hl5
        have O5:=hide ((uh O).below (bl_tr (al1p _ _) hO.2))
        clear hO hl5 PT
        go_wp2_with (at_builtin; (refine wpList_append_ls rfl _ _ 239 rfl w1 45 i1 (.int .u64 0) 8 Tryz.underlying239 hi1 y1 z1 b1 rfl (int_one .u64) _ xs rfl (uh O5) q5 d5 zs rfl (uh L5) (by unfold maxLen; omega) (by omega) ?_; intro v2 w2 O2; have HO2:=hide O2; clear O2))
        go_roundw
        case rel => exact ⟨n + 1,xs ++ zs,by go_num,by omega,by simp; omega,HA2,HO2⟩
        case measure => simp [intOf]; omega
    ·have hi:¬ (n:Int) < (A.length:Int):=by omega
     have HE:Hid (R1 = xs ∧ R2 = 0):=hide (by
      have h1:=uh HX
      rw [List.take_of_length_le (by omega)] at h1
      have:=uh HV
      rw [h1] at this
      simpa using this)
     have HO:=hide ((uh O).early (uh B1))
     clear O HX
     go_wp2_with fail
     go_ret2
     obtain ⟨g1,g2⟩:=uh HE
     subst g1 g2
     exact ⟨_,rfl,uh HO⟩
theorem okW_cnumW_any {A:List FA} (h:okW [5,2] A = false):allOr num5 (A.map FA.f) = none:=by
 unfold okW at h
 rw [List.all_eq_false] at h
 obtain ⟨a,ha,hn⟩:=h
 have h1:¬ a.wr = 5 ∧ ¬ a.wr = 2:=by simp at hn; exact hn
 exact allOr_mem_none (List.mem_map.2 ⟨a,ha,rfl⟩) (num5_no h1.1 h1.2)
theorem cnumW_any (p:Option Addr) (c:Nat) (l:List FA) (num:Int) (w:World) (h:Fls w p c l) (hs:l.length * 48 ≤ 140737488355328) (hd:(sumD l + l.length) * 8 ≤ 140737488355328) :
  Calls Tryz.prog 252 #[.slice p l.length c,.int .i64 num,.int .i64 5,.func (.func 192) #[] #[]] w fun e w' => ∃ v,e = .returned (.tuple #[v,.int .i64 (listV num5 (l.map FA.f) num).2]) ∧ OwnG 45 (Value.int .u64) w w' v (listV num5 (l.map FA.f) num).1:=by
 obtain ⟨i1,hi1,y1,z1,b1⟩:=info_parts Tryz.infoU64
 have SD:=hide (fun v (hv:Below w.heap.size w v) q d hq => csaid_any p q c d l num [5,2] v (h.below hv) hq hs)
 have nl:=h.1.len
 have hal:(allA l num).length ≤ l.length:=List.length_filter_le _ _
 have hsd:=sumD_all l num
 have AI:=hide (allA_in (num:=num) h.2)
 have HV:Hid (listV num5 (l.map FA.f) num = match allOr num5 ((allA l num).map FA.f) with
   | none => ([],6)
   | some x => (x,0)):=hide (by unfold listV; rw [← allA_f]; cases allOr num5 ((allA l num).map FA.f) <;> rfl)
 generalize hR:listV num5 (l.map FA.f) num = R at HV ⊢
 clear hR h
 obtain ⟨R1,R2⟩:=R
 simp only at HV ⊢
 generalize hL:allA l num = A at SD HV hal hsd AI
 clear hL
 have SD1:Hid (Calls Tryz.prog 171 #[.slice p l.length c,.int .i64 num,.slice (some ⟨w.heap.size,0,none⟩) 2 2] (w.alloc (Obj.cells #[.int .i64 5,.int .i64 2] 3)) fun e w' => ∃ v,e = .returned (.tuple #[v,.int .i64 (if okW [5,2] A then 0 else 6)]) ∧ OwnF 148 (w.alloc (Obj.cells #[.int .i64 5,.int .i64 2] 3)) w' v (if okW [5,2] A then A else [])):=hide (uh SD _ (al1p _ _) _ _ (ls_two64 w 5 2 3))
 clear SD
 cases hok:okW [5,2] A with
 | false =>
   have HE:Hid (R1 = [] ∧ R2 = 6):=hide (by have:=uh HV; rw [okW_cnumW_any hok] at this; simpa using this)
   rw [hok] at SD1
   simp only [Bool.false_eq_true,if_false] at SD1
   clear hok HV
   go_enter Tryz.func252,Tryz.ntmps252
   go_wp2_with fail
   refine (uh SD1).mono ?_
   rintro e w1 ⟨v1,rfl,hO⟩
   have B1:=hide (bl_tr (al1p _ _) hO.2)
   clear hO SD1
   go_wp2_with fail
   go_ret2
   obtain ⟨g1,g2⟩:=uh HE
   subst g1 g2
   exact ⟨_,rfl,OwnG.nil _ _ _ (uh B1)⟩
 | true =>
   have HOK:Hid (∀ a ∈ A,a.wr = 5 ∨ a.wr = 2):=hide (fun a ha => by
    unfold okW at hok
    have:=List.all_eq_true.1 hok a ha
    simp at this
    exact this)
   rw [hok] at SD1
   simp only [if_true] at SD1
   clear hok
   go_enter Tryz.func252,Tryz.ntmps252
   go_wp2_with fail
   refine (uh SD1).mono ?_
   rintro e w1 ⟨v1,rfl,hO⟩
   obtain ⟨q1,d1,rfl,hc,_⟩:=hO.form
   have C1:=hide hc
   have B1:=hide (bl_tr (al1p _ _) hO.2)
   clear hc hO SD1
   go_wp2_with fail
   go_loopw [12,30] (fun v iv wr => ∃ n:Nat,∃ xs:List Int,iv = .int .i64 n ∧ n ≤ A.length ∧ xs.length ≤ sumD (A.take n) + n ∧ Hid (allOr num5 ((A.take n).map FA.f) = some xs) ∧ Hid (OwnG 45 (Value.int .u64) w1 wr v xs)) (fun _ iv _ => A.length - (intOf iv).toNat)
   case atStart => exact ⟨0,[],rfl,by omega,by simp,hide rfl,hide (OwnG.nil _ _ _ (Below.refl _ _))⟩
   case round =>
    obtain ⟨n,xs,rfl,hn,hxl,HX,O⟩:=hrel
    by_cases hlt:n < A.length
    ·have hi:(n:Int) < (A.length:Int):=by omega
     obtain ⟨b,o,rfl,hb,k0,k1,k2,k3⟩:=((uh C1).below (uh O).2).at hlt
     have HA:=hide (allOr_one num5 A n hlt xs (uh HX))
     have HI:=hide ((uh AI _ (getD_memF hlt)).below (bl_tr (uh B1) (uh O).2))
     have hsz:sumD (A.take (n + 1)) = sumD (A.take n) + (A.getD n noFA).d.length:=by
      rw [take_addF A n hlt,sumD_append]; simp [sumD]
     have hsz2:=sumD_take A (n + 1)
     have hwr:=uh HOK _ (getD_memF hlt)
     generalize A.getD n noFA = a at k0 k1 k2 k3 HA HI hsz hwr
     by_cases h0:a.wr = 5
     ·have t0:(a.wr == 5) = true:=by simp [h0]
      have HA2:Hid (allOr num5 ((A.take (n + 1)).map FA.f) = some (xs ++ [a.x])):=hide (by rw [uh HA,num5_5 h0]; rfl)
      clear HA HX h0 hwr
      go_wp2_with (at_builtin; (refine wpList_append_ls rfl _ _ 239 rfl w1 45 i1 (.int .u64 0) 8 Tryz.underlying239 hi1 y1 z1 b1 rfl (int_one .u64) _ xs rfl ((uh O).below (al2p _ _ _)) (some ⟨_,0,none⟩) 1 [a.x] rfl (ls_one62 _ _ _ _) (by unfold maxLen; simp <;> omega) (by simp <;> omega) ?_; intro v2 w2 O2; have HO2:=hide O2; clear O2))
      go_roundw
      case rel => exact ⟨n + 1,xs ++ [a.x],by go_num,by omega,by simp; omega,HA2,HO2⟩
      case measure => simp [intOf]; omega
     ·have t0:(a.wr == 5) = false:=by simp [h0]
      have h2:a.wr = 2:=by omega
      have hdl:=(uh HI).2.2.2.len
      have PT:=hide (fun v hv => cpartsW_any a.q a.c a.d v ((uh HI).below hv).2.2.2 (by omega))
      cases hz:foursO a.d with
      | none =>
        rw [hz] at PT
        have HE:Hid (R1 = [] ∧ R2 = 6):=hide (by
         have h3:allOr num5 (A.map FA.f) = none:=allOr_none (n:=n + 1) (by rw [uh HA,num5_2 h2,hz]; rfl)
         have:=uh HV
         rw [h3] at this
         simpa using this)
        have BB:=hide (bl_tr (uh B1) (uh O).2)
        simp only [errO,Option.isSome_none,Bool.false_eq_true,if_false] at PT
        clear HA HX h0 hwr h2 hz
        go_wp2_with fail
        refine (uh PT _ (al1p _ _)).mono ?_
        rintro e w5 ⟨v5,rfl,hO⟩
        have B5:=hide (bl_tr (uh BB) (bl_tr (al1p _ _) hO.2))
        clear hO PT
        go_wp2_with fail
        go_ret2
        obtain ⟨g1,g2⟩:=uh HE
        subst g1 g2
        exact ⟨_,rfl,OwnG.nil _ _ _ (uh B5)⟩
      | some zs =>
        rw [hz] at PT
        simp only [errO,Option.isSome_some,if_true,Option.getD_some] at PT
        have hzl:=foursO_len hz
        have HA2:Hid (allOr num5 ((A.take (n + 1)).map FA.f) = some (xs ++ zs)):=hide (by rw [uh HA,num5_2 h2,hz]; rfl)
        clear HA HX h0 hwr h2 hz
        go_wp2_with fail
        refine (uh PT _ (al1p _ _)).mono ?_
        rintro e w5 ⟨v5,rfl,hO⟩
        obtain ⟨q5,d5,rfl,hl5,_⟩:=hO.form
        have L5:=hide hl5
        have O5:=hide ((uh O).below (bl_tr (al1p _ _) hO.2))
        clear hO hl5 PT
        go_wp2_with (at_builtin; (refine wpList_append_ls rfl _ _ 239 rfl w1 45 i1 (.int .u64 0) 8 Tryz.underlying239 hi1 y1 z1 b1 rfl (int_one .u64) _ xs rfl (uh O5) q5 d5 zs rfl (uh L5) (by unfold maxLen; omega) (by omega) ?_; intro v2 w2 O2; have HO2:=hide O2; clear O2))
        go_roundw
        case rel => exact ⟨n + 1,xs ++ zs,by go_num,by omega,by simp; omega,HA2,HO2⟩
        case measure => simp [intOf]; omega
    ·have hi:¬ (n:Int) < (A.length:Int):=by omega
     have HE:Hid (R1 = xs ∧ R2 = 0):=hide (by
      have h1:=uh HX
      rw [List.take_of_length_le (by omega)] at h1
      have:=uh HV
      rw [h1] at this
      simpa using this)
     have HO:=hide ((uh O).early (uh B1))
     clear O HX
     go_wp2_with fail
     go_ret2
     obtain ⟨g1,g2⟩:=uh HE
     subst g1 g2
     exact ⟨_,rfl,uh HO⟩
theorem cints6_any (p:Option Addr) (c:Nat) (l:List FA) (num:Int) (w:World) (h:Fls w p c l) (hs:l.length * 48 ≤ 140737488355328) (hd:(sumD l + l.length) * 8 ≤ 140737488355328) :
  Calls Tryz.prog 232 #[.slice p l.length c,.int .i64 num] w fun e w' => ∃ v,e = .returned (.tuple #[v,.int .i64 (listV int1 (l.map FA.f) num).2]) ∧ OwnG 45 (Value.int .u64) w w' v (listV int1 (l.map FA.f) num).1:=by
 have NB:=hide (cnumV_any p c l num w h hs hd)
 generalize listV int1 (l.map FA.f) num = R at NB ⊢
 obtain ⟨R1,R2⟩:=R
 simp only at NB ⊢
 go_enter Tryz.func232,Tryz.ntmps232
 go_wp2_with fail
 refine (uh NB).mono ?_
 rintro e w1 ⟨v1,rfl,hO⟩
 have HO:=hide hO
 clear hO NB
 go_wp2_with fail
 go_ret2
 exact ⟨_,rfl,uh HO⟩
def low32 (xs:List Int):List Int:=xs.map (· % 4294967296)
theorem fours_low (d:List Int) (h:isB d):low32 (fours d) = fours d:=by
 unfold low32 fours
 rw [List.map_map]
 refine List.map_congr_left (fun i hi => ?_)
 simp only [Function.comp_apply]
 have hl:((d.drop (4 * i)).take 4).length = 4:=by
  have:=List.mem_range.1 hi
  simp; omega
 obtain ⟨h0,h1⟩:=leV_range ((d.drop (4 * i)).take 4) (isB_take (isB_drop h _) 4)
 rw [hl] at h1
 have:(256:Int) ^ 4 = 4294967296:=by decide
 omega
theorem fix1_num5 (f:Fld) (h:isB f.2.2.2):fix1 f = (num5 f).map low32:=by
 unfold fix1 num5 foursO
 by_cases h5:f.2.1 = 5
 ·rw [if_pos h5,if_pos h5]; rfl
 ·rw [if_neg h5,if_neg h5]
  by_cases h2:f.2.1 = 2
  ·rw [if_pos h2]
   by_cases h4:f.2.2.2.length % 4 = 0
   ·rw [if_pos ⟨h2,h4⟩,if_pos h4]
    simp only [Option.map_some,fours_low _ h]
   ·rw [if_neg (fun hh => h4 hh.2),if_neg h4]; rfl
  ·rw [if_neg (fun hh => h2 hh.1),if_neg h2]; rfl
theorem allOr_low:∀ (l:List Fld),(∀ f ∈ l,isB f.2.2.2) → allOr fix1 l = (allOr num5 l).map low32
 | [],_ => rfl
 | f :: r,h => by
   simp only [allOr]
   rw [fix1_num5 f (h f (by simp)),allOr_low r (fun g hg => h g (by simp [hg]))]
   cases num5 f with
   | none => rfl
   | some x =>
     cases allOr num5 r with
     | none => rfl
     | some y => simp [low32]
theorem list_low (l:List FA) (num:Int) (h:∀ a ∈ l,isB a.d):listV fix1 (l.map FA.f) num = (low32 (listV num5 (l.map FA.f) num).1,(listV num5 (l.map FA.f) num).2):=by
 unfold listV
 rw [allOr_low _ (fun f hf => by
  unfold allV at hf
  obtain ⟨a,ha,rfl⟩:=List.mem_map.1 (List.mem_filter.1 hf).1
  exact h a ha)]
 cases allOr num5 (allV (l.map FA.f) num) <;> rfl
theorem allOr5_len:∀ (l:List FA) (xs:List Int),allOr num5 (l.map FA.f) = some xs → xs.length ≤ sumD l + l.length
 | [],xs,h => by simp only [List.map_nil,allOr,Option.some.injEq] at h; subst h; simp
 | a :: r,xs,h => by
   simp only [List.map_cons,allOr] at h
   cases hn:num5 a.f with
   | none => rw [hn] at h; cases h
   | some x =>
     rw [hn] at h
     simp only at h
     cases hr:allOr num5 (r.map FA.f) with
     | none => rw [hr] at h; cases h
     | some y =>
       rw [hr] at h
       simp only [Option.map_some,Option.some.injEq] at h
       subst h
       have:=allOr5_len r y hr
       have hx:x.length ≤ a.d.length + 1:=by
        unfold num5 FA.f at hn
        simp only at hn
        split at hn
        ·simp only [Option.some.injEq] at hn; subst hn; simp
        ·split at hn
         ·have:=foursO_len hn; omega
         ·cases hn
       have e:sumD (a :: r) = a.d.length + sumD r:=by simp [sumD]
       simp; omega
theorem list5_len (l:List FA) (num:Int):(listV num5 (l.map FA.f) num).1.length ≤ sumD l + l.length:=by
 unfold listV
 rw [← allA_f]
 have h1:=sumD_all l num
 have h2:(allA l num).length ≤ l.length:=List.length_filter_le _ _
 cases hr:allOr num5 ((allA l num).map FA.f) with
 | none => simp
 | some x =>
   have:=allOr5_len _ _ hr
   simp only
   omega
theorem cfixed6_any (p:Option Addr) (c:Nat) (l:List FA) (num:Int) (w:World) (h:Fls w p c l) (hs:l.length * 48 ≤ 140737488355328) (hd:(sumD l + l.length) * 8 ≤ 140737488355328) :
  Calls Tryz.prog 251 #[.slice p l.length c,.int .i64 num] w fun e w' => ∃ v,e = .returned (.tuple #[v,.int .i64 (listV fix1 (l.map FA.f) num).2]) ∧ OwnG 84 (Value.int .u32) w w' v (listV fix1 (l.map FA.f) num).1:=by
 obtain ⟨i1,hi1,y1,z1,b1⟩:=info_parts Tryz.infoU32p
 have NB:=hide (cnumW_any p c l num w h hs hd)
 rw [list_low l num (fun a ha => (h.2 a ha).ok.2.2)]
 have hxl:=list5_len l num
 generalize listV num5 (l.map FA.f) num = R at NB hxl ⊢
 obtain ⟨R1,R2⟩:=R
 simp only at NB hxl ⊢
 clear h
 go_enter Tryz.func251,Tryz.ntmps251
 go_wp2_with fail
 refine (uh NB).mono ?_
 rintro e w1 ⟨v1,rfl,hO⟩
 obtain ⟨q1,d1,rfl,hc,_⟩:=hO.form
 have C1:=hide hc
 have B1:=hide hO.2
 clear hc hO NB
 go_wp2_with fail
 go_loopw [8,19] (fun v iv wr => ∃ n:Nat,iv = .int .i64 n ∧ n ≤ R1.length ∧ Hid (OwnG 84 (Value.int .u32) w1 wr v (low32 (R1.take n)))) (fun _ iv _ => R1.length - (intOf iv).toNat)
 case atStart => exact ⟨0,rfl,by omega,hide (OwnG.nil _ _ _ (Below.refl _ _))⟩
 case round =>
  obtain ⟨n,rfl,hn,O⟩:=hrel
  by_cases hlt:n < R1.length
  ·have hi:(n:Int) < (R1.length:Int):=by omega
   obtain ⟨b,o,rfl,hb,hcc⟩:=((uh C1).below (uh O).2).lies (by omega)
   have k0:wr.cell? ⟨b,o + n,none⟩ = some (.int .u64 (R1.getD n 0)):=hcc n hlt
   have HT:Hid (low32 (R1.take (n + 1)) = low32 (R1.take n) ++ [R1.getD n 0 % 4294967296]):=hide (by
    have e:R1.take (n + 1) = R1.take n ++ [R1.getD n 0]:=by rw [List.take_add_one,List.getD_eq_getElem?_getD,List.getElem?_eq_getElem hlt]; rfl
    unfold low32
    rw [e,List.map_append]
    rfl)
   have hl:(low32 (R1.take n)).length = n:=by unfold low32; rw [List.length_map,List.length_take]; omega
   generalize R1.getD n 0 = x at k0 HT
   obtain ⟨P,hP⟩:∃ P,low32 (R1.take n) = P:=⟨_,rfl⟩
   rw [hP] at O HT hl
   clear hcc hP
   go_wp2_with (at_builtin; (refine wpList_append_ls rfl _ _ 76 rfl w1 84 i1 (.int .u32 0) 4 Tryz.underlying76 hi1 y1 z1 b1 rfl (int_one .u32) _ P rfl ((uh O).below (al1p _ _)) (some ⟨_,0,none⟩) 1 [x % 4294967296] rfl (ls_one6 _ _ _) (by unfold maxLen; simp only [List.length_singleton]; omega) (by simp only [List.length_singleton]; omega) ?_; intro v2 w2 O2; have HO2:=hide O2; clear O2))
   go_roundw
   case rel => exact ⟨n + 1,by go_num,by omega,hide (by rw [uh HT]; exact uh HO2)⟩
   case measure => simp [intOf]; omega
  ·have hi:¬ (n:Int) < (R1.length:Int):=by omega
   have HO:Hid (OwnG 84 (Value.int .u32) w wr u8 (low32 R1)):=hide (by
    have:=uh O
    rw [List.take_of_length_le (by omega)] at this
    exact this.early (uh B1))
   clear O
   go_wp2_with fail
   go_ret2
   exact ⟨_,rfl,uh HO⟩
end Go.Proofs.YtmdlaahdgjegcaaGreat
