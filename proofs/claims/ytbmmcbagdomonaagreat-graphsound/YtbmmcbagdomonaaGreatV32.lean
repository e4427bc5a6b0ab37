import Derived.Test.YtbmmcbagdomonaaGreatV31
set_option maxRecDepth 100000
set_option maxHeartbeats 40000000
namespace Go.Proofs.YtbmmcbagdomonaaGreat
open Go.RowKit
set_option linter.unusedVariables false
set_option linter.unusedSimpArgs false
theorem cidxStr_any (x:Str) (p:Option Addr) (c:Nat) (l:List Str) (w:World) (h:Ls strV w p c l) (hx:isB x) (hl:∀ s ∈ l,isB s) :
  Calls Tryz.prog 160 #[.slice p l.length c,strV x] w fun e w' => e = .returned (.int .i64 (idxI (fun s => decide (s = x)) l)) ∧ w' = w:=by
 have A1:=hide h
 have HX:=hide hx
 have HL:=hide hl
 have IF:=hide (idxI_found (fun s:Str => decide (s = x)) default l)
 have IN:=hide (idxI_none (fun s:Str => decide (s = x)) l)
 have nl:=h.len
 obtain ⟨I,hI⟩:∃ I,idxI (fun s => decide (s = x)) l = I:=⟨_,rfl⟩
 rw [hI] at IF IN ⊢
 clear h hx hl hI
 unfold strV
 go_enter Tryz.func160,Tryz.ntmps160
 go_wp2_with fail
 go_loop [8] (fun iv => ∃ n:Nat,iv = .int .i64 n ∧ n ≤ l.length ∧ Hid ((l.take n).any (fun s => decide (s = x)) = false)) (fun iv => l.length - (intOf iv).toNat)
 case atStart => exact ⟨0,rfl,by omega,hide rfl⟩
 case round =>
  obtain ⟨n,rfl,hn,HN⟩:=hrel
  by_cases hlt:n < l.length
  ·have hi:(n:Int) < (l.length:Int):=by omega
   obtain ⟨b,o,rfl,hb,hc⟩:=(uh A1).lies (by omega)
   have k0:w.cell? ⟨b,o + n,none⟩ = some (strV (l.getD n default)):=hc n hlt
   have HT:=hide (any_take7 (fun s:Str => decide (s = x)) default l n hlt)
   have HM:=hide (uh IF n hlt (uh HN))
   have HE:=hide (str_eq8 (uh HX) (uh HL _ (getD_mem7 (z:=default) hlt)))
   generalize l.getD n default = a at k0 HT HM HE
   unfold strV at k0
   have he:=uh HE
   clear hc
   by_cases hD:a = x
   ·subst hD
    have HI:Hid (I = n):=hide (uh HM (by simp))
    clear HT HM HN HE he
    go_wp2_with fail
    go_ret
    exact ⟨ret_int8 (uh HI).symm,rfl⟩
   ·have hD2:¬ x = a:=fun e => hD e.symm
    rw [decide_eq_false hD2] at he
    have HN2:Hid ((l.take (n + 1)).any (fun s => decide (s = x)) = false):=hide (by rw [uh HT,uh HN]; simp [hD])
    clear HT HM HN HE hD hD2
    go_wp2_with fail
    go_round
    case rel => exact ⟨n + 1,by go_num,by omega,HN2⟩
    case measure => simp [intOf]; omega
  ·have hi:¬ (n:Int) < (l.length:Int):=by omega
   have HE:Hid (I = -1):=hide (uh IN (by have:=uh HN; rw [List.take_of_length_le (by omega)] at this; exact this))
   clear HN
   go_wp2_with fail
   go_ret
   exact ⟨ret_int8 (uh HE).symm,rfl⟩
theorem idx_any8 {α:Type} (P:α → Bool) (l:List α):decide (0 ≤ idxI P l) = l.any P:=by
 by_cases h:0 ≤ idxI P l
 ·cases hl:l with
  | nil => subst hl; simp [idxI] at h
  | cons x r =>
    obtain ⟨n,_,h1,h2,_⟩:=idxI_lt P x l h
    rw [← hl,decide_eq_true h,any_mem7 h1 h2]
 ·have:=idxI_ge P l
  rw [decide_eq_false h,idxI_no P l (by omega)]
theorem ccontStr_any (x:Str) (p:Option Addr) (c:Nat) (l:List Str) (w:World) (h:Ls strV w p c l) (hx:isB x) (hl:∀ s ∈ l,isB s) :
  Calls Tryz.prog 137 #[.slice p l.length c,strV x] w fun e w' => e = .returned (.bool (l.any fun s => decide (s = x))) ∧ w' = w:=by
 have IX:=hide (cidxStr_any x p c l w h hx hl)
 rw [← idx_any8]
 generalize idxI (fun s => decide (s = x)) l = I at IX ⊢
 clear h hl
 unfold strV at IX ⊢
 go_enter Tryz.func137,Tryz.ntmps137
 go_wp2_with fail
 refine (uh IX).mono ?_
 rintro e v ⟨rfl,hv⟩
 replace hv:=hv.symm
 subst hv
 go_wp2_with fail
 go_ret
 exact ⟨rfl,rfl⟩
def takesB (a b c d:Int) (ins outs:List Str):Bool :=
 decide (a ≤ (ins.length:Int)) && decide ((ins.length:Int) ≤ b) && !((ins.take a.toNat).any fun s => decide (s = [])) && decide (c ≤ (outs.length:Int)) && decide ((outs.length:Int) ≤ d) && !(outs.any fun s => decide (s = []))
theorem Ls.take8 {w:World} {p:Option Addr} {c:Nat} {l:List Str} (h:Ls strV w p c l) {n:Nat} (hn:n ≤ l.length):Ls strV w p c (l.take n):=by
 refine ⟨by rw [List.length_take]; have:=h.1; omega,h.2.1,fun hp => ?_,h.2.2.2⟩
 rw [List.length_take] at hp
 obtain ⟨b,o,e,hb,hc⟩:=h.lies (by omega)
 refine ⟨b,o,e,hb,fun i hi => ?_⟩
 rw [List.length_take] at hi
 rw [hc i (by omega),List.getD_eq_getElem?_getD,List.getD_eq_getElem?_getD,List.getElem?_take_of_lt (by omega)]
theorem ctakes8_any (r:RoA) (ra:Nat) (hra:r.a = ra) (pi:Option Addr) (ci:Nat) (ins:List Str) (po:Option Addr) (co:Nat) (outs:List Str) (w:World) (hi:Ls strV w pi ci ins) (hib:∀ s ∈ ins,isB s) (ho:Ls strV w po co outs) (hob:∀ s ∈ outs,isB s) :
  Calls Tryz.prog 103 #[.agg (roCells r).toArray,.slice pi ins.length ci,.slice po outs.length co] w fun e w' => e = .returned (.bool (takesB r.a r.b r.c r.d' ins outs)) ∧ Below w.heap.size w w':=by
 obtain ⟨nm,ra',rb,rc,rd,ats,q,k⟩:=r
 simp only at hra
 subst hra
 have li:=hi.len
 have lo:=ho.len
 have ci1:=hi.1
 have C2:=hide (fun v (hv:Below w.heap.size w v) => ccontStr_any [] po co outs v (ho.below hv) (fun c hc => by cases hc) hob)
 unfold takesB
 simp only
 generalize (outs.any fun s => decide (s = [])) = D2 at C2 ⊢
 unfold roCells strV
 unfold strV at C2
 rw [str_nil7] at C2
 by_cases h1:(ra:Int) ≤ (ins.length:Int)
 ·have hn:ra ≤ ins.length:=by omega
  have C1:=hide (fun v (hv:Below w.heap.size w v) => ccontStr_any [] pi ci (ins.take ra) v ((hi.below hv).take8 hn) (fun c hc => by cases hc) (fun s hs => hib s (List.mem_of_mem_take hs)))
  rw [List.length_take,show min ra ins.length = ra by omega] at C1
  rw [show ((ra:Int)).toNat = ra from rfl]
  generalize ((ins.take ra).any fun s => decide (s = [])) = D1 at C1 ⊢
  unfold strV at C1
  rw [str_nil7] at C1
  rw [decide_eq_true h1,Bool.true_and]
  clear hi ho hib hob
  by_cases h2:(ins.length:Int) ≤ rb
  ·rw [decide_eq_true h2,Bool.true_and]
   cases D1
   ·by_cases h3:rc ≤ (outs.length:Int)
    ·rw [decide_eq_true h3]
     by_cases h4:(outs.length:Int) ≤ rd
     ·rw [decide_eq_true h4]
      simp only [Bool.not_false,Bool.true_and]
      go_enter Tryz.func103,Tryz.ntmps103
      go_wp2_with (first | (refine (uh C1 _ (al1p _ _)).mono ?_; rintro e v ⟨rfl,hv⟩; replace hv:=hv.symm; subst hv) | (refine (uh C2 _ (al1p _ _)).mono ?_; rintro e v ⟨rfl,hv⟩; replace hv:=hv.symm; subst hv))
      all_goals (go_ret; exact ⟨rfl,al1p _ _⟩)
     ·rw [decide_eq_false h4]
      simp only [Bool.not_false,Bool.true_and,Bool.false_and]
      go_enter Tryz.func103,Tryz.ntmps103
      go_wp2_with (refine (uh C1 _ (al1p _ _)).mono ?_; rintro e v ⟨rfl,hv⟩; replace hv:=hv.symm; subst hv)
      all_goals (go_ret; exact ⟨rfl,al1p _ _⟩)
    ·rw [decide_eq_false h3]
     simp only [Bool.not_false,Bool.true_and,Bool.false_and]
     go_enter Tryz.func103,Tryz.ntmps103
     go_wp2_with (refine (uh C1 _ (al1p _ _)).mono ?_; rintro e v ⟨rfl,hv⟩; replace hv:=hv.symm; subst hv)
     all_goals (go_ret; exact ⟨rfl,al1p _ _⟩)
   ·simp only [Bool.not_true,Bool.false_and]
    go_enter Tryz.func103,Tryz.ntmps103
    go_wp2_with (refine (uh C1 _ (al1p _ _)).mono ?_; rintro e v ⟨rfl,hv⟩; replace hv:=hv.symm; subst hv)
    all_goals (go_ret; exact ⟨rfl,al1p _ _⟩)
  ·rw [decide_eq_false h2]
   simp only [Bool.false_and]
   go_enter Tryz.func103,Tryz.ntmps103
   go_wp2_with fail
   all_goals (go_ret; exact ⟨rfl,al1p _ _⟩)
 ·rw [decide_eq_false h1]
  simp only [Bool.false_and]
  clear hi ho hib hob
  go_enter Tryz.func103,Tryz.ntmps103
  go_wp2_with fail
  all_goals (go_ret; exact ⟨rfl,al1p _ _⟩)
theorem chas1_any (a:AtA) (nm:Str) (g:Nat) (w:World) (hr:isB a.nm) (hn:isB nm) (hg:g < w.heap.size) (hc:w.cell? ⟨g,0,none⟩ = some (strV nm)) :
  Calls Tryz.prog 170 (#[.agg (atCells a).toArray] ++ #[.pointer (some ⟨g,0,none⟩)]) w fun e w' => e = .returned (.bool (decide (a.nm = nm))) ∧ Below w.heap.size w w':=by
 have E:=hide (str_eq8 hr hn)
 generalize decide (a.nm = nm) = D at E ⊢
 obtain ⟨nm2,kd,f,i,s,⟨t0,t1,t2,t3,t4⟩,A,fl,qf,cf,is,qi,ci⟩:=a
 unfold atCells tenCells strV
 unfold strV at hc
 simp only [List.cons_append,List.nil_append] at E ⊢
 clear hr hn
 go_enter Tryz.func170,Tryz.ntmps170
 go_wp2_with fail
 go_ret
 exact ⟨ret_bool (uh E),al1p _ _⟩
theorem chas8_any (nm:Str) (p:Option Addr) (c:Nat) (l:List AtA) (w:World) (h:Rc 12 atCells noAtA w p c l) (hb:∀ x ∈ l,isB x.nm) (hn:isB nm) :
  Calls Tryz.prog 142 #[.slice p l.length c,strV nm] w fun e w' => e = .returned (.bool (l.any fun x => decide (x.nm = nm))) ∧ Below w.heap.size w w':=by
 have IX:=hide (ccontAttr_any 170 (ent_of Tryz.func170 (by kernel_rfl) rfl) #[.pointer (some ⟨w.heap.size,0,none⟩)] (fun x => decide (x.nm = nm)) p c l (w.alloc (.cells #[strV nm] 9)) (h.below (al1p _ _)) (fun v hv x hx =>
  chas1_any x nm w.heap.size v (hb x hx) hn ((Box.new w #[strV nm] 9).below hv).lt (by rw [((Box.new w #[strV nm] 9).below hv).cell]; rfl)))
 generalize (l.any fun x => decide (x.nm = nm)) = D at IX ⊢
 clear h hb
 unfold strV at IX ⊢
 go_enter Tryz.func142,Tryz.ntmps142
 go_wp2_with fail
 refine (uh IX).mono ?_
 rintro e v ⟨rfl,hb⟩
 have B:=hide (bl_tr (al1p _ _) hb)
 clear hb IX
 go_wp2_with fail
 go_ret
 exact ⟨rfl,uh B⟩
theorem csetting1_any (d:AtD) (a:AtA) (g:Nat) (w:World) (hr:isB d.1) (hn:isB a.nm) (hg:g < w.heap.size) (hc:w.cell? ⟨g,0,none⟩ = some (strV a.nm)) :
  Calls Tryz.prog 140 (#[.agg (adCells d).toArray] ++ #[.pointer (some ⟨g,0,none⟩)]) w fun e w' => e = .returned (.bool (decide (d.1 = a.nm))) ∧ Below w.heap.size w w':=by
 have E:=hide (str_eq8 hr hn)
 generalize decide (d.1 = a.nm) = D at E ⊢
 generalize a.nm = n2 at E hc
 obtain ⟨nm,d1,d2,d3⟩:=d
 unfold adCells strV
 unfold strV at hc
 rw [show (#[Value.agg [Value.string (strOfNums nm),.int .i64 d1,.int .i64 d2,.int .i64 d3].toArray] ++ #[Value.pointer (some ⟨g,0,none⟩)]) = #[Value.agg #[Value.string (strOfNums nm),.int .i64 d1,.int .i64 d2,.int .i64 d3],Value.pointer (some ⟨g,0,none⟩)] from rfl]
 clear hr hn
 go_enter Tryz.func140,Tryz.ntmps140
 go_wp2_with fail
 go_ret
 exact ⟨ret_bool (uh E),al1p _ _⟩
end Go.Proofs.YtbmmcbagdomonaaGreat
