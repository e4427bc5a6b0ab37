import Derived.Deep.QuietTactic
import Derived.BigQuiet
import Derived.Test.YtnmciappielkcaaV02
import Derived.Test.YtnmciappielkcaaV16
import Derived.Test.YtnmciappielkcaaV22
set_option maxRecDepth 100000
set_option maxHeartbeats 8000000
namespace Go.Proofs.Ytnmciappielkcaa
open Go.RowKit
set_option linter.unusedVariables false
set_option linter.unusedSimpArgs false
theorem rsame7_any (p q:Option Addr) (cap cap':Nat) (xs ys:List Int) (w:World) (h1:Ints .i64 w p cap xs) (h2:Ints .i64 w q cap' ys) :
  Calls Try.prog 23 #[.slice p xs.length cap,.slice q ys.length cap'] w fun e w' => e = .returned (.bool (decide (xs = ys))) ∧ Below w.heap.size w w':=by
 have hl1:=h1.len
 have hl2:=h2.len
 have H1:=hide h1
 have H2:=hide h2
 clear h1 h2
 by_cases hl:xs.length = ys.length
 ·have hli:((xs.length:Int) == (ys.length:Int)) = true:=by simp [hl]
  have HL:=hide hl
  clear hl
  go_enter Try.func23,Try.ntmps23
  go_wp2_with fail
  go_loopw [5] (fun iv wr => ∃ n:Nat,iv = .int .i64 n ∧ n ≤ xs.length ∧ Hid (xs.take n = ys.take n) ∧ ∃ m,wr = w.drewN m) (fun iv _ => xs.length - (intOf iv).toNat)
  case atStart => exact ⟨0,rfl,by omega,hide (by simp),0,rfl⟩
  case round =>
   obtain ⟨n,rfl,hn,HT,m,rfl⟩:=hrel
   by_cases hlt:n < xs.length
   ·have hlt2:n < ys.length:=by rw [← uh HL]; exact hlt
    obtain ⟨b,o,rfl,hb,hc⟩:=(uh H1).lies (by omega)
    obtain ⟨b',o',rfl,hb',hc'⟩:=(uh H2).lies (by omega)
    have hi:(n:Int) < (xs.length:Int):=by omega
    have hi2:(n:Int) < (ys.length:Int):=by omega
    have c1:=hc n hlt
    have c2:=hc' n hlt2
    have t1:xs.take (n + 1) = xs.take n ++ [xs.getD n 0]:=by rw [List.take_add_one]; simp [List.getElem?_eq_getElem hlt]
    have t2:ys.take (n + 1) = ys.take n ++ [ys.getD n 0]:=by rw [List.take_add_one]; simp [List.getElem?_eq_getElem hlt2]
    have T1:=hide t1
    have T2:=hide t2
    clear hc hc' t1 t2 hlt2
    generalize xs.getD n 0 = x at c1 T1
    generalize ys.getD n 0 = y at c2 T2
    by_cases hxy:x = y
    ·subst hxy
     go_wp2_with fail
     go_quiet (fail)
     go_wp2_with fail
     go_roundw
     case rel => exact ⟨n + 1,by go_num,by omega,hide (by rw [uh T1,uh T2,uh HT]),_,rfl⟩
     case measure => simp [intOf]; omega
    ·have hne:(x == y) = false:=by simp [hxy]
     have hneq:¬ xs = ys:=fun h => by
      have a:=uh T1; have b:=uh T2
      rw [h] at a; rw [a] at b
      have:=List.append_inj_right b (by rw [← uh HT,h])
      simp at this; exact hxy this
     have HN:=hide hneq
     clear hneq hxy
     go_wp2_with fail
     go_quiet (fail)
     go_wp2_with fail
     go_ret
     exact ⟨ret_bool (by simp [uh HN]),bw_drew (bw_drew (Below.refl _ _) _) _⟩
   ·have hi:¬ (n:Int) < (xs.length:Int):=by omega
    have en:n = xs.length:=by omega
    have he:xs = ys:=by
     have:=uh HT
     rw [en,List.take_length,List.take_of_length_le (by rw [uh HL]; exact Nat.le_refl _)] at this
     exact this
    have HE:=hide he
    clear he
    go_wp2_with fail
    go_ret
    exact ⟨ret_bool (by simp [uh HE]),bw_drew (Below.refl _ _) _⟩
 ·have hli:((xs.length:Int) == (ys.length:Int)) = false:=by simp; omega
  have hne:¬ xs = ys:=fun h => hl (by rw [h])
  have HN:=hide hne
  clear hne hl
  go_enter Try.func23,Try.ntmps23
  go_wp2_with fail
  go_ret
  exact ⟨ret_bool (by simp [uh HN]),Below.refl _ _⟩
theorem str_ne {a b:Str} (ha:isB a) (hb:isB b) (h:¬ a = b):((strOfNums a).toList == (strOfNums b).toList) = false:=by
 rw [beq_eq_false_iff_ne]
 intro e
 refine h (str_inj ha hb ?_)
 rw [str_list,str_list] at e
 unfold strOfNums
 rw [e]
theorem str_list8 (s:Str):(strOfNums s).toList = s.map fun n => UInt8.ofNat n.toNat:=by
 rw [show (strOfNums s).toList = (strOfNums s).data.toList from by rw [ByteArray.toList_eq]]
 rw [str_data]
theorem str_eq8 {a b:Str} (ha:isB a) (hb:isB b):((strOfNums a).toList == (strOfNums b).toList) = decide (a = b):=by
 by_cases h:a = b
 ·subst h; simp
 ·rw [str_ne ha hb h]; simp [h]
theorem cfind8_any (op:Int) (w:World):Calls Try.prog 12 #[.int .i64 op] w fun e w' => ∃ r:RoA,e = .returned (.agg (roCells r).toArray) ∧ RoIn w' r ∧ r.d = rowT op ∧ Below w.heap.size w w':=by
 by_cases h:1 ≤ op ∧ op ≤ 80
 ·obtain ⟨n,hn⟩:∃ n:Nat,op = (n:Int) + 1:=⟨(op - 1).toNat,by omega⟩
  subst hn
  exact cfind8_yes n w (by omega)
 ·refine (cfind8_no op w (by omega)).mono ?_
  rintro e v ⟨rfl,hb⟩
  exact ⟨noRoA,rfl,AdIn.nil _,by unfold rowT; rw [if_neg h]; rfl,hb⟩
def numT (nm:Str):Int:=1 + idxI (fun r:RowD => decide (r.1 = nm)) tabT
theorem idxI_map {α β:Type} (f:α → β) (P:β → Bool):∀ l:List α,idxI P (l.map f) = idxI (fun x => P (f x)) l
 | [] => rfl
 | x :: r => by simp only [List.map_cons,idxI,idxI_map f P r]
theorem tab_isB:∀ x ∈ tabT,isB x.1 ∧ ∀ a ∈ x.2.2.2.2.2,isB a.1:=by
 have h:tabT.all (fun x => x.1.all (fun c => decide (0 ≤ c) && decide (c < 256)) && x.2.2.2.2.2.all (fun a => a.1.all (fun c => decide (0 ≤ c) && decide (c < 256)))) = true:=by kernel_rfl
 intro x hx
 have:=List.all_eq_true.1 h x hx
 simp only [Bool.and_eq_true,List.all_eq_true,decide_eq_true_eq] at this
 exact ⟨fun c hc => this.1 c hc,fun a ha c hc => this.2 a ha c hc⟩
theorem cnum1_any (r:RoA) (nm:Str) (g:Nat) (w:World) (hr:isB r.nm) (hn:isB nm) (hg:g < w.heap.size) (hc:w.cell? ⟨g,0,none⟩ = some (strV nm)) :
  Calls Try.prog 27 (#[.agg (roCells r).toArray] ++ #[.pointer (some ⟨g,0,none⟩)]) w fun e w' => e = .returned (.bool (decide (r.nm = nm))) ∧ Below w.heap.size w w':=by
 have E:=hide (str_eq8 hr hn)
 generalize decide (r.nm = nm) = D at E ⊢
 unfold roCells strV
 unfold strV at hc
 rw [show (#[Value.agg [Value.string (strOfNums r.nm),.int .i64 r.a,.int .i64 r.b,.int .i64 r.c,.int .i64 r.d',.slice r.q r.ats.length r.k].toArray] ++ #[Value.pointer (some ⟨g,0,none⟩)]) = #[Value.agg #[Value.string (strOfNums r.nm),.int .i64 r.a,.int .i64 r.b,.int .i64 r.c,.int .i64 r.d',.slice r.q r.ats.length r.k],Value.pointer (some ⟨g,0,none⟩)] from rfl]
 go_enter Try.func27,Try.ntmps27
 go_wp2_with fail
 go_ret
 exact ⟨ret_bool (uh E),al1p _ _⟩
theorem cnumber8_any (nm:Str) (w:World) (hn:isB nm):Calls Try.prog 10 #[strV nm] w fun e w' => e = .returned (.int .i64 (numT nm)) ∧ Below w.heap.size w w':=by
 have HN:=hide hn
 have G0:Hid (-1 ≤ idxI (fun r:RowD => decide (r.1 = nm)) tabT ∧ idxI (fun r:RowD => decide (r.1 = nm)) tabT ≤ 80):=hide ⟨idxI_ge _ _,by
  by_cases h:0 ≤ idxI (fun r:RowD => decide (r.1 = nm)) tabT
  ·obtain ⟨n,e,h1,_⟩:=idxI_lt _ noRowD _ h
   have:tabT.length = 80:=rfl
   omega
  ·omega⟩
 obtain ⟨I,hI⟩:∃ I,idxI (fun r:RowD => decide (r.1 = nm)) tabT = I:=⟨_,rfl⟩
 unfold numT
 rw [hI] at G0 ⊢
 have HI:=hide hI
 unfold strV
 clear hn hI
 go_enter Try.func10,Try.ntmps10
 go_wp2_with fail
 refine (crows8_any _).mono ?_
 rintro e w1 ⟨p,c,L,rfl,hl,ht,hb⟩
 have X:=hide ((Box.new w #[.string (strOfNums nm)] 9).below hb)
 have B:=hide (bl_tr (al1p _ _) hb)
 have IX:=hide (cidxRow_any 27 (ent_of Try.func27 (by kernel_rfl) rfl) #[.pointer (some ⟨w.heap.size,0,none⟩)] (fun r => decide (r.nm = nm)) p c L w1 ht.1 (fun v hv x hx =>
  cnum1_any x nm w.heap.size v (tab_isB _ (by rw [← ht.2.2]; exact List.mem_map.2 ⟨x,hx,rfl⟩)).1 (uh HN) ((uh X).below hv).lt (by rw [((uh X).below hv).cell]; rfl)))
 have e1:idxI (fun r:RoA => decide (r.nm = nm)) L = idxI (fun r:RowD => decide (r.1 = nm)) tabT:=by
  rw [← ht.2.2,idxI_map]; rfl
 rw [e1,hl,uh HI] at IX
 obtain ⟨i1,i2⟩:=uh G0
 clear ht hb e1 G0 HN X hl HI
 go_wp2_with fail
 refine (uh IX).mono ?_
 rintro e w2 ⟨rfl,hb⟩
 replace B:=hide (bl_tr (uh B) hb)
 clear hb IX
 go_wp2_with fail
 go_ret
 exact ⟨rfl,uh B⟩
theorem field_R0 (s:ByteArray) (a1 a2 a3 a4 a5:Value) (w:World):Sem.run Try.prog (Instr.field 50 (.agg #[.string s,a1,a2,a3,a4,a5]) 0) w = .ok (.string s) w:=by kernel_rfl
theorem field_R5 (a0 a1 a2 a3 a4:Value) (p:Option Addr) (n c:Nat) (w:World):Sem.run Try.prog (Instr.field 50 (.agg #[a0,a1,a2,a3,a4,.slice p n c]) 5) w = .ok (.slice p n c) w:=by kernel_rfl
theorem cname8_any (op:Int) (w:World):Calls Try.prog 11 #[.int .i64 op] w fun e w' => e = .returned (strV (rowT op).1) ∧ Below w.heap.size w w':=by
 have CF:=hide (cfind8_any op)
 have ff:=field_R0
 generalize rowT op = R at CF ⊢
 obtain ⟨S,hS⟩:∃ S,R.1 = S:=⟨_,rfl⟩
 have HS:=hide hS
 rw [hS]
 unfold strV
 clear hS
 go_enter Try.func11,Try.ntmps11
 go_wp2_with fail
 refine (uh CF _).mono ?_
 rintro e w1 ⟨r,rfl,hr,hd,hb⟩
 have B:=hide hb
 have HD:=hide (congrArg (fun x:RowD => x.1) hd)
 simp only [RoA.d] at HD
 unfold roCells strV
 clear hr hd hb CF
 go_wp2_with fail
 go_ret
 exact ⟨by rw [← uh HS,← uh HD]; rfl,uh B⟩
theorem carity8_any (op:Int) (w:World):Calls Try.prog 8 #[.int .i64 op] w fun e w' => e = .returned (.tuple #[.int .i64 (rowT op).2.1,.int .i64 (rowT op).2.2.1,.int .i64 (rowT op).2.2.2.1,.int .i64 (rowT op).2.2.2.2.1]) ∧ Below w.heap.size w w':=by
 have CF:=hide (cfind8_any op)
 generalize rowT op = R at CF ⊢
 obtain ⟨nm,a,b,c,d,l⟩:=R
 simp only
 go_enter Try.func8,Try.ntmps8
 go_wp2_with fail
 refine (uh CF _).mono ?_
 rintro e w1 ⟨r,rfl,hr,hd,hb⟩
 obtain ⟨nm',a',b',c',d',l',q,k⟩:=r
 simp only [RoA.d,Prod.mk.injEq] at hd
 obtain ⟨rfl,rfl,rfl,rfl,rfl,rfl⟩:=hd
 have B:=hide hb
 unfold roCells strV
 clear hr hb CF
 go_wp2_with fail
 go_quiet (fail)
 go_wp2_with fail
 exact bodyPost_ret (v:=.tuple #[.int .i64 a',.int .i64 b',.int .i64 c',.int .i64 d']) (by simp [results,Try.results8,go_sem]) rfl ⟨rfl,bw_drew (bl_tr (uh B) (al1p _ _)) _⟩
theorem tab_len:∀ x ∈ tabT,x.2.2.2.2.2.length ≤ 6:=by
 have h:tabT.all (fun x => decide (x.2.2.2.2.2.length ≤ 6)) = true:=by kernel_rfl
 intro x hx
 simpa using List.all_eq_true.1 h x hx
theorem rowT_mem (op:Int):rowT op = noRowD ∨ rowT op ∈ tabT:=by
 unfold rowT
 by_cases h:1 ≤ op ∧ op ≤ 80
 ·rw [if_pos h]
  have e:tabT.length = 80:=rfl
  exact .inr (getD_mem7 (by omega))
 ·rw [if_neg h]; exact .inl rfl
theorem rowT_len (op:Int):(rowT op).2.2.2.2.2.length ≤ 6:=by
 rcases rowT_mem op with h | h
 ·rw [h]; simp [noRowD]
 ·exact tab_len _ h
def strC8 (s:Str):List Value:=[strV s]
theorem strWd8:Wd 1 strC8:=⟨by decide,fun _ => rfl,fun a u hu => by simp [strC8] at hu; rw [hu]; rfl⟩
theorem rc_one8 (w:World) (s:Str) {k:Nat} (hk:w.heap.size = k):Rc 1 strC8 [] (w.alloc (.cells #[.string (strOfNums s)] 9)) (some ⟨k,0,none⟩) 1 [s]:=by
 subst hk
 exact rc_new strWd8 w 9 rfl
theorem Try.infoStr8:(Try.prog.info? 9).map (fun i => (i.zero,i.size,i.bytes)) = some (some (.string { data:=#[] }),1,16):=by kernel_rfl
theorem map_take_succ8 {α β:Type} (f:α → β) (z:α) (l:List α) (n:Nat) (h:n < l.length):(l.take (n + 1)).map f = (l.take n).map f ++ [f (l.getD n z)]:=by
 rw [List.take_add_one,List.map_append,List.getD_eq_getElem?_getD,List.getElem?_eq_getElem h]
 rfl
theorem cattrs8_any (op:Int) (w:World):Calls Try.prog 9 #[.int .i64 op] w fun e w' => ∃ v,e = .returned v ∧ OwnR 9 1 strC8 w w' v ((rowT op).2.2.2.2.2.map fun a => a.1):=by
 have CF:=hide (cfind8_any op)
 have ff:=field_R5
 have h6:=rowT_len op
 generalize rowT op = R at CF h6 ⊢
 obtain ⟨l,hl⟩:∃ l,R.2.2.2.2.2 = l:=⟨_,rfl⟩
 rw [hl] at h6 ⊢
 have HL:=hide hl
 clear hl
 obtain ⟨i1,hi1,y1,z1,b1⟩:=info_parts Try.infoStr8
 go_enter Try.func9,Try.ntmps9
 go_wp2_with fail
 refine (uh CF _).mono ?_
 rintro e w1 ⟨r,rfl,hr,hd,hb⟩
 obtain ⟨nm',a',b',c',d',l',q,k⟩:=r
 have e1:l' = l:=by rw [← uh HL,← hd]; rfl
 subst e1
 have B:=hide hb
 have A1:=hide (hr:AdIn w1 q k l')
 have nl:=(uh A1).1.1
 have nk:=(uh A1).1.2.1
 obtain ⟨PR,hPR⟩:∃ f:Nat → List Str,f = fun n => (l'.take n).map fun a => a.1:=⟨_,rfl⟩
 have HPR:=hide hPR
 unfold roCells strV
 clear hr hb CF hd hPR
 go_wp2_with fail
 go_loopw [3,10] (fun s i wr => ∃ n:Nat,i = .int .i64 n ∧ n ≤ l'.length ∧ Hid (OwnR 9 1 strC8 w wr s (PR n)) ∧ Hid (Kept [69] 0 w1 wr)) (fun _ i _ => l'.length - (intOf i).toNat)
 case atStart => exact ⟨0,rfl,by omega,hide (by rw [uh HPR]; exact OwnR.nil _ (uh B)),hide (Kept.below (Below.refl _ _))⟩
 case round =>
  obtain ⟨n,rfl,hn,HO,HB⟩:=hrel
  by_cases hlt:n < l'.length
  ·have hi:(n:Int) < (l'.length:Int):=by omega
   have hp0:0 < l'.length:=by omega
   have A2:=(uh A1).kept (uh HB)
   obtain ⟨b,o,rfl,hb,hc⟩:=A2.1.lies hp0
   clear A2
   have k0:wr.cell? ⟨b,o + n * 4,none⟩ = some (strV (l'.getD n noAtD).1):=hc n hlt 0 _ rfl
   have k1:wr.cell? ⟨b,o + n * 4 + 1,none⟩ = some (.int .i64 (l'.getD n noAtD).2.1):=hc n hlt 1 _ rfl
   have k2:wr.cell? ⟨b,o + n * 4 + 2,none⟩ = some (.int .i64 (l'.getD n noAtD).2.2.1):=hc n hlt 2 _ rfl
   have k3:wr.cell? ⟨b,o + n * 4 + 3,none⟩ = some (.int .i64 (l'.getD n noAtD).2.2.2):=hc n hlt 3 _ rfl
   have HN:Hid (PR (n + 1) = PR n ++ [(l'.getD n noAtD).1]):=hide (by rw [uh HPR]; exact map_take_succ8 (fun a:AtD => a.1) noAtD l' n hlt)
   have HP:Hid ((PR n).length ≤ l'.length):=hide (by rw [uh HPR]; simp; omega)
   generalize l'.getD n noAtD = a at k0 k1 k2 k3 HN
   obtain ⟨s0,a1,a2,a3⟩:=a
   simp only at k0 k1 k2 k3 HN
   unfold strV at k0
   generalize PR n = X at HO HN HP
   have hp:=uh HP
   clear hc
   go_wp2_with (at_builtin; (refine wpList_append_rc strWd8 [] rfl _ _ 22 rfl w 9 i1 _ 16 Try.underlying22 hi1 y1 z1 b1 rfl _ X rfl ((uh HO).below (bl_tr (al1p _ _) (al1p _ _))) _ _ [s0] rfl (rc_one8 _ _ (by simp)) (by unfold maxLen; simp; omega) (by simp; omega) ?_; intro v2 w2 O2 G2; have HO2:=hide O2; have HB2:=hide (Kept.trans (Kept.trans (uh HB) (Kept.below (bl_tr (al1p _ _) (al1p _ _)))) (Kept.grown (((uh HO).below (bl_tr (al1p _ _) (al1p _ _))).1) (Nat.zero_le _) (by decide) G2)); clear O2 G2))
   go_roundw
   case rel => exact ⟨n + 1,by go_num,by omega,hide (by rw [uh HN]; exact uh HO2),HB2⟩
   case measure => simp [intOf]; omega
  ·have hi:¬ (n:Int) < (l'.length:Int):=by omega
   have HE:Hid (PR n = l'.map fun a => a.1):=hide (by rw [uh HPR]; simp only; rw [List.take_of_length_le (by omega)])
   go_wp2_with fail
   go_ret
   exact ⟨_,rfl,by have:=uh HO; rw [uh HE] at this; exact this⟩
end Go.Proofs.Ytnmciappielkcaa
