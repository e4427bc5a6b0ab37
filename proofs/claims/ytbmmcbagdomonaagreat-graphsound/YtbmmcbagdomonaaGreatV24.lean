import Derived.Test.YtbmmcbagdomonaaGreatV23
set_option maxRecDepth 100000
set_option maxHeartbeats 40000000
namespace Go.Proofs.YtbmmcbagdomonaaGreat
open Go.RowKit
set_option linter.unusedVariables false
set_option linter.unusedSimpArgs false
theorem str_lit8 (s:Str) (hs:isB s) (t:Str) (ht:isB t) (l:List UInt8) (hl:(t.map fun n => UInt8.ofNat n.toNat) = l):((strOfNums s).toList == l) = decide (s = t):=by
 rw [← hl,← str_list8]; exact str_eq8 hs ht
theorem isB_of {t:Str} (h:t.all (fun c => decide (0 ≤ c) && decide (c < 256)) = true):isB t:=fun c hc => by
 have:=List.all_eq_true.1 h c hc
 simpa using this
theorem lit_no8 {s:Str} (hs:isB s) (t:Str) (ht:t.all (fun c => decide (0 ≤ c) && decide (c < 256)) = true) (l:List UInt8) (hl:(t.map fun n => UInt8.ofNat n.toNat) = l) (h:¬ s = t):((strOfNums s).toList == l) = false:=by
 rw [str_lit8 s hs t (isB_of ht) l hl]; simp [h]
def flagK (nm:Str):Option Nat :=
 if nm = [100,101,116,101,99,116,95,110,101,103,97,116,105,118,101] then some 12 else if nm = [100,101,116,101,99,116,95,112,111,115,105,116,105,118,101] then some 13 else if nm = [102,109,111,100] then some 14 else if nm = [97,108,108,111,119,122,101,114,111] then some 6 else if nm = [107,101,101,112,100,105,109,115] then some 3 else if nm = [110,111,111,112,95,119,105,116,104,95,101,109,112,116,121,95,97,120,101,115] then some 4 else if nm = [115,101,108,101,99,116,95,108,97,115,116,95,105,110,100,101,120] then some 5 else if nm = [116,114,97,110,115,65] then some 17 else if nm = [116,114,97,110,115,66] then some 18 else if nm = [99,101,105,108,95,109,111,100,101] then some 25 else if nm = [99,111,117,110,116,95,105,110,99,108,117,100,101,95,112,97,100] then some 26 else none
def flagD (nm:Str) (y:Bool) (D:SeD):SeD :=
 match flagK nm with
 | some k => updD D k (.b y)
 | none => D
theorem fin_b8 {B g k:Nat} {D:SeD} {w:World} {o:Obj} {y:Bool} (H:SeB B g w D) (hk:k ≤ 30) (hf:kindsK.getD k 0 = 2):SeB B g ((w.setCell ⟨g,k,none⟩ (.bool y)).alloc o) (updD D k (.b y)) ∧ Stay g w ((w.setCell ⟨g,k,none⟩ (.bool y)).alloc o):=by
 have h1:=H.putB k y hk hf
 exact ⟨h1.1.stay (al1p _ _),h1.2.trans (Stay.below (al1p _ _) (Nat.le_of_lt h1.1.lt))⟩
theorem fin_i8 {B g k:Nat} {D:SeD} {w:World} {o:Obj} {n:Int} (H:SeB B g w D) (hn:(Lit.int .i64 n).wf = true) (hk:k ≤ 30) (hf:kindsK.getD k 0 = 0):SeB B g ((w.setCell ⟨g,k,none⟩ (.int .i64 n)).alloc o) (updD D k (.i n)) ∧ Stay g w ((w.setCell ⟨g,k,none⟩ (.int .i64 n)).alloc o):=by
 have h1:=H.putI k n hn hk hf
 exact ⟨h1.1.stay (al1p _ _),h1.2.trans (Stay.below (al1p _ _) (Nat.le_of_lt h1.1.lt))⟩
theorem fin_u8 {B g k:Nat} {D:SeD} {w:World} {o:Obj} {n:Int} (H:SeB B g w D) (hn:(Lit.int .u32 n).wf = true) (hk:k ≤ 30) (hf:kindsK.getD k 0 = 1):SeB B g ((w.setCell ⟨g,k,none⟩ (.int .u32 n)).alloc o) (updD D k (.u n)) ∧ Stay g w ((w.setCell ⟨g,k,none⟩ (.int .u32 n)).alloc o):=by
 have h1:=H.putU k n hn hk hf
 exact ⟨h1.1.stay (al1p _ _),h1.2.trans (Stay.below (al1p _ _) (Nat.le_of_lt h1.1.lt))⟩
theorem fin_e8 {B g k j:Nat} {D:SeD} {w:World} {o:Obj} {n:Int} {y:Bool} (H:SeB B g w D) (hn:(Lit.int .i64 n).wf = true) (hk:k ≤ 30) (hf:kindsK.getD k 0 = 0) (hj:j ≤ 30) (hg:kindsK.getD j 0 = 2):SeB B g (((w.setCell ⟨g,k,none⟩ (.int .i64 n)).setCell ⟨g,j,none⟩ (.bool y)).alloc o) (updD (updD D k (.i n)) j (.b y)) ∧ Stay g w (((w.setCell ⟨g,k,none⟩ (.int .i64 n)).setCell ⟨g,j,none⟩ (.bool y)).alloc o):=by
 have h1:=H.putI k n hn hk hf
 have h2:=h1.1.putB j y hj hg
 exact ⟨h2.1.stay (al1p _ _),h1.2.trans (h2.2.trans (Stay.below (al1p _ _) (Nat.le_of_lt h2.1.lt)))⟩
theorem u32_wf8 (n:Int):(Lit.int .u32 (n % 4294967296)).wf = true:=by
 simp [Lit.wf,IntKind.min,IntKind.max,IntKind.signed,IntKind.bits]
 omega
theorem ow_one8 {kd:IntKind} {t:TypeId} {B g k:Nat} (w:World) (x:Int) (hk:w.heap.size = k) (hB:B ≤ k) (hg:k ≠ g ∧ k ≠ g + 1) (hx:(Lit.int kd x).wf = true):OwL kd B g (w.alloc (.cells #[.int kd x] t)) (some ⟨k,0,none⟩) 1 [x]:=by
 subst hk
 have hb:=Box.new w #[.int kd x] t
 refine ⟨⟨Nat.le_refl _,by omega,fun y hy => by simp at hy; subst hy; exact hx,fun _ => ⟨w.heap.size,0,rfl,hb.lt,fun i hi => ?_⟩,fun h => by cases h⟩,fun b o e _ => ?_⟩
 ·have:i = 0:=by simp at hi; omega
  subst this
  exact hb.cell 0
 ·simp only [Option.some.injEq,Addr.mk.injEq] at e
  obtain ⟨rfl,rfl,_⟩:=e
  exact ⟨hB,hg,fun i _ => hb.frozen _⟩
theorem size_set8 (w:World) (q:Addr) (v:Value):(w.setCell q v).heap.size = w.heap.size:=by simp [World.setCell]
theorem sal2 {w:World} {o o2:Obj} {g i:Nat} {v:Value} (hg:g < w.heap.size):((w.alloc o).alloc o2).setCell ⟨g,i,none⟩ v = ((w.setCell ⟨g,i,none⟩ v).alloc o).alloc o2:=by
 rw [World.setCell_alloc_past o2 g i v (by simp; omega),World.setCell_alloc_past o g i v hg]
theorem sal5 {w:World} {o o2:Obj} {g a b c d e:Nat} {v0 v1 v2 v3 v4:Value} (hg:g < w.heap.size):((((((w.alloc o).alloc o2).setCell ⟨g,a,none⟩ v0).setCell ⟨g,b,none⟩ v1).setCell ⟨g,c,none⟩ v2).setCell ⟨g,d,none⟩ v3).setCell ⟨g,e,none⟩ v4 = ((((((w.setCell ⟨g,a,none⟩ v0).setCell ⟨g,b,none⟩ v1).setCell ⟨g,c,none⟩ v2).setCell ⟨g,d,none⟩ v3).setCell ⟨g,e,none⟩ v4).alloc o).alloc o2:=by
 rw [sal2 hg,sal2 (by rw [size_set8]; exact hg),sal2 (by rw [size_set8,size_set8]; exact hg),sal2 (by rw [size_set8,size_set8,size_set8]; exact hg),sal2 (by rw [size_set8,size_set8,size_set8,size_set8]; exact hg)]
theorem fin_F8 {B g:Nat} {D:SeD} {w:World} {o:Obj} {n:Int} {t:TypeId} (H:SeB B g w D) (hB:B ≤ w.heap.size) (hn:(Lit.int .u32 n).wf = true) :
  SeB B g (((((((w.setCell ⟨g,31,none⟩ (.int .i64 1)).setCell ⟨g,32,none⟩ (.slice none 0 0)).setCell ⟨g,33,none⟩ (.slice (some ⟨w.heap.size + 1,0,none⟩) 1 1)).setCell ⟨g,34,none⟩ (.slice none 0 0)).setCell ⟨g,35,none⟩ (.slice none 0 0)).alloc o).alloc (.cells #[.int .u32 n] t)) (updD D 31 (.t (1,[],[n],[],[]))) ∧ Stay g w (((((((w.setCell ⟨g,31,none⟩ (.int .i64 1)).setCell ⟨g,32,none⟩ (.slice none 0 0)).setCell ⟨g,33,none⟩ (.slice (some ⟨w.heap.size + 1,0,none⟩) 1 1)).setCell ⟨g,34,none⟩ (.slice none 0 0)).setCell ⟨g,35,none⟩ (.slice none 0 0)).alloc o).alloc (.cells #[.int .u32 n] t)):=by
 have hl:=bl_tr (al1p w o) (al1p _ (.cells #[.int .u32 n] t))
 have hg:=H.lt
 have h1:=(H.stay hl).putT (1,[],[n],[],[]) ⟨none,0,some ⟨w.heap.size + 1,0,none⟩,1,none,0,none,0⟩ ⟨rfl,OwL.nil _ _ _ _,ow_one8 _ _ (by simp) (by omega) (by omega) hn,OwL.nil _ _ _ _,OwB.nil _ _ _⟩
 have h2:SeB B g _ _ ∧ Stay g w _:=⟨h1.1,(Stay.below hl (Nat.le_of_lt hg)).trans h1.2⟩
 rw [sal5 hg] at h2
 exact h2
theorem fin_I8 {B g:Nat} {D:SeD} {w:World} {o:Obj} {n:Int} {t:TypeId} (H:SeB B g w D) (hB:B ≤ w.heap.size) (hn:(Lit.int .i64 n).wf = true) :
  SeB B g (((((((w.setCell ⟨g,31,none⟩ (.int .i64 7)).setCell ⟨g,32,none⟩ (.slice none 0 0)).setCell ⟨g,33,none⟩ (.slice none 0 0)).setCell ⟨g,34,none⟩ (.slice (some ⟨w.heap.size + 1,0,none⟩) 1 1)).setCell ⟨g,35,none⟩ (.slice none 0 0)).alloc o).alloc (.cells #[.int .i64 n] t)) (updD D 31 (.t (7,[],[],[n],[]))) ∧ Stay g w (((((((w.setCell ⟨g,31,none⟩ (.int .i64 7)).setCell ⟨g,32,none⟩ (.slice none 0 0)).setCell ⟨g,33,none⟩ (.slice none 0 0)).setCell ⟨g,34,none⟩ (.slice (some ⟨w.heap.size + 1,0,none⟩) 1 1)).setCell ⟨g,35,none⟩ (.slice none 0 0)).alloc o).alloc (.cells #[.int .i64 n] t)):=by
 have hl:=bl_tr (al1p w o) (al1p _ (.cells #[.int .i64 n] t))
 have hg:=H.lt
 have h1:=(H.stay hl).putT (7,[],[],[n],[]) ⟨none,0,none,0,some ⟨w.heap.size + 1,0,none⟩,1,none,0⟩ ⟨rfl,OwL.nil _ _ _ _,OwL.nil _ _ _ _,ow_one8 _ _ (by simp) (by omega) (by omega) hn,OwB.nil _ _ _⟩
 have h2:SeB B g _ _ ∧ Stay g w _:=⟨h1.1,(Stay.below hl (Nat.le_of_lt hg)).trans h1.2⟩
 rw [sal5 hg] at h2
 exact h2
theorem cflag_0 (so st ne:Int) (y:Bool) (B g:Nat) (D:SeD) (w:World) (h:SeB B g w D) :
  Calls Tryz.prog 174 #[.agg #[.string { data:=#[100,101,116,101,99,116,95,110,101,103,97,116,105,118,101] },.int .i64 so,.int .i64 st,.int .i64 ne],.pointer (some ⟨g,0,none⟩),.bool y] w fun e w' => e = .returned (.tuple #[]) ∧ SeB B g w' (updD D 12 (.b y)) ∧ Stay g w w':=by
 have H:=hide h
 have hg:=h.lt
 obtain ⟨⟨v12,c12⟩,f12⟩:=h.facts 12 (by decide)
 clear h
 go_enter Tryz.func174,Tryz.ntmps174
 go_wp2_with fail
 go_end0
 exact ⟨rfl,fin_b8 (uh H) (by decide) rfl⟩
theorem cflag_1 (so st ne:Int) (y:Bool) (B g:Nat) (D:SeD) (w:World) (h:SeB B g w D) :
  Calls Tryz.prog 174 #[.agg #[.string { data:=#[100,101,116,101,99,116,95,112,111,115,105,116,105,118,101] },.int .i64 so,.int .i64 st,.int .i64 ne],.pointer (some ⟨g,0,none⟩),.bool y] w fun e w' => e = .returned (.tuple #[]) ∧ SeB B g w' (updD D 13 (.b y)) ∧ Stay g w w':=by
 have H:=hide h
 have hg:=h.lt
 obtain ⟨⟨v13,c13⟩,f13⟩:=h.facts 13 (by decide)
 clear h
 go_enter Tryz.func174,Tryz.ntmps174
 go_wp2_with fail
 go_end0
 exact ⟨rfl,fin_b8 (uh H) (by decide) rfl⟩
theorem cflag_2 (so st ne:Int) (y:Bool) (B g:Nat) (D:SeD) (w:World) (h:SeB B g w D) :
  Calls Tryz.prog 174 #[.agg #[.string { data:=#[102,109,111,100] },.int .i64 so,.int .i64 st,.int .i64 ne],.pointer (some ⟨g,0,none⟩),.bool y] w fun e w' => e = .returned (.tuple #[]) ∧ SeB B g w' (updD D 14 (.b y)) ∧ Stay g w w':=by
 have H:=hide h
 have hg:=h.lt
 obtain ⟨⟨v14,c14⟩,f14⟩:=h.facts 14 (by decide)
 clear h
 go_enter Tryz.func174,Tryz.ntmps174
 go_wp2_with fail
 go_end0
 exact ⟨rfl,fin_b8 (uh H) (by decide) rfl⟩
theorem cflag_3 (so st ne:Int) (y:Bool) (B g:Nat) (D:SeD) (w:World) (h:SeB B g w D) :
  Calls Tryz.prog 174 #[.agg #[.string { data:=#[97,108,108,111,119,122,101,114,111] },.int .i64 so,.int .i64 st,.int .i64 ne],.pointer (some ⟨g,0,none⟩),.bool y] w fun e w' => e = .returned (.tuple #[]) ∧ SeB B g w' (updD D 6 (.b y)) ∧ Stay g w w':=by
 have H:=hide h
 have hg:=h.lt
 obtain ⟨⟨v6,c6⟩,f6⟩:=h.facts 6 (by decide)
 clear h
 go_enter Tryz.func174,Tryz.ntmps174
 go_wp2_with fail
 go_end0
 exact ⟨rfl,fin_b8 (uh H) (by decide) rfl⟩
theorem cflag_4 (so st ne:Int) (y:Bool) (B g:Nat) (D:SeD) (w:World) (h:SeB B g w D) :
  Calls Tryz.prog 174 #[.agg #[.string { data:=#[107,101,101,112,100,105,109,115] },.int .i64 so,.int .i64 st,.int .i64 ne],.pointer (some ⟨g,0,none⟩),.bool y] w fun e w' => e = .returned (.tuple #[]) ∧ SeB B g w' (updD D 3 (.b y)) ∧ Stay g w w':=by
 have H:=hide h
 have hg:=h.lt
 obtain ⟨⟨v3,c3⟩,f3⟩:=h.facts 3 (by decide)
 clear h
 go_enter Tryz.func174,Tryz.ntmps174
 go_wp2_with fail
 go_end0
 exact ⟨rfl,fin_b8 (uh H) (by decide) rfl⟩
theorem cflag_5 (so st ne:Int) (y:Bool) (B g:Nat) (D:SeD) (w:World) (h:SeB B g w D) :
  Calls Tryz.prog 174 #[.agg #[.string { data:=#[110,111,111,112,95,119,105,116,104,95,101,109,112,116,121,95,97,120,101,115] },.int .i64 so,.int .i64 st,.int .i64 ne],.pointer (some ⟨g,0,none⟩),.bool y] w fun e w' => e = .returned (.tuple #[]) ∧ SeB B g w' (updD D 4 (.b y)) ∧ Stay g w w':=by
 have H:=hide h
 have hg:=h.lt
 obtain ⟨⟨v4,c4⟩,f4⟩:=h.facts 4 (by decide)
 clear h
 go_enter Tryz.func174,Tryz.ntmps174
 go_wp2_with fail
 go_end0
 exact ⟨rfl,fin_b8 (uh H) (by decide) rfl⟩
theorem cflag_6 (so st ne:Int) (y:Bool) (B g:Nat) (D:SeD) (w:World) (h:SeB B g w D) :
  Calls Tryz.prog 174 #[.agg #[.string { data:=#[115,101,108,101,99,116,95,108,97,115,116,95,105,110,100,101,120] },.int .i64 so,.int .i64 st,.int .i64 ne],.pointer (some ⟨g,0,none⟩),.bool y] w fun e w' => e = .returned (.tuple #[]) ∧ SeB B g w' (updD D 5 (.b y)) ∧ Stay g w w':=by
 have H:=hide h
 have hg:=h.lt
 obtain ⟨⟨v5,c5⟩,f5⟩:=h.facts 5 (by decide)
 clear h
 go_enter Tryz.func174,Tryz.ntmps174
 go_wp2_with fail
 go_end0
 exact ⟨rfl,fin_b8 (uh H) (by decide) rfl⟩
theorem cflag_7 (so st ne:Int) (y:Bool) (B g:Nat) (D:SeD) (w:World) (h:SeB B g w D) :
  Calls Tryz.prog 174 #[.agg #[.string { data:=#[116,114,97,110,115,65] },.int .i64 so,.int .i64 st,.int .i64 ne],.pointer (some ⟨g,0,none⟩),.bool y] w fun e w' => e = .returned (.tuple #[]) ∧ SeB B g w' (updD D 17 (.b y)) ∧ Stay g w w':=by
 have H:=hide h
 have hg:=h.lt
 obtain ⟨⟨v17,c17⟩,f17⟩:=h.facts 17 (by decide)
 clear h
 go_enter Tryz.func174,Tryz.ntmps174
 go_wp2_with fail
 go_end0
 exact ⟨rfl,fin_b8 (uh H) (by decide) rfl⟩
theorem cflag_8 (so st ne:Int) (y:Bool) (B g:Nat) (D:SeD) (w:World) (h:SeB B g w D) :
  Calls Tryz.prog 174 #[.agg #[.string { data:=#[116,114,97,110,115,66] },.int .i64 so,.int .i64 st,.int .i64 ne],.pointer (some ⟨g,0,none⟩),.bool y] w fun e w' => e = .returned (.tuple #[]) ∧ SeB B g w' (updD D 18 (.b y)) ∧ Stay g w w':=by
 have H:=hide h
 have hg:=h.lt
 obtain ⟨⟨v18,c18⟩,f18⟩:=h.facts 18 (by decide)
 clear h
 go_enter Tryz.func174,Tryz.ntmps174
 go_wp2_with fail
 go_end0
 exact ⟨rfl,fin_b8 (uh H) (by decide) rfl⟩
theorem cflag_9 (so st ne:Int) (y:Bool) (B g:Nat) (D:SeD) (w:World) (h:SeB B g w D) :
  Calls Tryz.prog 174 #[.agg #[.string { data:=#[99,101,105,108,95,109,111,100,101] },.int .i64 so,.int .i64 st,.int .i64 ne],.pointer (some ⟨g,0,none⟩),.bool y] w fun e w' => e = .returned (.tuple #[]) ∧ SeB B g w' (updD D 25 (.b y)) ∧ Stay g w w':=by
 have H:=hide h
 have hg:=h.lt
 obtain ⟨⟨v25,c25⟩,f25⟩:=h.facts 25 (by decide)
 clear h
 go_enter Tryz.func174,Tryz.ntmps174
 go_wp2_with fail
 go_end0
 exact ⟨rfl,fin_b8 (uh H) (by decide) rfl⟩
theorem cflag_10 (so st ne:Int) (y:Bool) (B g:Nat) (D:SeD) (w:World) (h:SeB B g w D) :
  Calls Tryz.prog 174 #[.agg #[.string { data:=#[99,111,117,110,116,95,105,110,99,108,117,100,101,95,112,97,100] },.int .i64 so,.int .i64 st,.int .i64 ne],.pointer (some ⟨g,0,none⟩),.bool y] w fun e w' => e = .returned (.tuple #[]) ∧ SeB B g w' (updD D 26 (.b y)) ∧ Stay g w w':=by
 have H:=hide h
 have hg:=h.lt
 obtain ⟨⟨v26,c26⟩,f26⟩:=h.facts 26 (by decide)
 clear h
 go_enter Tryz.func174,Tryz.ntmps174
 go_wp2_with fail
 go_end0
 exact ⟨rfl,fin_b8 (uh H) (by decide) rfl⟩
theorem cflag_no (so st ne:Int) (y:Bool) (B g:Nat) (D:SeD) (w:World) (h:SeB B g w D) (nm:Str) (hn:isB nm) (h0:¬ nm = [100,101,116,101,99,116,95,110,101,103,97,116,105,118,101]) (h1:¬ nm = [100,101,116,101,99,116,95,112,111,115,105,116,105,118,101]) (h2:¬ nm = [102,109,111,100]) (h3:¬ nm = [97,108,108,111,119,122,101,114,111]) (h4:¬ nm = [107,101,101,112,100,105,109,115]) (h5:¬ nm = [110,111,111,112,95,119,105,116,104,95,101,109,112,116,121,95,97,120,101,115]) (h6:¬ nm = [115,101,108,101,99,116,95,108,97,115,116,95,105,110,100,101,120]) (h7:¬ nm = [116,114,97,110,115,65]) (h8:¬ nm = [116,114,97,110,115,66]) (h9:¬ nm = [99,101,105,108,95,109,111,100,101]) (h10:¬ nm = [99,111,117,110,116,95,105,110,99,108,117,100,101,95,112,97,100]) :
  Calls Tryz.prog 174 #[.agg #[.string (strOfNums nm),.int .i64 so,.int .i64 st,.int .i64 ne],.pointer (some ⟨g,0,none⟩),.bool y] w fun e w' => e = .returned (.tuple #[]) ∧ SeB B g w' (D) ∧ Stay g w w':=by
 have n0:((strOfNums nm).toList == [100,101,116,101,99,116,95,110,101,103,97,116,105,118,101]) = false:=lit_no8 hn [100,101,116,101,99,116,95,110,101,103,97,116,105,118,101] rfl _ rfl h0
 have n1:((strOfNums nm).toList == [100,101,116,101,99,116,95,112,111,115,105,116,105,118,101]) = false:=lit_no8 hn [100,101,116,101,99,116,95,112,111,115,105,116,105,118,101] rfl _ rfl h1
 have n2:((strOfNums nm).toList == [102,109,111,100]) = false:=lit_no8 hn [102,109,111,100] rfl _ rfl h2
 have n3:((strOfNums nm).toList == [97,108,108,111,119,122,101,114,111]) = false:=lit_no8 hn [97,108,108,111,119,122,101,114,111] rfl _ rfl h3
 have n4:((strOfNums nm).toList == [107,101,101,112,100,105,109,115]) = false:=lit_no8 hn [107,101,101,112,100,105,109,115] rfl _ rfl h4
 have n5:((strOfNums nm).toList == [110,111,111,112,95,119,105,116,104,95,101,109,112,116,121,95,97,120,101,115]) = false:=lit_no8 hn [110,111,111,112,95,119,105,116,104,95,101,109,112,116,121,95,97,120,101,115] rfl _ rfl h5
 have n6:((strOfNums nm).toList == [115,101,108,101,99,116,95,108,97,115,116,95,105,110,100,101,120]) = false:=lit_no8 hn [115,101,108,101,99,116,95,108,97,115,116,95,105,110,100,101,120] rfl _ rfl h6
 have n7:((strOfNums nm).toList == [116,114,97,110,115,65]) = false:=lit_no8 hn [116,114,97,110,115,65] rfl _ rfl h7
 have n8:((strOfNums nm).toList == [116,114,97,110,115,66]) = false:=lit_no8 hn [116,114,97,110,115,66] rfl _ rfl h8
 have n9:((strOfNums nm).toList == [99,101,105,108,95,109,111,100,101]) = false:=lit_no8 hn [99,101,105,108,95,109,111,100,101] rfl _ rfl h9
 have n10:((strOfNums nm).toList == [99,111,117,110,116,95,105,110,99,108,117,100,101,95,112,97,100]) = false:=lit_no8 hn [99,111,117,110,116,95,105,110,99,108,117,100,101,95,112,97,100] rfl _ rfl h10
 have H:=hide h
 have hg:=h.lt
 clear h
 go_enter Tryz.func174,Tryz.ntmps174
 go_wp2_with fail
 go_end0
 exact ⟨rfl,(uh H).stay (al1p _ _),Stay.below (al1p _ _) (Nat.le_of_lt hg)⟩
theorem cflag8_any (nm:Str) (so st ne:Int) (y:Bool) (B g:Nat) (D:SeD) (w:World) (h:SeB B g w D) (hn:isB nm) :
  Calls Tryz.prog 174 #[.agg #[strV nm,.int .i64 so,.int .i64 st,.int .i64 ne],.pointer (some ⟨g,0,none⟩),.bool y] w fun e w' => e = .returned (.tuple #[]) ∧ SeB B g w' (flagD nm y D) ∧ Stay g w w':=by
 by_cases h0:nm = [100,101,116,101,99,116,95,110,101,103,97,116,105,118,101]
 ·subst h0
  exact cflag_0 so st ne y B g D w h
 by_cases h1:nm = [100,101,116,101,99,116,95,112,111,115,105,116,105,118,101]
 ·subst h1
  exact cflag_1 so st ne y B g D w h
 by_cases h2:nm = [102,109,111,100]
 ·subst h2
  exact cflag_2 so st ne y B g D w h
 by_cases h3:nm = [97,108,108,111,119,122,101,114,111]
 ·subst h3
  exact cflag_3 so st ne y B g D w h
 by_cases h4:nm = [107,101,101,112,100,105,109,115]
 ·subst h4
  exact cflag_4 so st ne y B g D w h
 by_cases h5:nm = [110,111,111,112,95,119,105,116,104,95,101,109,112,116,121,95,97,120,101,115]
 ·subst h5
  exact cflag_5 so st ne y B g D w h
 by_cases h6:nm = [115,101,108,101,99,116,95,108,97,115,116,95,105,110,100,101,120]
 ·subst h6
  exact cflag_6 so st ne y B g D w h
 by_cases h7:nm = [116,114,97,110,115,65]
 ·subst h7
  exact cflag_7 so st ne y B g D w h
 by_cases h8:nm = [116,114,97,110,115,66]
 ·subst h8
  exact cflag_8 so st ne y B g D w h
 by_cases h9:nm = [99,101,105,108,95,109,111,100,101]
 ·subst h9
  exact cflag_9 so st ne y B g D w h
 by_cases h10:nm = [99,111,117,110,116,95,105,110,99,108,117,100,101,95,112,97,100]
 ·subst h10
  exact cflag_10 so st ne y B g D w h
 have e:flagD nm y D = D:=by unfold flagD flagK; rw [if_neg h0,if_neg h1,if_neg h2,if_neg h3,if_neg h4,if_neg h5,if_neg h6,if_neg h7,if_neg h8,if_neg h9,if_neg h10]
 rw [e]
 exact cflag_no so st ne y B g D w h nm hn h0 h1 h2 h3 h4 h5 h6 h7 h8 h9 h10
def updL (D:SeD) (l:List (Nat × FV)):SeD:=l.foldl (fun D x => updD D x.1 x.2) D
def wrL (nm:Str) (n:Int):List (Nat × FV) :=
 if nm = [97,108,112,104,97] then [(9,FV.u (n % 4294967296))] else
 if nm = [98,101,116,97] then [(10,FV.u (n % 4294967296))] else
 if nm = [101,112,115,105,108,111,110] then [(11,FV.u (n % 4294967296))] else
 if nm = [118,97,108,117,101,95,102,108,111,97,116] then [(31,FV.t (1,[],[n % 4294967296],[],[]))] else
 if nm = [118,97,108,117,101,95,105,110,116] then [(31,FV.t (7,[],[],[n],[]))] else
 if nm = [97,120,105,115] then [(0,FV.i n)] else
 if nm = [116,111] then [(15,FV.i n)] else
 if nm = [98,108,111,99,107,115,105,122,101] then [(27,FV.i n)] else
 if nm = [103,114,111,117,112] then [(19,FV.i n)] else
 if nm = [115,116,97,114,116] then [(28,FV.i n)] else
 if nm = [101,110,100] then [(29,FV.i n),(30,FV.b true)] else
 if nm = [109,111,100,101] then [(16,FV.i n)] else
 if nm = [114,101,100,117,99,116,105,111,110] then [(16,FV.i n)] else
 if nm = [97,117,116,111,95,112,97,100] then [(24,FV.i n)] else
 match flagK nm with
 | some k => [(k,FV.b (n == 1))]
 | none => []
theorem cwr_0 (so st ne:Int) (n:Int) (B g:Nat) (D:SeD) (w:World) (h:SeB B g w D) (hw:(Lit.int .i64 n).wf = true) (hB:B ≤ w.heap.size) :
  Calls Tryz.prog 161 #[.agg #[.string { data:=#[97,108,112,104,97] },.int .i64 so,.int .i64 st,.int .i64 ne],.pointer (some ⟨g,0,none⟩),.int .i64 n] w fun e w' => e = .returned (.tuple #[]) ∧ SeB B g w' (updL D [(9,FV.u (n % 4294967296))]) ∧ Stay g w w':=by
 have H:=hide h
 have hg:=h.lt
 obtain ⟨⟨v9,c9⟩,f9⟩:=h.facts 9 (by decide)
 clear h
 have HW:=hide hw
 clear hw
 go_enter Tryz.func161,Tryz.ntmps161
 go_wp2_with fail
 go_end0
 exact ⟨rfl,fin_u8 (uh H) (u32_wf8 n) (by decide) rfl⟩
theorem cwr_1 (so st ne:Int) (n:Int) (B g:Nat) (D:SeD) (w:World) (h:SeB B g w D) (hw:(Lit.int .i64 n).wf = true) (hB:B ≤ w.heap.size) :
  Calls Tryz.prog 161 #[.agg #[.string { data:=#[98,101,116,97] },.int .i64 so,.int .i64 st,.int .i64 ne],.pointer (some ⟨g,0,none⟩),.int .i64 n] w fun e w' => e = .returned (.tuple #[]) ∧ SeB B g w' (updL D [(10,FV.u (n % 4294967296))]) ∧ Stay g w w':=by
 have H:=hide h
 have hg:=h.lt
 obtain ⟨⟨v10,c10⟩,f10⟩:=h.facts 10 (by decide)
 clear h
 have HW:=hide hw
 clear hw
 go_enter Tryz.func161,Tryz.ntmps161
 go_wp2_with fail
 go_end0
 exact ⟨rfl,fin_u8 (uh H) (u32_wf8 n) (by decide) rfl⟩
theorem cwr_2 (so st ne:Int) (n:Int) (B g:Nat) (D:SeD) (w:World) (h:SeB B g w D) (hw:(Lit.int .i64 n).wf = true) (hB:B ≤ w.heap.size) :
  Calls Tryz.prog 161 #[.agg #[.string { data:=#[101,112,115,105,108,111,110] },.int .i64 so,.int .i64 st,.int .i64 ne],.pointer (some ⟨g,0,none⟩),.int .i64 n] w fun e w' => e = .returned (.tuple #[]) ∧ SeB B g w' (updL D [(11,FV.u (n % 4294967296))]) ∧ Stay g w w':=by
 have H:=hide h
 have hg:=h.lt
 obtain ⟨⟨v11,c11⟩,f11⟩:=h.facts 11 (by decide)
 clear h
 have HW:=hide hw
 clear hw
 go_enter Tryz.func161,Tryz.ntmps161
 go_wp2_with fail
 go_end0
 exact ⟨rfl,fin_u8 (uh H) (u32_wf8 n) (by decide) rfl⟩
theorem cwr_3 (so st ne:Int) (n:Int) (B g:Nat) (D:SeD) (w:World) (h:SeB B g w D) (hw:(Lit.int .i64 n).wf = true) (hB:B ≤ w.heap.size) :
  Calls Tryz.prog 161 #[.agg #[.string { data:=#[118,97,108,117,101,95,102,108,111,97,116] },.int .i64 so,.int .i64 st,.int .i64 ne],.pointer (some ⟨g,0,none⟩),.int .i64 n] w fun e w' => e = .returned (.tuple #[]) ∧ SeB B g w' (updL D [(31,FV.t (1,[],[n % 4294967296],[],[]))]) ∧ Stay g w w':=by
 have H:=hide h
 have hg:=h.lt
 obtain ⟨⟨v31,c31⟩,f31⟩:=h.facts 31 (by decide)
 obtain ⟨⟨v32,c32⟩,f32⟩:=h.facts 32 (by decide)
 obtain ⟨⟨v33,c33⟩,f33⟩:=h.facts 33 (by decide)
 obtain ⟨⟨v34,c34⟩,f34⟩:=h.facts 34 (by decide)
 obtain ⟨⟨v35,c35⟩,f35⟩:=h.facts 35 (by decide)
 clear h
 have HW:=hide hw
 clear hw
 go_enter Tryz.func161,Tryz.ntmps161
 go_wp2_with fail
 go_end0
 exact ⟨rfl,fin_F8 (uh H) hB (u32_wf8 n)⟩
theorem cwr_4 (so st ne:Int) (n:Int) (B g:Nat) (D:SeD) (w:World) (h:SeB B g w D) (hw:(Lit.int .i64 n).wf = true) (hB:B ≤ w.heap.size) :
  Calls Tryz.prog 161 #[.agg #[.string { data:=#[118,97,108,117,101,95,105,110,116] },.int .i64 so,.int .i64 st,.int .i64 ne],.pointer (some ⟨g,0,none⟩),.int .i64 n] w fun e w' => e = .returned (.tuple #[]) ∧ SeB B g w' (updL D [(31,FV.t (7,[],[],[n],[]))]) ∧ Stay g w w':=by
 have H:=hide h
 have hg:=h.lt
 obtain ⟨⟨v31,c31⟩,f31⟩:=h.facts 31 (by decide)
 obtain ⟨⟨v32,c32⟩,f32⟩:=h.facts 32 (by decide)
 obtain ⟨⟨v33,c33⟩,f33⟩:=h.facts 33 (by decide)
 obtain ⟨⟨v34,c34⟩,f34⟩:=h.facts 34 (by decide)
 obtain ⟨⟨v35,c35⟩,f35⟩:=h.facts 35 (by decide)
 clear h
 have HW:=hide hw
 clear hw
 go_enter Tryz.func161,Tryz.ntmps161
 go_wp2_with fail
 go_end0
 exact ⟨rfl,fin_I8 (uh H) hB (uh HW)⟩
theorem cwr_5 (so st ne:Int) (n:Int) (B g:Nat) (D:SeD) (w:World) (h:SeB B g w D) (hw:(Lit.int .i64 n).wf = true) (hB:B ≤ w.heap.size) :
  Calls Tryz.prog 161 #[.agg #[.string { data:=#[97,120,105,115] },.int .i64 so,.int .i64 st,.int .i64 ne],.pointer (some ⟨g,0,none⟩),.int .i64 n] w fun e w' => e = .returned (.tuple #[]) ∧ SeB B g w' (updL D [(0,FV.i n)]) ∧ Stay g w w':=by
 have H:=hide h
 have hg:=h.lt
 obtain ⟨⟨v0,c0⟩,f0⟩:=h.facts 0 (by decide)
 clear h
 have HW:=hide hw
 clear hw
 go_enter Tryz.func161,Tryz.ntmps161
 go_wp2_with fail
 go_end0
 exact ⟨rfl,fin_i8 (uh H) (uh HW) (by decide) rfl⟩
theorem cwr_6 (so st ne:Int) (n:Int) (B g:Nat) (D:SeD) (w:World) (h:SeB B g w D) (hw:(Lit.int .i64 n).wf = true) (hB:B ≤ w.heap.size) :
  Calls Tryz.prog 161 #[.agg #[.string { data:=#[116,111] },.int .i64 so,.int .i64 st,.int .i64 ne],.pointer (some ⟨g,0,none⟩),.int .i64 n] w fun e w' => e = .returned (.tuple #[]) ∧ SeB B g w' (updL D [(15,FV.i n)]) ∧ Stay g w w':=by
 have H:=hide h
 have hg:=h.lt
 obtain ⟨⟨v15,c15⟩,f15⟩:=h.facts 15 (by decide)
 clear h
 have HW:=hide hw
 clear hw
 go_enter Tryz.func161,Tryz.ntmps161
 go_wp2_with fail
 go_end0
 exact ⟨rfl,fin_i8 (uh H) (uh HW) (by decide) rfl⟩
theorem cwr_7 (so st ne:Int) (n:Int) (B g:Nat) (D:SeD) (w:World) (h:SeB B g w D) (hw:(Lit.int .i64 n).wf = true) (hB:B ≤ w.heap.size) :
  Calls Tryz.prog 161 #[.agg #[.string { data:=#[98,108,111,99,107,115,105,122,101] },.int .i64 so,.int .i64 st,.int .i64 ne],.pointer (some ⟨g,0,none⟩),.int .i64 n] w fun e w' => e = .returned (.tuple #[]) ∧ SeB B g w' (updL D [(27,FV.i n)]) ∧ Stay g w w':=by
 have H:=hide h
 have hg:=h.lt
 obtain ⟨⟨v27,c27⟩,f27⟩:=h.facts 27 (by decide)
 clear h
 have HW:=hide hw
 clear hw
 go_enter Tryz.func161,Tryz.ntmps161
 go_wp2_with fail
 go_end0
 exact ⟨rfl,fin_i8 (uh H) (uh HW) (by decide) rfl⟩
theorem cwr_8 (so st ne:Int) (n:Int) (B g:Nat) (D:SeD) (w:World) (h:SeB B g w D) (hw:(Lit.int .i64 n).wf = true) (hB:B ≤ w.heap.size) :
  Calls Tryz.prog 161 #[.agg #[.string { data:=#[103,114,111,117,112] },.int .i64 so,.int .i64 st,.int .i64 ne],.pointer (some ⟨g,0,none⟩),.int .i64 n] w fun e w' => e = .returned (.tuple #[]) ∧ SeB B g w' (updL D [(19,FV.i n)]) ∧ Stay g w w':=by
 have H:=hide h
 have hg:=h.lt
 obtain ⟨⟨v19,c19⟩,f19⟩:=h.facts 19 (by decide)
 clear h
 have HW:=hide hw
 clear hw
 go_enter Tryz.func161,Tryz.ntmps161
 go_wp2_with fail
 go_end0
 exact ⟨rfl,fin_i8 (uh H) (uh HW) (by decide) rfl⟩
theorem cwr_9 (so st ne:Int) (n:Int) (B g:Nat) (D:SeD) (w:World) (h:SeB B g w D) (hw:(Lit.int .i64 n).wf = true) (hB:B ≤ w.heap.size) :
  Calls Tryz.prog 161 #[.agg #[.string { data:=#[115,116,97,114,116] },.int .i64 so,.int .i64 st,.int .i64 ne],.pointer (some ⟨g,0,none⟩),.int .i64 n] w fun e w' => e = .returned (.tuple #[]) ∧ SeB B g w' (updL D [(28,FV.i n)]) ∧ Stay g w w':=by
 have H:=hide h
 have hg:=h.lt
 obtain ⟨⟨v28,c28⟩,f28⟩:=h.facts 28 (by decide)
 clear h
 have HW:=hide hw
 clear hw
 go_enter Tryz.func161,Tryz.ntmps161
 go_wp2_with fail
 go_end0
 exact ⟨rfl,fin_i8 (uh H) (uh HW) (by decide) rfl⟩
theorem cwr_10 (so st ne:Int) (n:Int) (B g:Nat) (D:SeD) (w:World) (h:SeB B g w D) (hw:(Lit.int .i64 n).wf = true) (hB:B ≤ w.heap.size) :
  Calls Tryz.prog 161 #[.agg #[.string { data:=#[101,110,100] },.int .i64 so,.int .i64 st,.int .i64 ne],.pointer (some ⟨g,0,none⟩),.int .i64 n] w fun e w' => e = .returned (.tuple #[]) ∧ SeB B g w' (updL D [(29,FV.i n),(30,FV.b true)]) ∧ Stay g w w':=by
 have H:=hide h
 have hg:=h.lt
 obtain ⟨⟨v29,c29⟩,f29⟩:=h.facts 29 (by decide)
 obtain ⟨⟨v30,c30⟩,f30⟩:=h.facts 30 (by decide)
 clear h
 have HW:=hide hw
 clear hw
 go_enter Tryz.func161,Tryz.ntmps161
 go_wp2_with fail
 go_end0
 exact ⟨rfl,fin_e8 (uh H) (uh HW) (by decide) rfl (by decide) rfl⟩
theorem cwr_11 (so st ne:Int) (n:Int) (B g:Nat) (D:SeD) (w:World) (h:SeB B g w D) (hw:(Lit.int .i64 n).wf = true) (hB:B ≤ w.heap.size) :
  Calls Tryz.prog 161 #[.agg #[.string { data:=#[109,111,100,101] },.int .i64 so,.int .i64 st,.int .i64 ne],.pointer (some ⟨g,0,none⟩),.int .i64 n] w fun e w' => e = .returned (.tuple #[]) ∧ SeB B g w' (updL D [(16,FV.i n)]) ∧ Stay g w w':=by
 have H:=hide h
 have hg:=h.lt
 obtain ⟨⟨v16,c16⟩,f16⟩:=h.facts 16 (by decide)
 clear h
 have HW:=hide hw
 clear hw
 go_enter Tryz.func161,Tryz.ntmps161
 go_wp2_with fail
 go_end0
 exact ⟨rfl,fin_i8 (uh H) (uh HW) (by decide) rfl⟩
theorem cwr_12 (so st ne:Int) (n:Int) (B g:Nat) (D:SeD) (w:World) (h:SeB B g w D) (hw:(Lit.int .i64 n).wf = true) (hB:B ≤ w.heap.size) :
  Calls Tryz.prog 161 #[.agg #[.string { data:=#[114,101,100,117,99,116,105,111,110] },.int .i64 so,.int .i64 st,.int .i64 ne],.pointer (some ⟨g,0,none⟩),.int .i64 n] w fun e w' => e = .returned (.tuple #[]) ∧ SeB B g w' (updL D [(16,FV.i n)]) ∧ Stay g w w':=by
 have H:=hide h
 have hg:=h.lt
 obtain ⟨⟨v16,c16⟩,f16⟩:=h.facts 16 (by decide)
 clear h
 have HW:=hide hw
 clear hw
 go_enter Tryz.func161,Tryz.ntmps161
 go_wp2_with fail
 go_end0
 exact ⟨rfl,fin_i8 (uh H) (uh HW) (by decide) rfl⟩
theorem cwr_13 (so st ne:Int) (n:Int) (B g:Nat) (D:SeD) (w:World) (h:SeB B g w D) (hw:(Lit.int .i64 n).wf = true) (hB:B ≤ w.heap.size) :
  Calls Tryz.prog 161 #[.agg #[.string { data:=#[97,117,116,111,95,112,97,100] },.int .i64 so,.int .i64 st,.int .i64 ne],.pointer (some ⟨g,0,none⟩),.int .i64 n] w fun e w' => e = .returned (.tuple #[]) ∧ SeB B g w' (updL D [(24,FV.i n)]) ∧ Stay g w w':=by
 have H:=hide h
 have hg:=h.lt
 obtain ⟨⟨v24,c24⟩,f24⟩:=h.facts 24 (by decide)
 clear h
 have HW:=hide hw
 clear hw
 go_enter Tryz.func161,Tryz.ntmps161
 go_wp2_with fail
 go_end0
 exact ⟨rfl,fin_i8 (uh H) (uh HW) (by decide) rfl⟩
theorem cwr_no (so st ne:Int) (n:Int) (B g:Nat) (D:SeD) (w:World) (h:SeB B g w D) (nm:Str) (hn:isB nm) (d0:¬ nm = [97,108,112,104,97]) (d1:¬ nm = [98,101,116,97]) (d2:¬ nm = [101,112,115,105,108,111,110]) (d3:¬ nm = [118,97,108,117,101,95,102,108,111,97,116]) (d4:¬ nm = [118,97,108,117,101,95,105,110,116]) (d5:¬ nm = [97,120,105,115]) (d6:¬ nm = [116,111]) (d7:¬ nm = [98,108,111,99,107,115,105,122,101]) (d8:¬ nm = [103,114,111,117,112]) (d9:¬ nm = [115,116,97,114,116]) (d10:¬ nm = [101,110,100]) (d11:¬ nm = [109,111,100,101]) (d12:¬ nm = [114,101,100,117,99,116,105,111,110]) (d13:¬ nm = [97,117,116,111,95,112,97,100]) :
  Calls Tryz.prog 161 #[.agg #[.string (strOfNums nm),.int .i64 so,.int .i64 st,.int .i64 ne],.pointer (some ⟨g,0,none⟩),.int .i64 n] w fun e w' => e = .returned (.tuple #[]) ∧ SeB B g w' (flagD nm (n == 1) D) ∧ Stay g w w':=by
 have m0:((strOfNums nm).toList == [97,108,112,104,97]) = false:=lit_no8 hn [97,108,112,104,97] rfl _ rfl d0
 have m1:((strOfNums nm).toList == [98,101,116,97]) = false:=lit_no8 hn [98,101,116,97] rfl _ rfl d1
 have m2:((strOfNums nm).toList == [101,112,115,105,108,111,110]) = false:=lit_no8 hn [101,112,115,105,108,111,110] rfl _ rfl d2
 have m3:((strOfNums nm).toList == [118,97,108,117,101,95,102,108,111,97,116]) = false:=lit_no8 hn [118,97,108,117,101,95,102,108,111,97,116] rfl _ rfl d3
 have m4:((strOfNums nm).toList == [118,97,108,117,101,95,105,110,116]) = false:=lit_no8 hn [118,97,108,117,101,95,105,110,116] rfl _ rfl d4
 have m5:((strOfNums nm).toList == [97,120,105,115]) = false:=lit_no8 hn [97,120,105,115] rfl _ rfl d5
 have m6:((strOfNums nm).toList == [116,111]) = false:=lit_no8 hn [116,111] rfl _ rfl d6
 have m7:((strOfNums nm).toList == [98,108,111,99,107,115,105,122,101]) = false:=lit_no8 hn [98,108,111,99,107,115,105,122,101] rfl _ rfl d7
 have m8:((strOfNums nm).toList == [103,114,111,117,112]) = false:=lit_no8 hn [103,114,111,117,112] rfl _ rfl d8
 have m9:((strOfNums nm).toList == [115,116,97,114,116]) = false:=lit_no8 hn [115,116,97,114,116] rfl _ rfl d9
 have m10:((strOfNums nm).toList == [101,110,100]) = false:=lit_no8 hn [101,110,100] rfl _ rfl d10
 have m11:((strOfNums nm).toList == [109,111,100,101]) = false:=lit_no8 hn [109,111,100,101] rfl _ rfl d11
 have m12:((strOfNums nm).toList == [114,101,100,117,99,116,105,111,110]) = false:=lit_no8 hn [114,101,100,117,99,116,105,111,110] rfl _ rfl d12
 have m13:((strOfNums nm).toList == [97,117,116,111,95,112,97,100]) = false:=lit_no8 hn [97,117,116,111,95,112,97,100] rfl _ rfl d13
 have H:=hide h
 have hg:=h.lt
 clear h
 have CF:=hide (fun v (hv:Below w.heap.size w v) => cflag8_any nm so st ne (n == 1) B g D v ((uh H).stay hv) hn)
 obtain ⟨yb,hyb⟩:∃ y,(n == 1) = y:=⟨_,rfl⟩
 rw [hyb] at CF ⊢
 unfold strV at CF
 clear d0 d1 d2 d3 d4 d5 d6 d7 d8 d9 d10 d11 d12 d13 hn
 go_enter Tryz.func161,Tryz.ntmps161
 go_wp2_with fail
 refine (uh CF _ (al1p _ _)).mono ?_
 rintro e w1 ⟨rfl,h1,h2⟩
 have H1:=hide h1
 have H2:=hide h2
 clear h1 h2 CF
 go_wp2_with fail
 go_end0
 exact ⟨rfl,uh H1,(Stay.below (al1p _ _) (Nat.le_of_lt hg)).trans (uh H2)⟩
theorem cwrite8_any (nm:Str) (so st ne n:Int) (B g:Nat) (D:SeD) (w:World) (h:SeB B g w D) (hn:isB nm) (hw:(Lit.int .i64 n).wf = true) (hB:B ≤ w.heap.size) :
  Calls Tryz.prog 161 #[.agg #[strV nm,.int .i64 so,.int .i64 st,.int .i64 ne],.pointer (some ⟨g,0,none⟩),.int .i64 n] w fun e w' => e = .returned (.tuple #[]) ∧ SeB B g w' (updL D (wrL nm n)) ∧ Stay g w w':=by
 by_cases d0:nm = [97,108,112,104,97]
 ·subst d0
  exact cwr_0 so st ne n B g D w h hw hB
 by_cases d1:nm = [98,101,116,97]
 ·subst d1
  exact cwr_1 so st ne n B g D w h hw hB
 by_cases d2:nm = [101,112,115,105,108,111,110]
 ·subst d2
  exact cwr_2 so st ne n B g D w h hw hB
 by_cases d3:nm = [118,97,108,117,101,95,102,108,111,97,116]
 ·subst d3
  exact cwr_3 so st ne n B g D w h hw hB
 by_cases d4:nm = [118,97,108,117,101,95,105,110,116]
 ·subst d4
  exact cwr_4 so st ne n B g D w h hw hB
 by_cases d5:nm = [97,120,105,115]
 ·subst d5
  exact cwr_5 so st ne n B g D w h hw hB
 by_cases d6:nm = [116,111]
 ·subst d6
  exact cwr_6 so st ne n B g D w h hw hB
 by_cases d7:nm = [98,108,111,99,107,115,105,122,101]
 ·subst d7
  exact cwr_7 so st ne n B g D w h hw hB
 by_cases d8:nm = [103,114,111,117,112]
 ·subst d8
  exact cwr_8 so st ne n B g D w h hw hB
 by_cases d9:nm = [115,116,97,114,116]
 ·subst d9
  exact cwr_9 so st ne n B g D w h hw hB
 by_cases d10:nm = [101,110,100]
 ·subst d10
  exact cwr_10 so st ne n B g D w h hw hB
 by_cases d11:nm = [109,111,100,101]
 ·subst d11
  exact cwr_11 so st ne n B g D w h hw hB
 by_cases d12:nm = [114,101,100,117,99,116,105,111,110]
 ·subst d12
  exact cwr_12 so st ne n B g D w h hw hB
 by_cases d13:nm = [97,117,116,111,95,112,97,100]
 ·subst d13
  exact cwr_13 so st ne n B g D w h hw hB
 have e:updL D (wrL nm n) = flagD nm (n == 1) D:=by
  unfold wrL flagD
  rw [if_neg d0,if_neg d1,if_neg d2,if_neg d3,if_neg d4,if_neg d5,if_neg d6,if_neg d7,if_neg d8,if_neg d9,if_neg d10,if_neg d11,if_neg d12,if_neg d13]
  cases flagK nm <;> rfl
 rw [e]
 exact cwr_no so st ne n B g D w h nm hn d0 d1 d2 d3 d4 d5 d6 d7 d8 d9 d10 d11 d12 d13
end Go.Proofs.YtbmmcbagdomonaaGreat
