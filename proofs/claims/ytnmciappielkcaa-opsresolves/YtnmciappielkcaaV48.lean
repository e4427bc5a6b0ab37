import Derived.Test.YtnmciappielkcaaV42
set_option maxRecDepth 100000
set_option maxHeartbeats 8000000
namespace Go.Proofs.Ytnmciappielkcaa
open Go.RowKit
set_option linter.unusedVariables false
set_option linter.unusedSimpArgs false
theorem stand_zero:∀ (l:List AtD) (D:SeD),(∀ a ∈ l,a.2.1 ≠ 13 ∧ a.2.2.1 = 0) → l.foldl standF D = D
 | [],D,_ => rfl
 | a :: r,D,h => by
   have h1:=h a List.mem_cons_self
   rw [List.foldl_cons,show standF D a = D by unfold standF; rw [if_neg h1.1,if_pos h1.2]]
   exact stand_zero r D fun x hx => h x (List.mem_cons_of_mem _ hx)
def dflOps:List Int:=[17,18,19,27,53,58,62,63,65,66,67,68,69,70,71,72,74,75,79,80]
theorem dfl_rest:(List.range 80).all (fun k:Nat => dflOps.contains ((k:Int) + 1) || (rowT ((k:Int) + 1)).2.2.2.2.2.all fun a => decide (a.2.1 ≠ 13) && decide (a.2.2.1 = 0)) = true:=by kernel_rfl
theorem dfl_zero {op:Int} (h:op ∉ dflOps):standD (rowT op).2.2.2.2.2 = zeroD:=by
 refine stand_zero _ _ fun a ha => ?_
 by_cases h1:1 ≤ op ∧ op ≤ 80
 ·have hk:=List.all_eq_true.1 dfl_rest (op - 1).toNat (List.mem_range.2 (by omega))
  rw [show (((op - 1).toNat:Nat):Int) + 1 = op by omega] at hk
  rw [Bool.or_eq_true,List.contains_iff_mem] at hk
  rcases hk with hk | hk
  ·exact absurd hk h
  ·have:=List.all_eq_true.1 hk a ha
   simpa using this
 ·unfold rowT at ha
  rw [if_neg h1] at ha
  simp [noRowD] at ha
theorem zero_val (B:Nat) (w:World):SeV B w zeroC zeroD:=zero_in _ _ _
theorem rdef8_17 (w:World):Calls Try.prog 18 #[.int .i64 17] w fun e w' => ∃ cs,e = .returned (.agg cs) ∧ SeV w.heap.size w' cs (standD (rowT 17).2.2.2.2.2) ∧ Below w.heap.size w w':=by
 have HS:Hid (standD (rowT 17).2.2.2.2.2 = (updD zeroD 9 (.u (1008981770)))):=hide (by kernel_rfl)
 have IN:=hide ((zero_val w.heap.size w).setU 9 (1008981770) rfl (by decide) rfl)
 have R1:Hid (Box (w.alloc (.cells zeroC 35)) w.heap.size zeroC 35):=hide (Box.new _ _ _)
 have BV:Hid (Below w.heap.size w (w.alloc (.cells zeroC 35))):=hide (al1p _ _)
 go_enter Try.func18,Try.ntmps18
 go_wp2_with (refine wpList_store8 rfl _ _ rfl rfl rfl (uh R1) rfl rfl (SeIn.ones (uh IN)) ?_; intro w5 b5 s5 _; have B5:=hide b5; have S5:=hide s5; clear b5 s5)
 have BT:Hid (Below w.heap.size w w5):=hide (bl_tr7 (uh BV) (bl_mono7 (uh S5).1 (by simp)))
 rw [uh HS]
 refine bodyPost_ret (results_se1 rfl rfl (uh B5) rfl) rfl ⟨_,rfl,(uh IN).below (uh BT),uh BT⟩
theorem rdef8_18 (w:World):Calls Try.prog 18 #[.int .i64 18] w fun e w' => ∃ cs,e = .returned (.agg cs) ∧ SeV w.heap.size w' cs (standD (rowT 18).2.2.2.2.2) ∧ Below w.heap.size w w':=by
 have HS:Hid (standD (rowT 18).2.2.2.2.2 = (updD zeroD 9 (.u (1065353216)))):=hide (by kernel_rfl)
 have IN:=hide ((zero_val w.heap.size w).setU 9 (1065353216) rfl (by decide) rfl)
 have R1:Hid (Box (w.alloc (.cells zeroC 35)) w.heap.size zeroC 35):=hide (Box.new _ _ _)
 have BV:Hid (Below w.heap.size w (w.alloc (.cells zeroC 35))):=hide (al1p _ _)
 go_enter Try.func18,Try.ntmps18
 go_wp2_with (refine wpList_store8 rfl _ _ rfl rfl rfl (uh R1) rfl rfl (SeIn.ones (uh IN)) ?_; intro w5 b5 s5 _; have B5:=hide b5; have S5:=hide s5; clear b5 s5)
 have BT:Hid (Below w.heap.size w w5):=hide (bl_tr7 (uh BV) (bl_mono7 (uh S5).1 (by simp)))
 rw [uh HS]
 refine bodyPost_ret (results_se1 rfl rfl (uh B5) rfl) rfl ⟨_,rfl,(uh IN).below (uh BT),uh BT⟩
theorem rdef8_19 (w:World):Calls Try.prog 18 #[.int .i64 19] w fun e w' => ∃ cs,e = .returned (.agg cs) ∧ SeV w.heap.size w' cs (standD (rowT 19).2.2.2.2.2) ∧ Below w.heap.size w w':=by
 have HS:Hid (standD (rowT 19).2.2.2.2.2 = (updD (updD zeroD 9 (.u (1045220557))) 10 (.u (1056964608)))):=hide (by kernel_rfl)
 have IN:=hide (((zero_val w.heap.size w).setU 9 (1045220557) rfl (by decide) rfl).setU 10 (1056964608) rfl (by decide) rfl)
 have R1:Hid (Box (w.alloc (.cells zeroC 35)) w.heap.size zeroC 35):=hide (Box.new _ _ _)
 have BV:Hid (Below w.heap.size w (w.alloc (.cells zeroC 35))):=hide (al1p _ _)
 go_enter Try.func18,Try.ntmps18
 go_wp2_with (refine wpList_store8 rfl _ _ rfl rfl rfl (uh R1) rfl rfl (SeIn.ones (uh IN)) ?_; intro w5 b5 s5 _; have B5:=hide b5; have S5:=hide s5; clear b5 s5)
 have BT:Hid (Below w.heap.size w w5):=hide (bl_tr7 (uh BV) (bl_mono7 (uh S5).1 (by simp)))
 rw [uh HS]
 refine bodyPost_ret (results_se1 rfl rfl (uh B5) rfl) rfl ⟨_,rfl,(uh IN).below (uh BT),uh BT⟩
theorem rdef8_27 (w:World):Calls Try.prog 18 #[.int .i64 27] w fun e w' => ∃ cs,e = .returned (.agg cs) ∧ SeV w.heap.size w' cs (standD (rowT 27).2.2.2.2.2) ∧ Below w.heap.size w w':=by
 have HS:Hid (standD (rowT 27).2.2.2.2.2 = (updD (updD zeroD 12 (.b (true))) 13 (.b (true)))):=hide (by kernel_rfl)
 have IN:=hide (((zero_val w.heap.size w).setB 12 (true) (by decide) rfl).setB 13 (true) (by decide) rfl)
 have R1:Hid (Box (w.alloc (.cells zeroC 35)) w.heap.size zeroC 35):=hide (Box.new _ _ _)
 have BV:Hid (Below w.heap.size w (w.alloc (.cells zeroC 35))):=hide (al1p _ _)
 go_enter Try.func18,Try.ntmps18
 go_wp2_with (refine wpList_store8 rfl _ _ rfl rfl rfl (uh R1) rfl rfl (SeIn.ones (uh IN)) ?_; intro w5 b5 s5 _; have B5:=hide b5; have S5:=hide s5; clear b5 s5)
 have BT:Hid (Below w.heap.size w w5):=hide (bl_tr7 (uh BV) (bl_mono7 (uh S5).1 (by simp)))
 rw [uh HS]
 refine bodyPost_ret (results_se1 rfl rfl (uh B5) rfl) rfl ⟨_,rfl,(uh IN).below (uh BT),uh BT⟩
theorem rdef8_53 (w:World):Calls Try.prog 18 #[.int .i64 53] w fun e w' => ∃ cs,e = .returned (.agg cs) ∧ SeV w.heap.size w' cs (standD (rowT 53).2.2.2.2.2) ∧ Below w.heap.size w w':=by
 have HS:Hid (standD (rowT 53).2.2.2.2.2 = (updD zeroD 16 (.i (1)))):=hide (by kernel_rfl)
 have IN:=hide ((zero_val w.heap.size w).setI 16 (1) rfl (by decide) rfl)
 have R1:Hid (Box (w.alloc (.cells zeroC 35)) w.heap.size zeroC 35):=hide (Box.new _ _ _)
 have BV:Hid (Below w.heap.size w (w.alloc (.cells zeroC 35))):=hide (al1p _ _)
 go_enter Try.func18,Try.ntmps18
 go_wp2_with (refine wpList_store8 rfl _ _ rfl rfl rfl (uh R1) rfl rfl (SeIn.ones (uh IN)) ?_; intro w5 b5 s5 _; have B5:=hide b5; have S5:=hide s5; clear b5 s5)
 have BT:Hid (Below w.heap.size w w5):=hide (bl_tr7 (uh BV) (bl_mono7 (uh S5).1 (by simp)))
 rw [uh HS]
 refine bodyPost_ret (results_se1 rfl rfl (uh B5) rfl) rfl ⟨_,rfl,(uh IN).below (uh BT),uh BT⟩
theorem rdef8_58 (w:World):Calls Try.prog 18 #[.int .i64 58] w fun e w' => ∃ cs,e = .returned (.agg cs) ∧ SeV w.heap.size w' cs (standD (rowT 58).2.2.2.2.2) ∧ Below w.heap.size w w':=by
 have HS:Hid (standD (rowT 58).2.2.2.2.2 = (updD zeroD 0 (.i (1)))):=hide (by kernel_rfl)
 have IN:=hide ((zero_val w.heap.size w).setI 0 (1) rfl (by decide) rfl)
 have R1:Hid (Box (w.alloc (.cells zeroC 35)) w.heap.size zeroC 35):=hide (Box.new _ _ _)
 have BV:Hid (Below w.heap.size w (w.alloc (.cells zeroC 35))):=hide (al1p _ _)
 go_enter Try.func18,Try.ntmps18
 go_wp2_with (refine wpList_store8 rfl _ _ rfl rfl rfl (uh R1) rfl rfl (SeIn.ones (uh IN)) ?_; intro w5 b5 s5 _; have B5:=hide b5; have S5:=hide s5; clear b5 s5)
 have BT:Hid (Below w.heap.size w w5):=hide (bl_tr7 (uh BV) (bl_mono7 (uh S5).1 (by simp)))
 rw [uh HS]
 refine bodyPost_ret (results_se1 rfl rfl (uh B5) rfl) rfl ⟨_,rfl,(uh IN).below (uh BT),uh BT⟩
theorem rdef8_62 (w:World):Calls Try.prog 18 #[.int .i64 62] w fun e w' => ∃ cs,e = .returned (.agg cs) ∧ SeV w.heap.size w' cs (standD (rowT 62).2.2.2.2.2) ∧ Below w.heap.size w w':=by
 have HS:Hid (standD (rowT 62).2.2.2.2.2 = updD zeroD 31 (.t (1,[1],[0],[],[]))):=hide (by kernel_rfl)
 obtain ⟨W,hW⟩:∃ W,W = ((w.alloc (.cells zeroC 35)).alloc (.cells #[.int .i64 1] 3)).alloc (.cells #[.int .u32 0] 28):=⟨_,rfl⟩
 have BV:Hid (Below w.heap.size w W):=hide (by rw [hW]; exact bl_tr (bl_tr (al1p _ _) (al1p _ _)) (al1p _ _))
 have R1:Hid (Box W w.heap.size zeroC 35):=hide (by rw [hW]; exact Box.alloc (Box.alloc (Box.new _ _ _) _) _)
 have HZ:W.heap.size = w.heap.size + 3:=by rw [hW]; simp
 have o1:OwL .i64 w.heap.size W.heap.size W (some ⟨w.heap.size + 1,0,none⟩) 1 [1]:=by
  rw [hW]
  have h1:=ow_one8 (B:=w.heap.size) (g:=w.heap.size + 9) (k:=w.heap.size + 1) (t:=3) (kd:=.i64) (w.alloc (.cells zeroC 35)) 1 (by simp) (by omega) (by omega) rfl
  exact ((h1.reg (Nat.le_refl _)).stay (Stay.below (al1p _ (.cells #[.int .u32 0] 28)) (Nat.le_refl _))).reg (Nat.le_refl _)
 have o2:OwL .u32 w.heap.size W.heap.size W (some ⟨w.heap.size + 2,0,none⟩) 1 [0]:=by
  rw [hW]
  have h1:=ow_one8 (B:=w.heap.size) (g:=w.heap.size + 9) (k:=w.heap.size + 2) (t:=28) (kd:=.u32) ((w.alloc (.cells zeroC 35)).alloc (.cells #[.int .i64 1] 3)) 0 (by simp) (by omega) (by omega) rfl
  exact h1.reg (Nat.le_refl _)
 have IN:Hid (SeV w.heap.size W (set5 zeroC (.int .i64 1) (.slice (some ⟨w.heap.size + 1,0,none⟩) 1 1) (.slice (some ⟨w.heap.size + 2,0,none⟩) 1 1) (.slice none 0 0) (.slice none 0 0)) (updD zeroD 31 (.t (1,[1],[0],[],[])))) :=
  hide ((zero_val w.heap.size W).setT (T:=(1,[1],[0],[],[])) (A:=⟨some ⟨w.heap.size + 1,0,none⟩,1,some ⟨w.heap.size + 2,0,none⟩,1,none,0,none,0⟩) ⟨rfl,o1,o2,OwL.nil _ _ _ _,OwB.nil _ _ _⟩)
 unfold zeroC at hW
 go_enter Try.func18,Try.ntmps18
 go_wp2_with (rw [← hW]; refine wpList_store8 rfl _ _ rfl rfl rfl (uh R1) rfl rfl (SeIn.ones (uh IN)) ?_; intro w5 b5 s5 _; have B5:=hide b5; have S5:=hide s5; clear b5 s5)
 have BT:Hid (Below w.heap.size w w5):=hide (bl_tr7 (uh BV) (bl_mono7 (uh S5).1 (by simp)))
 rw [uh HS]
 have Q0:InB (fun b => b ≠ w.heap.size) zeroC:=(SeIn.inB (zero_val w.heap.size w)).mono (fun b hb => by omega)
 have Q1:=((((Q0.set (k:=31) (v:=.int .i64 1) (fun b o n c e hp => by cases e)).set (k:=32) (v:=.slice (some ⟨w.heap.size + 1,0,none⟩) 1 1) (fun b o n c e hp => by simp only [Value.slice.injEq,Option.some.injEq,Addr.mk.injEq] at e; omega)).set (k:=33) (v:=.slice (some ⟨w.heap.size + 2,0,none⟩) 1 1) (fun b o n c e hp => by simp only [Value.slice.injEq,Option.some.injEq,Addr.mk.injEq] at e; omega)).set (k:=34) (v:=.slice none 0 0) (fun b o n c e hp => by cases e)).set (k:=35) (v:=.slice none 0 0) (fun b o n c e hp => by cases e)
 exact bodyPost_ret (results_se1 rfl rfl (uh B5) rfl) rfl ⟨_,rfl,(uh IN).holdS Q1 (uh S5).1.size (fun k hk hl => (uh S5).block hk hl),uh BT⟩
theorem rdef8_63 (w:World):Calls Try.prog 18 #[.int .i64 63] w fun e w' => ∃ cs,e = .returned (.agg cs) ∧ SeV w.heap.size w' cs (standD (rowT 63).2.2.2.2.2) ∧ Below w.heap.size w w':=by
 have HS:Hid (standD (rowT 63).2.2.2.2.2 = (updD zeroD 16 (.i (6)))):=hide (by kernel_rfl)
 have IN:=hide ((zero_val w.heap.size w).setI 16 (6) rfl (by decide) rfl)
 have R1:Hid (Box (w.alloc (.cells zeroC 35)) w.heap.size zeroC 35):=hide (Box.new _ _ _)
 have BV:Hid (Below w.heap.size w (w.alloc (.cells zeroC 35))):=hide (al1p _ _)
 go_enter Try.func18,Try.ntmps18
 go_wp2_with (refine wpList_store8 rfl _ _ rfl rfl rfl (uh R1) rfl rfl (SeIn.ones (uh IN)) ?_; intro w5 b5 s5 _; have B5:=hide b5; have S5:=hide s5; clear b5 s5)
 have BT:Hid (Below w.heap.size w w5):=hide (bl_tr7 (uh BV) (bl_mono7 (uh S5).1 (by simp)))
 rw [uh HS]
 refine bodyPost_ret (results_se1 rfl rfl (uh B5) rfl) rfl ⟨_,rfl,(uh IN).below (uh BT),uh BT⟩
theorem rdef8_65 (w:World):Calls Try.prog 18 #[.int .i64 65] w fun e w' => ∃ cs,e = .returned (.agg cs) ∧ SeV w.heap.size w' cs (standD (rowT 65).2.2.2.2.2) ∧ Below w.heap.size w w':=by
 have HS:Hid (standD (rowT 65).2.2.2.2.2 = (updD zeroD 3 (.b (true)))):=hide (by kernel_rfl)
 have IN:=hide ((zero_val w.heap.size w).setB 3 (true) (by decide) rfl)
 have R1:Hid (Box (w.alloc (.cells zeroC 35)) w.heap.size zeroC 35):=hide (Box.new _ _ _)
 have BV:Hid (Below w.heap.size w (w.alloc (.cells zeroC 35))):=hide (al1p _ _)
 go_enter Try.func18,Try.ntmps18
 go_wp2_with (refine wpList_store8 rfl _ _ rfl rfl rfl (uh R1) rfl rfl (SeIn.ones (uh IN)) ?_; intro w5 b5 s5 _; have B5:=hide b5; have S5:=hide s5; clear b5 s5)
 have BT:Hid (Below w.heap.size w w5):=hide (bl_tr7 (uh BV) (bl_mono7 (uh S5).1 (by simp)))
 rw [uh HS]
 refine bodyPost_ret (results_se1 rfl rfl (uh B5) rfl) rfl ⟨_,rfl,(uh IN).below (uh BT),uh BT⟩
theorem rdef8_66 (w:World):Calls Try.prog 18 #[.int .i64 66] w fun e w' => ∃ cs,e = .returned (.agg cs) ∧ SeV w.heap.size w' cs (standD (rowT 66).2.2.2.2.2) ∧ Below w.heap.size w w':=by
 have HS:Hid (standD (rowT 66).2.2.2.2.2 = (updD zeroD 3 (.b (true)))):=hide (by kernel_rfl)
 have IN:=hide ((zero_val w.heap.size w).setB 3 (true) (by decide) rfl)
 have R1:Hid (Box (w.alloc (.cells zeroC 35)) w.heap.size zeroC 35):=hide (Box.new _ _ _)
 have BV:Hid (Below w.heap.size w (w.alloc (.cells zeroC 35))):=hide (al1p _ _)
 go_enter Try.func18,Try.ntmps18
 go_wp2_with (refine wpList_store8 rfl _ _ rfl rfl rfl (uh R1) rfl rfl (SeIn.ones (uh IN)) ?_; intro w5 b5 s5 _; have B5:=hide b5; have S5:=hide s5; clear b5 s5)
 have BT:Hid (Below w.heap.size w w5):=hide (bl_tr7 (uh BV) (bl_mono7 (uh S5).1 (by simp)))
 rw [uh HS]
 refine bodyPost_ret (results_se1 rfl rfl (uh B5) rfl) rfl ⟨_,rfl,(uh IN).below (uh BT),uh BT⟩
theorem rdef8_67 (w:World):Calls Try.prog 18 #[.int .i64 67] w fun e w' => ∃ cs,e = .returned (.agg cs) ∧ SeV w.heap.size w' cs (standD (rowT 67).2.2.2.2.2) ∧ Below w.heap.size w w':=by
 have HS:Hid (standD (rowT 67).2.2.2.2.2 = (updD zeroD 3 (.b (true)))):=hide (by kernel_rfl)
 have IN:=hide ((zero_val w.heap.size w).setB 3 (true) (by decide) rfl)
 have R1:Hid (Box (w.alloc (.cells zeroC 35)) w.heap.size zeroC 35):=hide (Box.new _ _ _)
 have BV:Hid (Below w.heap.size w (w.alloc (.cells zeroC 35))):=hide (al1p _ _)
 go_enter Try.func18,Try.ntmps18
 go_wp2_with (refine wpList_store8 rfl _ _ rfl rfl rfl (uh R1) rfl rfl (SeIn.ones (uh IN)) ?_; intro w5 b5 s5 _; have B5:=hide b5; have S5:=hide s5; clear b5 s5)
 have BT:Hid (Below w.heap.size w w5):=hide (bl_tr7 (uh BV) (bl_mono7 (uh S5).1 (by simp)))
 rw [uh HS]
 refine bodyPost_ret (results_se1 rfl rfl (uh B5) rfl) rfl ⟨_,rfl,(uh IN).below (uh BT),uh BT⟩
theorem rdef8_68 (w:World):Calls Try.prog 18 #[.int .i64 68] w fun e w' => ∃ cs,e = .returned (.agg cs) ∧ SeV w.heap.size w' cs (standD (rowT 68).2.2.2.2.2) ∧ Below w.heap.size w w':=by
 have HS:Hid (standD (rowT 68).2.2.2.2.2 = (updD zeroD 3 (.b (true)))):=hide (by kernel_rfl)
 have IN:=hide ((zero_val w.heap.size w).setB 3 (true) (by decide) rfl)
 have R1:Hid (Box (w.alloc (.cells zeroC 35)) w.heap.size zeroC 35):=hide (Box.new _ _ _)
 have BV:Hid (Below w.heap.size w (w.alloc (.cells zeroC 35))):=hide (al1p _ _)
 go_enter Try.func18,Try.ntmps18
 go_wp2_with (refine wpList_store8 rfl _ _ rfl rfl rfl (uh R1) rfl rfl (SeIn.ones (uh IN)) ?_; intro w5 b5 s5 _; have B5:=hide b5; have S5:=hide s5; clear b5 s5)
 have BT:Hid (Below w.heap.size w w5):=hide (bl_tr7 (uh BV) (bl_mono7 (uh S5).1 (by simp)))
 rw [uh HS]
 refine bodyPost_ret (results_se1 rfl rfl (uh B5) rfl) rfl ⟨_,rfl,(uh IN).below (uh BT),uh BT⟩
theorem rdef8_69 (w:World):Calls Try.prog 18 #[.int .i64 69] w fun e w' => ∃ cs,e = .returned (.agg cs) ∧ SeV w.heap.size w' cs (standD (rowT 69).2.2.2.2.2) ∧ Below w.heap.size w w':=by
 have HS:Hid (standD (rowT 69).2.2.2.2.2 = (updD zeroD 3 (.b (true)))):=hide (by kernel_rfl)
 have IN:=hide ((zero_val w.heap.size w).setB 3 (true) (by decide) rfl)
 have R1:Hid (Box (w.alloc (.cells zeroC 35)) w.heap.size zeroC 35):=hide (Box.new _ _ _)
 have BV:Hid (Below w.heap.size w (w.alloc (.cells zeroC 35))):=hide (al1p _ _)
 go_enter Try.func18,Try.ntmps18
 go_wp2_with (refine wpList_store8 rfl _ _ rfl rfl rfl (uh R1) rfl rfl (SeIn.ones (uh IN)) ?_; intro w5 b5 s5 _; have B5:=hide b5; have S5:=hide s5; clear b5 s5)
 have BT:Hid (Below w.heap.size w w5):=hide (bl_tr7 (uh BV) (bl_mono7 (uh S5).1 (by simp)))
 rw [uh HS]
 refine bodyPost_ret (results_se1 rfl rfl (uh B5) rfl) rfl ⟨_,rfl,(uh IN).below (uh BT),uh BT⟩
theorem rdef8_70 (w:World):Calls Try.prog 18 #[.int .i64 70] w fun e w' => ∃ cs,e = .returned (.agg cs) ∧ SeV w.heap.size w' cs (standD (rowT 70).2.2.2.2.2) ∧ Below w.heap.size w w':=by
 have HS:Hid (standD (rowT 70).2.2.2.2.2 = (updD zeroD 3 (.b (true)))):=hide (by kernel_rfl)
 have IN:=hide ((zero_val w.heap.size w).setB 3 (true) (by decide) rfl)
 have R1:Hid (Box (w.alloc (.cells zeroC 35)) w.heap.size zeroC 35):=hide (Box.new _ _ _)
 have BV:Hid (Below w.heap.size w (w.alloc (.cells zeroC 35))):=hide (al1p _ _)
 go_enter Try.func18,Try.ntmps18
 go_wp2_with (refine wpList_store8 rfl _ _ rfl rfl rfl (uh R1) rfl rfl (SeIn.ones (uh IN)) ?_; intro w5 b5 s5 _; have B5:=hide b5; have S5:=hide s5; clear b5 s5)
 have BT:Hid (Below w.heap.size w w5):=hide (bl_tr7 (uh BV) (bl_mono7 (uh S5).1 (by simp)))
 rw [uh HS]
 refine bodyPost_ret (results_se1 rfl rfl (uh B5) rfl) rfl ⟨_,rfl,(uh IN).below (uh BT),uh BT⟩
theorem rdef8_71 (w:World):Calls Try.prog 18 #[.int .i64 71] w fun e w' => ∃ cs,e = .returned (.agg cs) ∧ SeV w.heap.size w' cs (standD (rowT 71).2.2.2.2.2) ∧ Below w.heap.size w w':=by
 have HS:Hid (standD (rowT 71).2.2.2.2.2 = (updD zeroD 3 (.b (true)))):=hide (by kernel_rfl)
 have IN:=hide ((zero_val w.heap.size w).setB 3 (true) (by decide) rfl)
 have R1:Hid (Box (w.alloc (.cells zeroC 35)) w.heap.size zeroC 35):=hide (Box.new _ _ _)
 have BV:Hid (Below w.heap.size w (w.alloc (.cells zeroC 35))):=hide (al1p _ _)
 go_enter Try.func18,Try.ntmps18
 go_wp2_with (refine wpList_store8 rfl _ _ rfl rfl rfl (uh R1) rfl rfl (SeIn.ones (uh IN)) ?_; intro w5 b5 s5 _; have B5:=hide b5; have S5:=hide s5; clear b5 s5)
 have BT:Hid (Below w.heap.size w w5):=hide (bl_tr7 (uh BV) (bl_mono7 (uh S5).1 (by simp)))
 rw [uh HS]
 refine bodyPost_ret (results_se1 rfl rfl (uh B5) rfl) rfl ⟨_,rfl,(uh IN).below (uh BT),uh BT⟩
theorem rdef8_72 (w:World):Calls Try.prog 18 #[.int .i64 72] w fun e w' => ∃ cs,e = .returned (.agg cs) ∧ SeV w.heap.size w' cs (standD (rowT 72).2.2.2.2.2) ∧ Below w.heap.size w w':=by
 have HS:Hid (standD (rowT 72).2.2.2.2.2 = (updD zeroD 0 (.i (-1)))):=hide (by kernel_rfl)
 have IN:=hide ((zero_val w.heap.size w).setI 0 (-1) rfl (by decide) rfl)
 have R1:Hid (Box (w.alloc (.cells zeroC 35)) w.heap.size zeroC 35):=hide (Box.new _ _ _)
 have BV:Hid (Below w.heap.size w (w.alloc (.cells zeroC 35))):=hide (al1p _ _)
 go_enter Try.func18,Try.ntmps18
 go_wp2_with (refine wpList_store8 rfl _ _ rfl rfl rfl (uh R1) rfl rfl (SeIn.ones (uh IN)) ?_; intro w5 b5 s5 _; have B5:=hide b5; have S5:=hide s5; clear b5 s5)
 have BT:Hid (Below w.heap.size w w5):=hide (bl_tr7 (uh BV) (bl_mono7 (uh S5).1 (by simp)))
 rw [uh HS]
 refine bodyPost_ret (results_se1 rfl rfl (uh B5) rfl) rfl ⟨_,rfl,(uh IN).below (uh BT),uh BT⟩
theorem rdef8_74 (w:World):Calls Try.prog 18 #[.int .i64 74] w fun e w' => ∃ cs,e = .returned (.agg cs) ∧ SeV w.heap.size w' cs (standD (rowT 74).2.2.2.2.2) ∧ Below w.heap.size w w':=by
 have HS:Hid (standD (rowT 74).2.2.2.2.2 = (updD (updD zeroD 9 (.u (1065353216))) 10 (.u (1065353216)))):=hide (by kernel_rfl)
 have IN:=hide (((zero_val w.heap.size w).setU 9 (1065353216) rfl (by decide) rfl).setU 10 (1065353216) rfl (by decide) rfl)
 have R1:Hid (Box (w.alloc (.cells zeroC 35)) w.heap.size zeroC 35):=hide (Box.new _ _ _)
 have BV:Hid (Below w.heap.size w (w.alloc (.cells zeroC 35))):=hide (al1p _ _)
 go_enter Try.func18,Try.ntmps18
 go_wp2_with (refine wpList_store8 rfl _ _ rfl rfl rfl (uh R1) rfl rfl (SeIn.ones (uh IN)) ?_; intro w5 b5 s5 _; have B5:=hide b5; have S5:=hide s5; clear b5 s5)
 have BT:Hid (Below w.heap.size w w5):=hide (bl_tr7 (uh BV) (bl_mono7 (uh S5).1 (by simp)))
 rw [uh HS]
 refine bodyPost_ret (results_se1 rfl rfl (uh B5) rfl) rfl ⟨_,rfl,(uh IN).below (uh BT),uh BT⟩
theorem rdef8_75 (w:World):Calls Try.prog 18 #[.int .i64 75] w fun e w' => ∃ cs,e = .returned (.agg cs) ∧ SeV w.heap.size w' cs (standD (rowT 75).2.2.2.2.2) ∧ Below w.heap.size w w':=by
 have HS:Hid (standD (rowT 75).2.2.2.2.2 = (updD zeroD 19 (.i (1)))):=hide (by kernel_rfl)
 have IN:=hide ((zero_val w.heap.size w).setI 19 (1) rfl (by decide) rfl)
 have R1:Hid (Box (w.alloc (.cells zeroC 35)) w.heap.size zeroC 35):=hide (Box.new _ _ _)
 have BV:Hid (Below w.heap.size w (w.alloc (.cells zeroC 35))):=hide (al1p _ _)
 go_enter Try.func18,Try.ntmps18
 go_wp2_with (refine wpList_store8 rfl _ _ rfl rfl rfl (uh R1) rfl rfl (SeIn.ones (uh IN)) ?_; intro w5 b5 s5 _; have B5:=hide b5; have S5:=hide s5; clear b5 s5)
 have BT:Hid (Below w.heap.size w w5):=hide (bl_tr7 (uh BV) (bl_mono7 (uh S5).1 (by simp)))
 rw [uh HS]
 refine bodyPost_ret (results_se1 rfl rfl (uh B5) rfl) rfl ⟨_,rfl,(uh IN).below (uh BT),uh BT⟩
theorem rdef8_79 (w:World):Calls Try.prog 18 #[.int .i64 79] w fun e w' => ∃ cs,e = .returned (.agg cs) ∧ SeV w.heap.size w' cs (standD (rowT 79).2.2.2.2.2) ∧ Below w.heap.size w w':=by
 have HS:Hid (standD (rowT 79).2.2.2.2.2 = (updD zeroD 11 (.u (925353388)))):=hide (by kernel_rfl)
 have IN:=hide ((zero_val w.heap.size w).setU 11 (925353388) rfl (by decide) rfl)
 have R1:Hid (Box (w.alloc (.cells zeroC 35)) w.heap.size zeroC 35):=hide (Box.new _ _ _)
 have BV:Hid (Below w.heap.size w (w.alloc (.cells zeroC 35))):=hide (al1p _ _)
 go_enter Try.func18,Try.ntmps18
 go_wp2_with (refine wpList_store8 rfl _ _ rfl rfl rfl (uh R1) rfl rfl (SeIn.ones (uh IN)) ?_; intro w5 b5 s5 _; have B5:=hide b5; have S5:=hide s5; clear b5 s5)
 have BT:Hid (Below w.heap.size w w5):=hide (bl_tr7 (uh BV) (bl_mono7 (uh S5).1 (by simp)))
 rw [uh HS]
 refine bodyPost_ret (results_se1 rfl rfl (uh B5) rfl) rfl ⟨_,rfl,(uh IN).below (uh BT),uh BT⟩
theorem rdef8_80 (w:World):Calls Try.prog 18 #[.int .i64 80] w fun e w' => ∃ cs,e = .returned (.agg cs) ∧ SeV w.heap.size w' cs (standD (rowT 80).2.2.2.2.2) ∧ Below w.heap.size w w':=by
 have HS:Hid (standD (rowT 80).2.2.2.2.2 = (updD (updD zeroD 0 (.i (-1))) 11 (.u (925353388)))):=hide (by kernel_rfl)
 have IN:=hide (((zero_val w.heap.size w).setI 0 (-1) rfl (by decide) rfl).setU 11 (925353388) rfl (by decide) rfl)
 have R1:Hid (Box (w.alloc (.cells zeroC 35)) w.heap.size zeroC 35):=hide (Box.new _ _ _)
 have BV:Hid (Below w.heap.size w (w.alloc (.cells zeroC 35))):=hide (al1p _ _)
 go_enter Try.func18,Try.ntmps18
 go_wp2_with (refine wpList_store8 rfl _ _ rfl rfl rfl (uh R1) rfl rfl (SeIn.ones (uh IN)) ?_; intro w5 b5 s5 _; have B5:=hide b5; have S5:=hide s5; clear b5 s5)
 have BT:Hid (Below w.heap.size w w5):=hide (bl_tr7 (uh BV) (bl_mono7 (uh S5).1 (by simp)))
 rw [uh HS]
 refine bodyPost_ret (results_se1 rfl rfl (uh B5) rfl) rfl ⟨_,rfl,(uh IN).below (uh BT),uh BT⟩
theorem rdef8_rest (op:Int) (w:World) (h:op ∉ dflOps):Calls Try.prog 18 #[.int .i64 op] w fun e w' => ∃ cs,e = .returned (.agg cs) ∧ SeV w.heap.size w' cs (standD (rowT op).2.2.2.2.2) ∧ Below w.heap.size w w':=by
 have HS:Hid (standD (rowT op).2.2.2.2.2 = zeroD):=hide (dfl_zero h)
 have hn:¬ op = 17 ∧ ¬ op = 18 ∧ ¬ op = 19 ∧ ¬ op = 27 ∧ ¬ op = 53 ∧ ¬ op = 58 ∧ ¬ op = 62 ∧ ¬ op = 63 ∧ ¬ op = 65 ∧ ¬ op = 66 ∧ ¬ op = 67 ∧ ¬ op = 68 ∧ ¬ op = 69 ∧ ¬ op = 70 ∧ ¬ op = 71 ∧ ¬ op = 72 ∧ ¬ op = 74 ∧ ¬ op = 75 ∧ ¬ op = 79 ∧ ¬ op = 80:=by simpa [dflOps] using h
 obtain ⟨h17,h18,h19,h27,h53,h58,h62,h63,h65,h66,h67,h68,h69,h70,h71,h72,h74,h75,h79,h80⟩:=hn
 have t17:(op == 17) = false:=by simp [h17]
 have t18:(op == 18) = false:=by simp [h18]
 have t19:(op == 19) = false:=by simp [h19]
 have t27:(op == 27) = false:=by simp [h27]
 have t53:(op == 53) = false:=by simp [h53]
 have t58:(op == 58) = false:=by simp [h58]
 have t62:(op == 62) = false:=by simp [h62]
 have t63:(op == 63) = false:=by simp [h63]
 have t65:(op == 65) = false:=by simp [h65]
 have t66:(op == 66) = false:=by simp [h66]
 have t67:(op == 67) = false:=by simp [h67]
 have t68:(op == 68) = false:=by simp [h68]
 have t69:(op == 69) = false:=by simp [h69]
 have t70:(op == 70) = false:=by simp [h70]
 have t71:(op == 71) = false:=by simp [h71]
 have t72:(op == 72) = false:=by simp [h72]
 have t74:(op == 74) = false:=by simp [h74]
 have t75:(op == 75) = false:=by simp [h75]
 have t79:(op == 79) = false:=by simp [h79]
 have t80:(op == 80) = false:=by simp [h80]
 clear h h17 h18 h19 h27 h53 h58 h62 h63 h65 h66 h67 h68 h69 h70 h71 h72 h74 h75 h79 h80
 have IN:=hide (zero_val w.heap.size w)
 have R1:Hid (Box (w.alloc (.cells zeroC 35)) w.heap.size zeroC 35):=hide (Box.new _ _ _)
 have BV:Hid (Below w.heap.size w (w.alloc (.cells zeroC 35))):=hide (al1p _ _)
 go_enter Try.func18,Try.ntmps18
 go_wp2_with (refine wpList_store8 rfl _ _ rfl rfl rfl (uh R1) rfl rfl (SeIn.ones (uh IN)) ?_; intro w5 b5 s5 _; have B5:=hide b5; have S5:=hide s5; clear b5 s5)
 have BT:Hid (Below w.heap.size w w5):=hide (bl_tr7 (uh BV) (bl_mono7 (uh S5).1 (by simp)))
 rw [uh HS]
 refine bodyPost_ret (results_se1 rfl rfl (uh B5) rfl) rfl ⟨_,rfl,(uh IN).below (uh BT),uh BT⟩
theorem rdefault8_any (op:Int) (w:World):Calls Try.prog 18 #[.int .i64 op] w fun e w' => ∃ cs,e = .returned (.agg cs) ∧ SeV w.heap.size w' cs (standD (rowT op).2.2.2.2.2) ∧ Below w.heap.size w w':=by
 by_cases h:op ∈ dflOps
 ·simp only [dflOps,List.mem_cons,List.not_mem_nil,or_false] at h
  rcases h with rfl | rfl | rfl | rfl | rfl | rfl | rfl | rfl | rfl | rfl | rfl | rfl | rfl | rfl | rfl | rfl | rfl | rfl | rfl | rfl
  ·exact rdef8_17 w
  ·exact rdef8_18 w
  ·exact rdef8_19 w
  ·exact rdef8_27 w
  ·exact rdef8_53 w
  ·exact rdef8_58 w
  ·exact rdef8_62 w
  ·exact rdef8_63 w
  ·exact rdef8_65 w
  ·exact rdef8_66 w
  ·exact rdef8_67 w
  ·exact rdef8_68 w
  ·exact rdef8_69 w
  ·exact rdef8_70 w
  ·exact rdef8_71 w
  ·exact rdef8_72 w
  ·exact rdef8_74 w
  ·exact rdef8_75 w
  ·exact rdef8_79 w
  ·exact rdef8_80 w
 ·exact rdef8_rest op w h
end Go.Proofs.Ytnmciappielkcaa
