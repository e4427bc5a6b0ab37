import Derived.Test.YtkbniebahledmabGF

/-
  Walks of package round's sums: two whose first bits stand alike, in either order, of like or unlike signs.
-/
namespace Go.Proofs.Ytkbniebahledmab
open Go.RowKit
set_option linter.unusedVariables false

theorem cells3 {w w1 : World} {o1 o2 o3 : Array Value} {t1 t2 t3 : TypeId}
    (hb : Below (((w.alloc (.cells o1 t1)).alloc (.cells o2 t2)).alloc (.cells o3 t3)).heap.size (((w.alloc (.cells o1 t1)).alloc (.cells o2 t2)).alloc (.cells o3 t3)) w1) :
    (∀ i, w1.cell? ⟨w.heap.size, i, none⟩ = o1[i]?) ∧ (∀ i, w1.cell? ⟨w.heap.size + 1, i, none⟩ = o2[i]?) ∧ (∀ i, w1.cell? ⟨w.heap.size + 1 + 1, i, none⟩ = o3[i]?) ∧ w.heap.size + 1 + 1 < w1.heap.size ∧ Below w.heap.size w w1 := by
  have hs := hb.size
  simp only [World.size_alloc] at hs
  refine ⟨fun i => ?_, fun i => ?_, fun i => ?_, by omega, ?_⟩
  · rw [hb.cell (p := ⟨w.heap.size, i, none⟩) (by simp only [World.size_alloc]; omega), World.cell?_alloc_past _ _ _ (by simp only [World.size_alloc]; omega), World.cell?_alloc_past _ _ _ (by simp only [World.size_alloc]; omega), World.cell?_alloc_at _ _ _ _ rfl]
  · rw [hb.cell (p := ⟨w.heap.size + 1, i, none⟩) (by simp only [World.size_alloc]; omega), World.cell?_alloc_past _ _ _ (by simp only [World.size_alloc]; omega), World.cell?_alloc_at _ _ _ _ (by simp only [World.size_alloc])]
  · rw [hb.cell (p := ⟨w.heap.size + 1 + 1, i, none⟩) (by simp only [World.size_alloc]; omega), World.cell?_alloc_at _ _ _ _ (by simp only [World.size_alloc])]
  · exact ((((Below.refl _ _).alloc (Nat.le_refl _) _).alloc (by simp) _).alloc (by simp; omega) _).trans (hb.mono (by simp only [World.size_alloc]; omega))

set_option maxRecDepth 100000 in
set_option maxHeartbeats 1000000 in
theorem csum_same_A (way : Int) (xn : Bool) (xe xs ye ys th tl ph pl rh rl res : Int) (more : Bool) (ho : ye < xe) (x0 : 0 ≤ xs) (x1 : xs < 9223372036854775808)
    (e0 : -1000 ≤ xe) (e1 : xe ≤ 1000) (f0 : -1000 ≤ ye) (f1 : ye ≤ 1000)
    (hlow : ∀ w, Calls Try.prog 76 #[.int .u64 ys, .int .i64 (xe - ye)] w fun e w' => e = .returned (.tuple #[.agg #[.int .u64 th, .int .u64 tl], .bool more]) ∧ Below w.heap.size w w')
    (hplus : ∀ w, Calls Try.prog 78 #[.agg #[.int .u64 xs, .int .u64 0], .agg #[.int .u64 th, .int .u64 tl]] w fun e w' => e = .returned (.agg #[.int .u64 ph, .int .u64 pl]) ∧ Below w.heap.size w w')
    (hnar : ∀ w, Calls Try.prog 77 #[.int .i64 way, .bool xn, .int .i64 xe, .agg #[.int .u64 ph, .int .u64 pl], .bool more] w fun e w' => e = .returned (.int .u32 res) ∧ Below w.heap.size w w')
    (w : World) :
    Calls Try.prog 69 #[.int .i64 way, .agg #[.bool xn, .int .i64 xe, .int .u64 xs], .agg #[.bool xn, .int .i64 ye, .int .u64 ys]] w fun e w' => e = .returned (.int .u32 res) ∧ Below w.heap.size w w' := by
  have HL := hide hlow
  have HP := hide hplus
  have HN := hide hnar
  clear hlow hplus hnar
  have c1 : decide (xe < ye) = false := by simp; omega
  have c2 : (xe == ye) = false := by simp; omega
  clear ho
  go_enter Try.func69, Try.ntmps69
  go_wp2_with fail
  refine (unhide HL _).mono ?_
  rintro e w1 ⟨rfl, hb1⟩
  obtain ⟨q1, q2, q3, z1, hbel1⟩ := cells3 hb1
  have k1 : w1.cell? ⟨w.heap.size, 0, none⟩ = some (.bool xn) := q1 0
  have k2 : w1.cell? ⟨w.heap.size, 1, none⟩ = some (.int .i64 xe) := q1 1
  have k3 : w1.cell? ⟨w.heap.size + 1, 0, none⟩ = some (.bool xn) := q2 0
  have k4 : w1.cell? ⟨w.heap.size + 1 + 1, 0, none⟩ = some (.int .u64 xs) := q3 0
  have k5 : w1.cell? ⟨w.heap.size + 1 + 1, 1, none⟩ = some (.int .u64 0) := q3 1
  have z2 : w.heap.size < w1.heap.size := by omega
  have z3 : w.heap.size + 1 < w1.heap.size := by omega
  clear hb1 q1 q2 q3 c1 c2
  have HB1 := hide hbel1
  clear hbel1
  go_wp2_with fail
  refine wp_region_below (by kernel_rfl) (by kernel_rfl) ?_
  intro T f hne hfb hfc
  have z4 : (w1.alloc (.cells #[.int .u64 th, .int .u64 tl] 67)).heap.size = w1.heap.size + 1 := by simp only [World.size_alloc]
  have c1 : ∀ x, (f x).cell? ⟨w.heap.size, 0, none⟩ = some (.bool xn) := qcell hfb (by rw [z4]; omega) ((World.cell?_alloc_past _ _ _ z2).trans k1)
  have c2 : ∀ x, (f x).cell? ⟨w.heap.size, 1, none⟩ = some (.int .i64 xe) := qcell hfb (by rw [z4]; omega) ((World.cell?_alloc_past _ _ _ z2).trans k2)
  have c3 : ∀ x, (f x).cell? ⟨w.heap.size + 1 + 1, 0, none⟩ = some (.int .u64 xs) := qcell hfb (by rw [z4]; omega) ((World.cell?_alloc_past _ _ _ z1).trans k4)
  have c4 : ∀ x, (f x).cell? ⟨w.heap.size + 1 + 1, 1, none⟩ = some (.int .u64 0) := qcell hfb (by rw [z4]; omega) ((World.cell?_alloc_past _ _ _ z1).trans k5)
  have c5 : ∀ x, (f x).cell? ⟨w1.heap.size, 0, none⟩ = some (.int .u64 th) := qcell hfb (by rw [z4]; omega) (World.cell?_alloc_at _ _ _ _ rfl)
  have c6 : ∀ x, (f x).cell? ⟨w1.heap.size, 1, none⟩ = some (.int .u64 tl) := qcell hfb (by rw [z4]; omega) (World.cell?_alloc_at _ _ _ _ rfl)
  have HF := hide (fun x => (unhide HB1).trans (((Below.refl w.heap.size w1).alloc (by omega) _).trans ((hfb x).mono (by rw [z4]; omega))))
  have HFB := hide hfb
  have HFC := hide hfc
  clear hfb hfc z4 k1 k2 k3 k4 k5
  repeat (go_big_quiet_step (first | (go_at_call 78; exact calls_qb (unhide HFB) (unhide HFC) (unhide HP _)) | (go_at_call 77; exact calls_qb (unhide HFB) (unhide HFC) (unhide HN _))))
  refine wpQuiet_nil ?_
  intro x
  go_wp2_with fail
  go_ret
  exact ⟨rfl, unhide HF x⟩

set_option maxRecDepth 100000 in
set_option maxHeartbeats 1000000 in
theorem csum_T_A (way : Int) (xn : Bool) (xe xs ye ys th tl ph pl rh rl res : Int) (more : Bool) (ho : ye < xe) (x0 : 0 ≤ xs) (x1 : xs < 9223372036854775808)
    (e0 : -1000 ≤ xe) (e1 : xe ≤ 1000) (f0 : -1000 ≤ ye) (f1 : ye ≤ 1000)
    (hlow : ∀ w, Calls Try.prog 76 #[.int .u64 ys, .int .i64 (xe - ye)] w fun e w' => e = .returned (.tuple #[.agg #[.int .u64 th, .int .u64 tl], .bool true]) ∧ Below w.heap.size w w')
    (hplus : ∀ w, Calls Try.prog 78 #[.agg #[.int .u64 th, .int .u64 tl], .agg #[.int .u64 0, .int .u64 1]] w fun e w' => e = .returned (.agg #[.int .u64 ph, .int .u64 pl]) ∧ Below w.heap.size w w')
    (hminus : ∀ w, Calls Try.prog 79 #[.agg #[.int .u64 xs, .int .u64 0], .agg #[.int .u64 ph, .int .u64 pl]] w fun e w' => e = .returned (.agg #[.int .u64 rh, .int .u64 rl]) ∧ Below w.heap.size w w')
    (hne : ((rh == 0) && (rl == 0)) = false)
    (hnar : ∀ w, Calls Try.prog 77 #[.int .i64 way, .bool xn, .int .i64 xe, .agg #[.int .u64 rh, .int .u64 rl], .bool true] w fun e w' => e = .returned (.int .u32 res) ∧ Below w.heap.size w w')
    (w : World) :
    Calls Try.prog 69 #[.int .i64 way, .agg #[.bool xn, .int .i64 xe, .int .u64 xs], .agg #[.bool (!xn), .int .i64 ye, .int .u64 ys]] w fun e w' => e = .returned (.int .u32 res) ∧ Below w.heap.size w w' := by
  have HL := hide hlow
  have HP := hide hplus
  have HM := hide hminus
  have HN := hide hnar
  clear hlow hplus hminus hnar
  have c1 : decide (xe < ye) = false := by simp; omega
  have c2 : (xe == ye) = false := by simp; omega
  clear ho
  have cx : (xn == !xn) = false := by cases xn <;> rfl
  go_enter Try.func69, Try.ntmps69
  go_wp2_with fail
  refine (unhide HL _).mono ?_
  rintro e w1 ⟨rfl, hb1⟩
  obtain ⟨q1, q2, q3, z1, hbel1⟩ := cells3 hb1
  have k1 : w1.cell? ⟨w.heap.size, 0, none⟩ = some (.bool xn) := q1 0
  have k2 : w1.cell? ⟨w.heap.size, 1, none⟩ = some (.int .i64 xe) := q1 1
  have k3 : w1.cell? ⟨w.heap.size + 1, 0, none⟩ = some (.bool (!xn)) := q2 0
  have k4 : w1.cell? ⟨w.heap.size + 1 + 1, 0, none⟩ = some (.int .u64 xs) := q3 0
  have k5 : w1.cell? ⟨w.heap.size + 1 + 1, 1, none⟩ = some (.int .u64 0) := q3 1
  have z2 : w.heap.size < w1.heap.size := by omega
  have z3 : w.heap.size + 1 < w1.heap.size := by omega
  clear hb1 q1 q2 q3 c1 c2
  have HB1 := hide hbel1
  clear hbel1
  go_wp2_with fail
  refine (unhide HP _).mono ?_
  rintro e w2 ⟨rfl, hb2⟩
  have z4 : (w1.alloc (.cells #[.int .u64 th, .int .u64 tl] 67)).heap.size = w1.heap.size + 1 := by simp only [World.size_alloc]
  have m1 : w2.cell? ⟨w.heap.size, 0, none⟩ = some (.bool xn) := (hb2.cell (p := ⟨w.heap.size, 0, none⟩) (by rw [z4]; exact Nat.lt_succ_of_lt z2)).trans ((World.cell?_alloc_past _ _ _ z2).trans k1)
  have m2 : w2.cell? ⟨w.heap.size, 1, none⟩ = some (.int .i64 xe) := (hb2.cell (p := ⟨w.heap.size, 1, none⟩) (by rw [z4]; exact Nat.lt_succ_of_lt z2)).trans ((World.cell?_alloc_past _ _ _ z2).trans k2)
  have m4 : w2.cell? ⟨w.heap.size + 1 + 1, 0, none⟩ = some (.int .u64 xs) := (hb2.cell (p := ⟨w.heap.size + 1 + 1, 0, none⟩) (by rw [z4]; exact Nat.lt_succ_of_lt z1)).trans ((World.cell?_alloc_past _ _ _ z1).trans k4)
  have m5 : w2.cell? ⟨w.heap.size + 1 + 1, 1, none⟩ = some (.int .u64 0) := (hb2.cell (p := ⟨w.heap.size + 1 + 1, 1, none⟩) (by rw [z4]; exact Nat.lt_succ_of_lt z1)).trans ((World.cell?_alloc_past _ _ _ z1).trans k5)
  have m6 : w2.cell? ⟨w1.heap.size, 0, none⟩ = some (.int .u64 th) := (hb2.cell (p := ⟨w1.heap.size, 0, none⟩) (by rw [z4]; exact Nat.lt_succ_self _)).trans (World.cell?_alloc_at _ _ _ _ rfl)
  have m7 : w2.cell? ⟨w1.heap.size, 1, none⟩ = some (.int .u64 tl) := (hb2.cell (p := ⟨w1.heap.size, 1, none⟩) (by rw [z4]; exact Nat.lt_succ_self _)).trans (World.cell?_alloc_at _ _ _ _ rfl)
  have f6 : w2.frozen? ⟨w1.heap.size, 0, none⟩ = false := (hb2.frozen (p := ⟨w1.heap.size, 0, none⟩) (by rw [z4]; exact Nat.lt_succ_self _)).trans (by go_simp)
  have f7 : w2.frozen? ⟨w1.heap.size, 1, none⟩ = false := (hb2.frozen (p := ⟨w1.heap.size, 1, none⟩) (by rw [z4]; exact Nat.lt_succ_self _)).trans (by go_simp)
  have z5 : w1.heap.size < w2.heap.size := by have := hb2.size; rw [z4] at this; omega
  have HB2 := hide (bl_tr (unhide HB1) (bl_tr ((Below.refl _ _).alloc (Nat.le_refl _) _) hb2))
  clear hb2 HB1 z4 k1 k2 k3 k4 k5
  go_wp2_with fail
  refine (unhide HM _).mono ?_
  rintro e w3 ⟨rfl, hb3⟩
  have hbW := (((Below.refl w1.heap.size w2).setCell (p := ⟨w1.heap.size, 0, none⟩) (Nat.le_refl _) (.int .u64 ph)).setCell (p := ⟨w1.heap.size, 1, none⟩) (Nat.le_refl _) (.int .u64 pl)).trans (hb3.mono (by simp only [World.size_setCell]; omega))
  have n1 : w3.cell? ⟨w.heap.size, 0, none⟩ = some (.bool xn) := (hbW.cell (p := ⟨w.heap.size, 0, none⟩) z2).trans m1
  have n2 : w3.cell? ⟨w.heap.size, 1, none⟩ = some (.int .i64 xe) := (hbW.cell (p := ⟨w.heap.size, 1, none⟩) z2).trans m2
  have z6 : w.heap.size < w3.heap.size := by have := hbW.size; omega
  have HB3 := hide ((unhide HB2).trans (hbW.mono (Nat.le_of_lt z2)))
  clear hb3 hbW HB2 m1 m2 m4 m5 m6 m7 f6 f7 z5 z1 z2 z3
  go_wp2_with fail
  all_goals subst_vars
  all_goals first | (exact absurd hne Bool.noConfusion) | (cases hne; done) | skip
  all_goals refine (unhide HN _).mono ?_
  all_goals rintro e w4 ⟨rfl, hb4⟩
  all_goals go_wp2_with fail
  all_goals go_ret
  all_goals exact ⟨rfl, bl_tr (unhide HB3) (bl_tr ((Below.refl _ _).alloc (Nat.le_refl _) _) hb4)⟩

set_option maxRecDepth 100000 in
set_option maxHeartbeats 1000000 in
theorem csum_F_A (way : Int) (xn : Bool) (xe xs ye ys th tl ph pl rh rl res : Int) (more : Bool) (ho : ye < xe) (x0 : 0 ≤ xs) (x1 : xs < 9223372036854775808)
    (e0 : -1000 ≤ xe) (e1 : xe ≤ 1000) (f0 : -1000 ≤ ye) (f1 : ye ≤ 1000)
    (hlow : ∀ w, Calls Try.prog 76 #[.int .u64 ys, .int .i64 (xe - ye)] w fun e w' => e = .returned (.tuple #[.agg #[.int .u64 th, .int .u64 tl], .bool false]) ∧ Below w.heap.size w w')
    (hminus : ∀ w, Calls Try.prog 79 #[.agg #[.int .u64 xs, .int .u64 0], .agg #[.int .u64 th, .int .u64 tl]] w fun e w' => e = .returned (.agg #[.int .u64 rh, .int .u64 rl]) ∧ Below w.heap.size w w')
    (hne : ((rh == 0) && (rl == 0)) = false)
    (hnar : ∀ w, Calls Try.prog 77 #[.int .i64 way, .bool xn, .int .i64 xe, .agg #[.int .u64 rh, .int .u64 rl], .bool false] w fun e w' => e = .returned (.int .u32 res) ∧ Below w.heap.size w w')
    (w : World) :
    Calls Try.prog 69 #[.int .i64 way, .agg #[.bool xn, .int .i64 xe, .int .u64 xs], .agg #[.bool (!xn), .int .i64 ye, .int .u64 ys]] w fun e w' => e = .returned (.int .u32 res) ∧ Below w.heap.size w w' := by
  have HL := hide hlow
  have HM := hide hminus
  have HN := hide hnar
  clear hlow hminus hnar
  have c1 : decide (xe < ye) = false := by simp; omega
  have c2 : (xe == ye) = false := by simp; omega
  clear ho
  have cx : (xn == !xn) = false := by cases xn <;> rfl
  go_enter Try.func69, Try.ntmps69
  go_wp2_with fail
  refine (unhide HL _).mono ?_
  rintro e w1 ⟨rfl, hb1⟩
  obtain ⟨q1, q2, q3, z1, hbel1⟩ := cells3 hb1
  have k1 : w1.cell? ⟨w.heap.size, 0, none⟩ = some (.bool xn) := q1 0
  have k2 : w1.cell? ⟨w.heap.size, 1, none⟩ = some (.int .i64 xe) := q1 1
  have k3 : w1.cell? ⟨w.heap.size + 1, 0, none⟩ = some (.bool (!xn)) := q2 0
  have k4 : w1.cell? ⟨w.heap.size + 1 + 1, 0, none⟩ = some (.int .u64 xs) := q3 0
  have k5 : w1.cell? ⟨w.heap.size + 1 + 1, 1, none⟩ = some (.int .u64 0) := q3 1
  have z2 : w.heap.size < w1.heap.size := by omega
  have z3 : w.heap.size + 1 < w1.heap.size := by omega
  clear hb1 q1 q2 q3 c1 c2
  have HB1 := hide hbel1
  clear hbel1
  go_wp2_with fail
  refine (unhide HM _).mono ?_
  rintro e w3 ⟨rfl, hb3⟩
  have hbW := (((Below.refl w1.heap.size w1).alloc (Nat.le_refl _) (.cells #[.int .u64 th, .int .u64 tl] 67))).trans (hb3.mono (by simp only [World.size_alloc]; omega))
  have n1 : w3.cell? ⟨w.heap.size, 0, none⟩ = some (.bool xn) := (hbW.cell (p := ⟨w.heap.size, 0, none⟩) z2).trans k1
  have n2 : w3.cell? ⟨w.heap.size, 1, none⟩ = some (.int .i64 xe) := (hbW.cell (p := ⟨w.heap.size, 1, none⟩) z2).trans k2
  have z6 : w.heap.size < w3.heap.size := by have := hbW.size; omega
  have HB3 := hide ((unhide HB1).trans (hbW.mono (Nat.le_of_lt z2)))
  clear hb3 hbW HB1 k1 k2 k3 k4 k5 z1 z2 z3
  go_wp2_with fail
  all_goals subst_vars
  all_goals first | (exact absurd hne Bool.noConfusion) | (cases hne; done) | skip
  all_goals refine (unhide HN _).mono ?_
  all_goals rintro e w4 ⟨rfl, hb4⟩
  all_goals go_wp2_with fail
  all_goals go_ret
  all_goals exact ⟨rfl, bl_tr (unhide HB3) (bl_tr ((Below.refl _ _).alloc (Nat.le_refl _) _) hb4)⟩

set_option maxRecDepth 100000 in
set_option maxHeartbeats 1000000 in
theorem csum_0_A (way : Int) (xn : Bool) (xe xs ye ys th tl ph pl rh rl res : Int) (more : Bool) (ho : ye < xe) (x0 : 0 ≤ xs) (x1 : xs < 9223372036854775808)
    (e0 : -1000 ≤ xe) (e1 : xe ≤ 1000) (f0 : -1000 ≤ ye) (f1 : ye ≤ 1000)
    (hlow : ∀ w, Calls Try.prog 76 #[.int .u64 ys, .int .i64 (xe - ye)] w fun e w' => e = .returned (.tuple #[.agg #[.int .u64 th, .int .u64 tl], .bool false]) ∧ Below w.heap.size w w')
    (hminus : ∀ w, Calls Try.prog 79 #[.agg #[.int .u64 xs, .int .u64 0], .agg #[.int .u64 th, .int .u64 tl]] w fun e w' => e = .returned (.agg #[.int .u64 0, .int .u64 0]) ∧ Below w.heap.size w w')
    (w : World) :
    Calls Try.prog 69 #[.int .i64 way, .agg #[.bool xn, .int .i64 xe, .int .u64 xs], .agg #[.bool (!xn), .int .i64 ye, .int .u64 ys]] w fun e w' => e = .returned (.int .u32 (Flt.signBit (decide (way = 2)))) ∧ Below w.heap.size w w' := by
  have HL := hide hlow
  have HM := hide hminus
  clear hlow hminus
  have c1 : decide (xe < ye) = false := by simp; omega
  have c2 : (xe == ye) = false := by simp; omega
  clear ho
  have cx : (xn == !xn) = false := by cases xn <;> rfl
  go_enter Try.func69, Try.ntmps69
  go_wp2_with fail
  refine (unhide HL _).mono ?_
  rintro e w1 ⟨rfl, hb1⟩
  obtain ⟨q1, q2, q3, z1, hbel1⟩ := cells3 hb1
  have k1 : w1.cell? ⟨w.heap.size, 0, none⟩ = some (.bool xn) := q1 0
  have k2 : w1.cell? ⟨w.heap.size, 1, none⟩ = some (.int .i64 xe) := q1 1
  have k3 : w1.cell? ⟨w.heap.size + 1, 0, none⟩ = some (.bool (!xn)) := q2 0
  have k4 : w1.cell? ⟨w.heap.size + 1 + 1, 0, none⟩ = some (.int .u64 xs) := q3 0
  have k5 : w1.cell? ⟨w.heap.size + 1 + 1, 1, none⟩ = some (.int .u64 0) := q3 1
  have z2 : w.heap.size < w1.heap.size := by omega
  have z3 : w.heap.size + 1 < w1.heap.size := by omega
  clear hb1 q1 q2 q3 c1 c2
  have HB1 := hide hbel1
  clear hbel1
  go_wp2_with fail
  refine (unhide HM _).mono ?_
  rintro e w3 ⟨rfl, hb3⟩
  have hbW := (((Below.refl w1.heap.size w1).alloc (Nat.le_refl _) (.cells #[.int .u64 th, .int .u64 tl] 67))).trans (hb3.mono (by simp only [World.size_alloc]; omega))
  have n1 : w3.cell? ⟨w.heap.size, 0, none⟩ = some (.bool xn) := (hbW.cell (p := ⟨w.heap.size, 0, none⟩) z2).trans k1
  have n2 : w3.cell? ⟨w.heap.size, 1, none⟩ = some (.int .i64 xe) := (hbW.cell (p := ⟨w.heap.size, 1, none⟩) z2).trans k2
  have z6 : w.heap.size < w3.heap.size := by have := hbW.size; omega
  have HB3 := hide ((unhide HB1).trans (hbW.mono (Nat.le_of_lt z2)))
  clear hb3 hbW HB1 k1 k2 k3 k4 k5 z1 z2 z3
  go_wp2_with fail
  refine (cnought_any way _).mono ?_
  rintro e w4 ⟨rfl, rfl⟩
  go_wp2_with fail
  go_ret
  exact ⟨rfl, bl_tr (unhide HB3) ((Below.refl _ _).alloc (Nat.le_refl _) _)⟩

set_option maxRecDepth 100000 in
set_option maxHeartbeats 1000000 in
theorem csum_same_B (way : Int) (xn : Bool) (xe xs ye ys th tl ph pl rh rl res : Int) (more : Bool) (ho : xe = ye) (ho2 : ys ≤ xs) (x0 : 0 ≤ xs) (x1 : xs < 9223372036854775808)
    (e0 : -1000 ≤ xe) (e1 : xe ≤ 1000) (f0 : -1000 ≤ ye) (f1 : ye ≤ 1000)
    (hlow : ∀ w, Calls Try.prog 76 #[.int .u64 ys, .int .i64 (xe - ye)] w fun e w' => e = .returned (.tuple #[.agg #[.int .u64 th, .int .u64 tl], .bool more]) ∧ Below w.heap.size w w')
    (hplus : ∀ w, Calls Try.prog 78 #[.agg #[.int .u64 xs, .int .u64 0], .agg #[.int .u64 th, .int .u64 tl]] w fun e w' => e = .returned (.agg #[.int .u64 ph, .int .u64 pl]) ∧ Below w.heap.size w w')
    (hnar : ∀ w, Calls Try.prog 77 #[.int .i64 way, .bool xn, .int .i64 xe, .agg #[.int .u64 ph, .int .u64 pl], .bool more] w fun e w' => e = .returned (.int .u32 res) ∧ Below w.heap.size w w')
    (w : World) :
    Calls Try.prog 69 #[.int .i64 way, .agg #[.bool xn, .int .i64 xe, .int .u64 xs], .agg #[.bool xn, .int .i64 ye, .int .u64 ys]] w fun e w' => e = .returned (.int .u32 res) ∧ Below w.heap.size w w' := by
  have HL := hide hlow
  have HP := hide hplus
  have HN := hide hnar
  clear hlow hplus hnar
  have c1 : decide (xe < ye) = false := by simp; omega
  have c2 : (xe == ye) = true := by simp; omega
  have c3 : decide (xs < ys) = false := by simp; omega
  clear ho ho2
  go_enter Try.func69, Try.ntmps69
  go_wp2_with fail
  refine (unhide HL _).mono ?_
  rintro e w1 ⟨rfl, hb1⟩
  obtain ⟨q1, q2, q3, z1, hbel1⟩ := cells3 hb1
  have k1 : w1.cell? ⟨w.heap.size, 0, none⟩ = some (.bool xn) := q1 0
  have k2 : w1.cell? ⟨w.heap.size, 1, none⟩ = some (.int .i64 xe) := q1 1
  have k3 : w1.cell? ⟨w.heap.size + 1, 0, none⟩ = some (.bool xn) := q2 0
  have k4 : w1.cell? ⟨w.heap.size + 1 + 1, 0, none⟩ = some (.int .u64 xs) := q3 0
  have k5 : w1.cell? ⟨w.heap.size + 1 + 1, 1, none⟩ = some (.int .u64 0) := q3 1
  have z2 : w.heap.size < w1.heap.size := by omega
  have z3 : w.heap.size + 1 < w1.heap.size := by omega
  clear hb1 q1 q2 q3 c1 c2 c3
  have HB1 := hide hbel1
  clear hbel1
  go_wp2_with fail
  refine wp_region_below (by kernel_rfl) (by kernel_rfl) ?_
  intro T f hne hfb hfc
  have z4 : (w1.alloc (.cells #[.int .u64 th, .int .u64 tl] 67)).heap.size = w1.heap.size + 1 := by simp only [World.size_alloc]
  have c1 : ∀ x, (f x).cell? ⟨w.heap.size, 0, none⟩ = some (.bool xn) := qcell hfb (by rw [z4]; omega) ((World.cell?_alloc_past _ _ _ z2).trans k1)
  have c2 : ∀ x, (f x).cell? ⟨w.heap.size, 1, none⟩ = some (.int .i64 xe) := qcell hfb (by rw [z4]; omega) ((World.cell?_alloc_past _ _ _ z2).trans k2)
  have c3 : ∀ x, (f x).cell? ⟨w.heap.size + 1 + 1, 0, none⟩ = some (.int .u64 xs) := qcell hfb (by rw [z4]; omega) ((World.cell?_alloc_past _ _ _ z1).trans k4)
  have c4 : ∀ x, (f x).cell? ⟨w.heap.size + 1 + 1, 1, none⟩ = some (.int .u64 0) := qcell hfb (by rw [z4]; omega) ((World.cell?_alloc_past _ _ _ z1).trans k5)
  have c5 : ∀ x, (f x).cell? ⟨w1.heap.size, 0, none⟩ = some (.int .u64 th) := qcell hfb (by rw [z4]; omega) (World.cell?_alloc_at _ _ _ _ rfl)
  have c6 : ∀ x, (f x).cell? ⟨w1.heap.size, 1, none⟩ = some (.int .u64 tl) := qcell hfb (by rw [z4]; omega) (World.cell?_alloc_at _ _ _ _ rfl)
  have HF := hide (fun x => (unhide HB1).trans (((Below.refl w.heap.size w1).alloc (by omega) _).trans ((hfb x).mono (by rw [z4]; omega))))
  have HFB := hide hfb
  have HFC := hide hfc
  clear hfb hfc z4 k1 k2 k3 k4 k5
  repeat (go_big_quiet_step (first | (go_at_call 78; exact calls_qb (unhide HFB) (unhide HFC) (unhide HP _)) | (go_at_call 77; exact calls_qb (unhide HFB) (unhide HFC) (unhide HN _))))
  refine wpQuiet_nil ?_
  intro x
  go_wp2_with fail
  go_ret
  exact ⟨rfl, unhide HF x⟩

set_option maxRecDepth 100000 in
set_option maxHeartbeats 1000000 in
theorem csum_T_B (way : Int) (xn : Bool) (xe xs ye ys th tl ph pl rh rl res : Int) (more : Bool) (ho : xe = ye) (ho2 : ys ≤ xs) (x0 : 0 ≤ xs) (x1 : xs < 9223372036854775808)
    (e0 : -1000 ≤ xe) (e1 : xe ≤ 1000) (f0 : -1000 ≤ ye) (f1 : ye ≤ 1000)
    (hlow : ∀ w, Calls Try.prog 76 #[.int .u64 ys, .int .i64 (xe - ye)] w fun e w' => e = .returned (.tuple #[.agg #[.int .u64 th, .int .u64 tl], .bool true]) ∧ Below w.heap.size w w')
    (hplus : ∀ w, Calls Try.prog 78 #[.agg #[.int .u64 th, .int .u64 tl], .agg #[.int .u64 0, .int .u64 1]] w fun e w' => e = .returned (.agg #[.int .u64 ph, .int .u64 pl]) ∧ Below w.heap.size w w')
    (hminus : ∀ w, Calls Try.prog 79 #[.agg #[.int .u64 xs, .int .u64 0], .agg #[.int .u64 ph, .int .u64 pl]] w fun e w' => e = .returned (.agg #[.int .u64 rh, .int .u64 rl]) ∧ Below w.heap.size w w')
    (hne : ((rh == 0) && (rl == 0)) = false)
    (hnar : ∀ w, Calls Try.prog 77 #[.int .i64 way, .bool xn, .int .i64 xe, .agg #[.int .u64 rh, .int .u64 rl], .bool true] w fun e w' => e = .returned (.int .u32 res) ∧ Below w.heap.size w w')
    (w : World) :
    Calls Try.prog 69 #[.int .i64 way, .agg #[.bool xn, .int .i64 xe, .int .u64 xs], .agg #[.bool (!xn), .int .i64 ye, .int .u64 ys]] w fun e w' => e = .returned (.int .u32 res) ∧ Below w.heap.size w w' := by
  have HL := hide hlow
  have HP := hide hplus
  have HM := hide hminus
  have HN := hide hnar
  clear hlow hplus hminus hnar
  have c1 : decide (xe < ye) = false := by simp; omega
  have c2 : (xe == ye) = true := by simp; omega
  have c3 : decide (xs < ys) = false := by simp; omega
  clear ho ho2
  have cx : (xn == !xn) = false := by cases xn <;> rfl
  go_enter Try.func69, Try.ntmps69
  go_wp2_with fail
  refine (unhide HL _).mono ?_
  rintro e w1 ⟨rfl, hb1⟩
  obtain ⟨q1, q2, q3, z1, hbel1⟩ := cells3 hb1
  have k1 : w1.cell? ⟨w.heap.size, 0, none⟩ = some (.bool xn) := q1 0
  have k2 : w1.cell? ⟨w.heap.size, 1, none⟩ = some (.int .i64 xe) := q1 1
  have k3 : w1.cell? ⟨w.heap.size + 1, 0, none⟩ = some (.bool (!xn)) := q2 0
  have k4 : w1.cell? ⟨w.heap.size + 1 + 1, 0, none⟩ = some (.int .u64 xs) := q3 0
  have k5 : w1.cell? ⟨w.heap.size + 1 + 1, 1, none⟩ = some (.int .u64 0) := q3 1
  have z2 : w.heap.size < w1.heap.size := by omega
  have z3 : w.heap.size + 1 < w1.heap.size := by omega
  clear hb1 q1 q2 q3 c1 c2 c3
  have HB1 := hide hbel1
  clear hbel1
  go_wp2_with fail
  refine (unhide HP _).mono ?_
  rintro e w2 ⟨rfl, hb2⟩
  have z4 : (w1.alloc (.cells #[.int .u64 th, .int .u64 tl] 67)).heap.size = w1.heap.size + 1 := by simp only [World.size_alloc]
  have m1 : w2.cell? ⟨w.heap.size, 0, none⟩ = some (.bool xn) := (hb2.cell (p := ⟨w.heap.size, 0, none⟩) (by rw [z4]; exact Nat.lt_succ_of_lt z2)).trans ((World.cell?_alloc_past _ _ _ z2).trans k1)
  have m2 : w2.cell? ⟨w.heap.size, 1, none⟩ = some (.int .i64 xe) := (hb2.cell (p := ⟨w.heap.size, 1, none⟩) (by rw [z4]; exact Nat.lt_succ_of_lt z2)).trans ((World.cell?_alloc_past _ _ _ z2).trans k2)
  have m4 : w2.cell? ⟨w.heap.size + 1 + 1, 0, none⟩ = some (.int .u64 xs) := (hb2.cell (p := ⟨w.heap.size + 1 + 1, 0, none⟩) (by rw [z4]; exact Nat.lt_succ_of_lt z1)).trans ((World.cell?_alloc_past _ _ _ z1).trans k4)
  have m5 : w2.cell? ⟨w.heap.size + 1 + 1, 1, none⟩ = some (.int .u64 0) := (hb2.cell (p := ⟨w.heap.size + 1 + 1, 1, none⟩) (by rw [z4]; exact Nat.lt_succ_of_lt z1)).trans ((World.cell?_alloc_past _ _ _ z1).trans k5)
  have m6 : w2.cell? ⟨w1.heap.size, 0, none⟩ = some (.int .u64 th) := (hb2.cell (p := ⟨w1.heap.size, 0, none⟩) (by rw [z4]; exact Nat.lt_succ_self _)).trans (World.cell?_alloc_at _ _ _ _ rfl)
  have m7 : w2.cell? ⟨w1.heap.size, 1, none⟩ = some (.int .u64 tl) := (hb2.cell (p := ⟨w1.heap.size, 1, none⟩) (by rw [z4]; exact Nat.lt_succ_self _)).trans (World.cell?_alloc_at _ _ _ _ rfl)
  have f6 : w2.frozen? ⟨w1.heap.size, 0, none⟩ = false := (hb2.frozen (p := ⟨w1.heap.size, 0, none⟩) (by rw [z4]; exact Nat.lt_succ_self _)).trans (by go_simp)
  have f7 : w2.frozen? ⟨w1.heap.size, 1, none⟩ = false := (hb2.frozen (p := ⟨w1.heap.size, 1, none⟩) (by rw [z4]; exact Nat.lt_succ_self _)).trans (by go_simp)
  have z5 : w1.heap.size < w2.heap.size := by have := hb2.size; rw [z4] at this; omega
  have HB2 := hide (bl_tr (unhide HB1) (bl_tr ((Below.refl _ _).alloc (Nat.le_refl _) _) hb2))
  clear hb2 HB1 z4 k1 k2 k3 k4 k5
  go_wp2_with fail
  refine (unhide HM _).mono ?_
  rintro e w3 ⟨rfl, hb3⟩
  have hbW := (((Below.refl w1.heap.size w2).setCell (p := ⟨w1.heap.size, 0, none⟩) (Nat.le_refl _) (.int .u64 ph)).setCell (p := ⟨w1.heap.size, 1, none⟩) (Nat.le_refl _) (.int .u64 pl)).trans (hb3.mono (by simp only [World.size_setCell]; omega))
  have n1 : w3.cell? ⟨w.heap.size, 0, none⟩ = some (.bool xn) := (hbW.cell (p := ⟨w.heap.size, 0, none⟩) z2).trans m1
  have n2 : w3.cell? ⟨w.heap.size, 1, none⟩ = some (.int .i64 xe) := (hbW.cell (p := ⟨w.heap.size, 1, none⟩) z2).trans m2
  have z6 : w.heap.size < w3.heap.size := by have := hbW.size; omega
  have HB3 := hide ((unhide HB2).trans (hbW.mono (Nat.le_of_lt z2)))
  clear hb3 hbW HB2 m1 m2 m4 m5 m6 m7 f6 f7 z5 z1 z2 z3
  go_wp2_with fail
  all_goals subst_vars
  all_goals first | (exact absurd hne Bool.noConfusion) | (cases hne; done) | skip
  all_goals refine (unhide HN _).mono ?_
  all_goals rintro e w4 ⟨rfl, hb4⟩
  all_goals go_wp2_with fail
  all_goals go_ret
  all_goals exact ⟨rfl, bl_tr (unhide HB3) (bl_tr ((Below.refl _ _).alloc (Nat.le_refl _) _) hb4)⟩

set_option maxRecDepth 100000 in
set_option maxHeartbeats 1000000 in
theorem csum_F_B (way : Int) (xn : Bool) (xe xs ye ys th tl ph pl rh rl res : Int) (more : Bool) (ho : xe = ye) (ho2 : ys ≤ xs) (x0 : 0 ≤ xs) (x1 : xs < 9223372036854775808)
    (e0 : -1000 ≤ xe) (e1 : xe ≤ 1000) (f0 : -1000 ≤ ye) (f1 : ye ≤ 1000)
    (hlow : ∀ w, Calls Try.prog 76 #[.int .u64 ys, .int .i64 (xe - ye)] w fun e w' => e = .returned (.tuple #[.agg #[.int .u64 th, .int .u64 tl], .bool false]) ∧ Below w.heap.size w w')
    (hminus : ∀ w, Calls Try.prog 79 #[.agg #[.int .u64 xs, .int .u64 0], .agg #[.int .u64 th, .int .u64 tl]] w fun e w' => e = .returned (.agg #[.int .u64 rh, .int .u64 rl]) ∧ Below w.heap.size w w')
    (hne : ((rh == 0) && (rl == 0)) = false)
    (hnar : ∀ w, Calls Try.prog 77 #[.int .i64 way, .bool xn, .int .i64 xe, .agg #[.int .u64 rh, .int .u64 rl], .bool false] w fun e w' => e = .returned (.int .u32 res) ∧ Below w.heap.size w w')
    (w : World) :
    Calls Try.prog 69 #[.int .i64 way, .agg #[.bool xn, .int .i64 xe, .int .u64 xs], .agg #[.bool (!xn), .int .i64 ye, .int .u64 ys]] w fun e w' => e = .returned (.int .u32 res) ∧ Below w.heap.size w w' := by
  have HL := hide hlow
  have HM := hide hminus
  have HN := hide hnar
  clear hlow hminus hnar
  have c1 : decide (xe < ye) = false := by simp; omega
  have c2 : (xe == ye) = true := by simp; omega
  have c3 : decide (xs < ys) = false := by simp; omega
  clear ho ho2
  have cx : (xn == !xn) = false := by cases xn <;> rfl
  go_enter Try.func69, Try.ntmps69
  go_wp2_with fail
  refine (unhide HL _).mono ?_
  rintro e w1 ⟨rfl, hb1⟩
  obtain ⟨q1, q2, q3, z1, hbel1⟩ := cells3 hb1
  have k1 : w1.cell? ⟨w.heap.size, 0, none⟩ = some (.bool xn) := q1 0
  have k2 : w1.cell? ⟨w.heap.size, 1, none⟩ = some (.int .i64 xe) := q1 1
  have k3 : w1.cell? ⟨w.heap.size + 1, 0, none⟩ = some (.bool (!xn)) := q2 0
  have k4 : w1.cell? ⟨w.heap.size + 1 + 1, 0, none⟩ = some (.int .u64 xs) := q3 0
  have k5 : w1.cell? ⟨w.heap.size + 1 + 1, 1, none⟩ = some (.int .u64 0) := q3 1
  have z2 : w.heap.size < w1.heap.size := by omega
  have z3 : w.heap.size + 1 < w1.heap.size := by omega
  clear hb1 q1 q2 q3 c1 c2 c3
  have HB1 := hide hbel1
  clear hbel1
  go_wp2_with fail
  refine (unhide HM _).mono ?_
  rintro e w3 ⟨rfl, hb3⟩
  have hbW := (((Below.refl w1.heap.size w1).alloc (Nat.le_refl _) (.cells #[.int .u64 th, .int .u64 tl] 67))).trans (hb3.mono (by simp only [World.size_alloc]; omega))
  have n1 : w3.cell? ⟨w.heap.size, 0, none⟩ = some (.bool xn) := (hbW.cell (p := ⟨w.heap.size, 0, none⟩) z2).trans k1
  have n2 : w3.cell? ⟨w.heap.size, 1, none⟩ = some (.int .i64 xe) := (hbW.cell (p := ⟨w.heap.size, 1, none⟩) z2).trans k2
  have z6 : w.heap.size < w3.heap.size := by have := hbW.size; omega
  have HB3 := hide ((unhide HB1).trans (hbW.mono (Nat.le_of_lt z2)))
  clear hb3 hbW HB1 k1 k2 k3 k4 k5 z1 z2 z3
  go_wp2_with fail
  all_goals subst_vars
  all_goals first | (exact absurd hne Bool.noConfusion) | (cases hne; done) | skip
  all_goals refine (unhide HN _).mono ?_
  all_goals rintro e w4 ⟨rfl, hb4⟩
  all_goals go_wp2_with fail
  all_goals go_ret
  all_goals exact ⟨rfl, bl_tr (unhide HB3) (bl_tr ((Below.refl _ _).alloc (Nat.le_refl _) _) hb4)⟩

set_option maxRecDepth 100000 in
set_option maxHeartbeats 1000000 in
theorem csum_0_B (way : Int) (xn : Bool) (xe xs ye ys th tl ph pl rh rl res : Int) (more : Bool) (ho : xe = ye) (ho2 : ys ≤ xs) (x0 : 0 ≤ xs) (x1 : xs < 9223372036854775808)
    (e0 : -1000 ≤ xe) (e1 : xe ≤ 1000) (f0 : -1000 ≤ ye) (f1 : ye ≤ 1000)
    (hlow : ∀ w, Calls Try.prog 76 #[.int .u64 ys, .int .i64 (xe - ye)] w fun e w' => e = .returned (.tuple #[.agg #[.int .u64 th, .int .u64 tl], .bool false]) ∧ Below w.heap.size w w')
    (hminus : ∀ w, Calls Try.prog 79 #[.agg #[.int .u64 xs, .int .u64 0], .agg #[.int .u64 th, .int .u64 tl]] w fun e w' => e = .returned (.agg #[.int .u64 0, .int .u64 0]) ∧ Below w.heap.size w w')
    (w : World) :
    Calls Try.prog 69 #[.int .i64 way, .agg #[.bool xn, .int .i64 xe, .int .u64 xs], .agg #[.bool (!xn), .int .i64 ye, .int .u64 ys]] w fun e w' => e = .returned (.int .u32 (Flt.signBit (decide (way = 2)))) ∧ Below w.heap.size w w' := by
  have HL := hide hlow
  have HM := hide hminus
  clear hlow hminus
  have c1 : decide (xe < ye) = false := by simp; omega
  have c2 : (xe == ye) = true := by simp; omega
  have c3 : decide (xs < ys) = false := by simp; omega
  clear ho ho2
  have cx : (xn == !xn) = false := by cases xn <;> rfl
  go_enter Try.func69, Try.ntmps69
  go_wp2_with fail
  refine (unhide HL _).mono ?_
  rintro e w1 ⟨rfl, hb1⟩
  obtain ⟨q1, q2, q3, z1, hbel1⟩ := cells3 hb1
  have k1 : w1.cell? ⟨w.heap.size, 0, none⟩ = some (.bool xn) := q1 0
  have k2 : w1.cell? ⟨w.heap.size, 1, none⟩ = some (.int .i64 xe) := q1 1
  have k3 : w1.cell? ⟨w.heap.size + 1, 0, none⟩ = some (.bool (!xn)) := q2 0
  have k4 : w1.cell? ⟨w.heap.size + 1 + 1, 0, none⟩ = some (.int .u64 xs) := q3 0
  have k5 : w1.cell? ⟨w.heap.size + 1 + 1, 1, none⟩ = some (.int .u64 0) := q3 1
  have z2 : w.heap.size < w1.heap.size := by omega
  have z3 : w.heap.size + 1 < w1.heap.size := by omega
  clear hb1 q1 q2 q3 c1 c2 c3
  have HB1 := hide hbel1
  clear hbel1
  go_wp2_with fail
  refine (unhide HM _).mono ?_
  rintro e w3 ⟨rfl, hb3⟩
  have hbW := (((Below.refl w1.heap.size w1).alloc (Nat.le_refl _) (.cells #[.int .u64 th, .int .u64 tl] 67))).trans (hb3.mono (by simp only [World.size_alloc]; omega))
  have n1 : w3.cell? ⟨w.heap.size, 0, none⟩ = some (.bool xn) := (hbW.cell (p := ⟨w.heap.size, 0, none⟩) z2).trans k1
  have n2 : w3.cell? ⟨w.heap.size, 1, none⟩ = some (.int .i64 xe) := (hbW.cell (p := ⟨w.heap.size, 1, none⟩) z2).trans k2
  have z6 : w.heap.size < w3.heap.size := by have := hbW.size; omega
  have HB3 := hide ((unhide HB1).trans (hbW.mono (Nat.le_of_lt z2)))
  clear hb3 hbW HB1 k1 k2 k3 k4 k5 z1 z2 z3
  go_wp2_with fail
  refine (cnought_any way _).mono ?_
  rintro e w4 ⟨rfl, rfl⟩
  go_wp2_with fail
  go_ret
  exact ⟨rfl, bl_tr (unhide HB3) ((Below.refl _ _).alloc (Nat.le_refl _) _)⟩

set_option maxRecDepth 100000 in
set_option maxHeartbeats 1000000 in
theorem csum_same_C (way : Int) (xn : Bool) (xe xs ye ys th tl ph pl rh rl res : Int) (more : Bool) (ho : ye < xe) (x0 : 0 ≤ xs) (x1 : xs < 9223372036854775808)
    (e0 : -1000 ≤ xe) (e1 : xe ≤ 1000) (f0 : -1000 ≤ ye) (f1 : ye ≤ 1000)
    (hlow : ∀ w, Calls Try.prog 76 #[.int .u64 ys, .int .i64 (xe - ye)] w fun e w' => e = .returned (.tuple #[.agg #[.int .u64 th, .int .u64 tl], .bool more]) ∧ Below w.heap.size w w')
    (hplus : ∀ w, Calls Try.prog 78 #[.agg #[.int .u64 xs, .int .u64 0], .agg #[.int .u64 th, .int .u64 tl]] w fun e w' => e = .returned (.agg #[.int .u64 ph, .int .u64 pl]) ∧ Below w.heap.size w w')
    (hnar : ∀ w, Calls Try.prog 77 #[.int .i64 way, .bool xn, .int .i64 xe, .agg #[.int .u64 ph, .int .u64 pl], .bool more] w fun e w' => e = .returned (.int .u32 res) ∧ Below w.heap.size w w')
    (w : World) :
    Calls Try.prog 69 #[.int .i64 way, .agg #[.bool xn, .int .i64 ye, .int .u64 ys], .agg #[.bool xn, .int .i64 xe, .int .u64 xs]] w fun e w' => e = .returned (.int .u32 res) ∧ Below w.heap.size w w' := by
  have HL := hide hlow
  have HP := hide hplus
  have HN := hide hnar
  clear hlow hplus hnar
  have c1 : decide (ye < xe) = true := by simp; omega
  clear ho
  go_enter Try.func69, Try.ntmps69
  go_wp2_with fail
  refine (unhide HL _).mono ?_
  rintro e w1 ⟨rfl, hb1⟩
  obtain ⟨q1, q2, q3, z1, hbel1⟩ := cells3 hb1
  have k1 : w1.cell? ⟨w.heap.size, 0, none⟩ = some (.bool xn) := q1 0
  have k2 : w1.cell? ⟨w.heap.size, 1, none⟩ = some (.int .i64 xe) := q1 1
  have k3 : w1.cell? ⟨w.heap.size + 1, 0, none⟩ = some (.bool xn) := q2 0
  have k4 : w1.cell? ⟨w.heap.size + 1 + 1, 0, none⟩ = some (.int .u64 xs) := q3 0
  have k5 : w1.cell? ⟨w.heap.size + 1 + 1, 1, none⟩ = some (.int .u64 0) := q3 1
  have z2 : w.heap.size < w1.heap.size := by omega
  have z3 : w.heap.size + 1 < w1.heap.size := by omega
  clear hb1 q1 q2 q3 c1
  have HB1 := hide hbel1
  clear hbel1
  go_wp2_with fail
  refine wp_region_below (by kernel_rfl) (by kernel_rfl) ?_
  intro T f hne hfb hfc
  have z4 : (w1.alloc (.cells #[.int .u64 th, .int .u64 tl] 67)).heap.size = w1.heap.size + 1 := by simp only [World.size_alloc]
  have c1 : ∀ x, (f x).cell? ⟨w.heap.size, 0, none⟩ = some (.bool xn) := qcell hfb (by rw [z4]; omega) ((World.cell?_alloc_past _ _ _ z2).trans k1)
  have c2 : ∀ x, (f x).cell? ⟨w.heap.size, 1, none⟩ = some (.int .i64 xe) := qcell hfb (by rw [z4]; omega) ((World.cell?_alloc_past _ _ _ z2).trans k2)
  have c3 : ∀ x, (f x).cell? ⟨w.heap.size + 1 + 1, 0, none⟩ = some (.int .u64 xs) := qcell hfb (by rw [z4]; omega) ((World.cell?_alloc_past _ _ _ z1).trans k4)
  have c4 : ∀ x, (f x).cell? ⟨w.heap.size + 1 + 1, 1, none⟩ = some (.int .u64 0) := qcell hfb (by rw [z4]; omega) ((World.cell?_alloc_past _ _ _ z1).trans k5)
  have c5 : ∀ x, (f x).cell? ⟨w1.heap.size, 0, none⟩ = some (.int .u64 th) := qcell hfb (by rw [z4]; omega) (World.cell?_alloc_at _ _ _ _ rfl)
  have c6 : ∀ x, (f x).cell? ⟨w1.heap.size, 1, none⟩ = some (.int .u64 tl) := qcell hfb (by rw [z4]; omega) (World.cell?_alloc_at _ _ _ _ rfl)
  have HF := hide (fun x => (unhide HB1).trans (((Below.refl w.heap.size w1).alloc (by omega) _).trans ((hfb x).mono (by rw [z4]; omega))))
  have HFB := hide hfb
  have HFC := hide hfc
  clear hfb hfc z4 k1 k2 k3 k4 k5
  repeat (go_big_quiet_step (first | (go_at_call 78; exact calls_qb (unhide HFB) (unhide HFC) (unhide HP _)) | (go_at_call 77; exact calls_qb (unhide HFB) (unhide HFC) (unhide HN _))))
  refine wpQuiet_nil ?_
  intro x
  go_wp2_with fail
  go_ret
  exact ⟨rfl, unhide HF x⟩

set_option maxRecDepth 100000 in
set_option maxHeartbeats 1000000 in
theorem csum_T_C (way : Int) (xn : Bool) (xe xs ye ys th tl ph pl rh rl res : Int) (more : Bool) (ho : ye < xe) (x0 : 0 ≤ xs) (x1 : xs < 9223372036854775808)
    (e0 : -1000 ≤ xe) (e1 : xe ≤ 1000) (f0 : -1000 ≤ ye) (f1 : ye ≤ 1000)
    (hlow : ∀ w, Calls Try.prog 76 #[.int .u64 ys, .int .i64 (xe - ye)] w fun e w' => e = .returned (.tuple #[.agg #[.int .u64 th, .int .u64 tl], .bool true]) ∧ Below w.heap.size w w')
    (hplus : ∀ w, Calls Try.prog 78 #[.agg #[.int .u64 th, .int .u64 tl], .agg #[.int .u64 0, .int .u64 1]] w fun e w' => e = .returned (.agg #[.int .u64 ph, .int .u64 pl]) ∧ Below w.heap.size w w')
    (hminus : ∀ w, Calls Try.prog 79 #[.agg #[.int .u64 xs, .int .u64 0], .agg #[.int .u64 ph, .int .u64 pl]] w fun e w' => e = .returned (.agg #[.int .u64 rh, .int .u64 rl]) ∧ Below w.heap.size w w')
    (hne : ((rh == 0) && (rl == 0)) = false)
    (hnar : ∀ w, Calls Try.prog 77 #[.int .i64 way, .bool xn, .int .i64 xe, .agg #[.int .u64 rh, .int .u64 rl], .bool true] w fun e w' => e = .returned (.int .u32 res) ∧ Below w.heap.size w w')
    (w : World) :
    Calls Try.prog 69 #[.int .i64 way, .agg #[.bool (!xn), .int .i64 ye, .int .u64 ys], .agg #[.bool xn, .int .i64 xe, .int .u64 xs]] w fun e w' => e = .returned (.int .u32 res) ∧ Below w.heap.size w w' := by
  have HL := hide hlow
  have HP := hide hplus
  have HM := hide hminus
  have HN := hide hnar
  clear hlow hplus hminus hnar
  have c1 : decide (ye < xe) = true := by simp; omega
  clear ho
  have cx : (xn == !xn) = false := by cases xn <;> rfl
  go_enter Try.func69, Try.ntmps69
  go_wp2_with fail
  refine (unhide HL _).mono ?_
  rintro e w1 ⟨rfl, hb1⟩
  obtain ⟨q1, q2, q3, z1, hbel1⟩ := cells3 hb1
  have k1 : w1.cell? ⟨w.heap.size, 0, none⟩ = some (.bool xn) := q1 0
  have k2 : w1.cell? ⟨w.heap.size, 1, none⟩ = some (.int .i64 xe) := q1 1
  have k3 : w1.cell? ⟨w.heap.size + 1, 0, none⟩ = some (.bool (!xn)) := q2 0
  have k4 : w1.cell? ⟨w.heap.size + 1 + 1, 0, none⟩ = some (.int .u64 xs) := q3 0
  have k5 : w1.cell? ⟨w.heap.size + 1 + 1, 1, none⟩ = some (.int .u64 0) := q3 1
  have z2 : w.heap.size < w1.heap.size := by omega
  have z3 : w.heap.size + 1 < w1.heap.size := by omega
  clear hb1 q1 q2 q3 c1
  have HB1 := hide hbel1
  clear hbel1
  go_wp2_with fail
  refine (unhide HP _).mono ?_
  rintro e w2 ⟨rfl, hb2⟩
  have z4 : (w1.alloc (.cells #[.int .u64 th, .int .u64 tl] 67)).heap.size = w1.heap.size + 1 := by simp only [World.size_alloc]
  have m1 : w2.cell? ⟨w.heap.size, 0, none⟩ = some (.bool xn) := (hb2.cell (p := ⟨w.heap.size, 0, none⟩) (by rw [z4]; exact Nat.lt_succ_of_lt z2)).trans ((World.cell?_alloc_past _ _ _ z2).trans k1)
  have m2 : w2.cell? ⟨w.heap.size, 1, none⟩ = some (.int .i64 xe) := (hb2.cell (p := ⟨w.heap.size, 1, none⟩) (by rw [z4]; exact Nat.lt_succ_of_lt z2)).trans ((World.cell?_alloc_past _ _ _ z2).trans k2)
  have m4 : w2.cell? ⟨w.heap.size + 1 + 1, 0, none⟩ = some (.int .u64 xs) := (hb2.cell (p := ⟨w.heap.size + 1 + 1, 0, none⟩) (by rw [z4]; exact Nat.lt_succ_of_lt z1)).trans ((World.cell?_alloc_past _ _ _ z1).trans k4)
  have m5 : w2.cell? ⟨w.heap.size + 1 + 1, 1, none⟩ = some (.int .u64 0) := (hb2.cell (p := ⟨w.heap.size + 1 + 1, 1, none⟩) (by rw [z4]; exact Nat.lt_succ_of_lt z1)).trans ((World.cell?_alloc_past _ _ _ z1).trans k5)
  have m6 : w2.cell? ⟨w1.heap.size, 0, none⟩ = some (.int .u64 th) := (hb2.cell (p := ⟨w1.heap.size, 0, none⟩) (by rw [z4]; exact Nat.lt_succ_self _)).trans (World.cell?_alloc_at _ _ _ _ rfl)
  have m7 : w2.cell? ⟨w1.heap.size, 1, none⟩ = some (.int .u64 tl) := (hb2.cell (p := ⟨w1.heap.size, 1, none⟩) (by rw [z4]; exact Nat.lt_succ_self _)).trans (World.cell?_alloc_at _ _ _ _ rfl)
  have f6 : w2.frozen? ⟨w1.heap.size, 0, none⟩ = false := (hb2.frozen (p := ⟨w1.heap.size, 0, none⟩) (by rw [z4]; exact Nat.lt_succ_self _)).trans (by go_simp)
  have f7 : w2.frozen? ⟨w1.heap.size, 1, none⟩ = false := (hb2.frozen (p := ⟨w1.heap.size, 1, none⟩) (by rw [z4]; exact Nat.lt_succ_self _)).trans (by go_simp)
  have z5 : w1.heap.size < w2.heap.size := by have := hb2.size; rw [z4] at this; omega
  have HB2 := hide (bl_tr (unhide HB1) (bl_tr ((Below.refl _ _).alloc (Nat.le_refl _) _) hb2))
  clear hb2 HB1 z4 k1 k2 k3 k4 k5
  go_wp2_with fail
  refine (unhide HM _).mono ?_
  rintro e w3 ⟨rfl, hb3⟩
  have hbW := (((Below.refl w1.heap.size w2).setCell (p := ⟨w1.heap.size, 0, none⟩) (Nat.le_refl _) (.int .u64 ph)).setCell (p := ⟨w1.heap.size, 1, none⟩) (Nat.le_refl _) (.int .u64 pl)).trans (hb3.mono (by simp only [World.size_setCell]; omega))
  have n1 : w3.cell? ⟨w.heap.size, 0, none⟩ = some (.bool xn) := (hbW.cell (p := ⟨w.heap.size, 0, none⟩) z2).trans m1
  have n2 : w3.cell? ⟨w.heap.size, 1, none⟩ = some (.int .i64 xe) := (hbW.cell (p := ⟨w.heap.size, 1, none⟩) z2).trans m2
  have z6 : w.heap.size < w3.heap.size := by have := hbW.size; omega
  have HB3 := hide ((unhide HB2).trans (hbW.mono (Nat.le_of_lt z2)))
  clear hb3 hbW HB2 m1 m2 m4 m5 m6 m7 f6 f7 z5 z1 z2 z3
  go_wp2_with fail
  all_goals subst_vars
  all_goals first | (exact absurd hne Bool.noConfusion) | (cases hne; done) | skip
  all_goals refine (unhide HN _).mono ?_
  all_goals rintro e w4 ⟨rfl, hb4⟩
  all_goals go_wp2_with fail
  all_goals go_ret
  all_goals exact ⟨rfl, bl_tr (unhide HB3) (bl_tr ((Below.refl _ _).alloc (Nat.le_refl _) _) hb4)⟩

set_option maxRecDepth 100000 in
set_option maxHeartbeats 1000000 in
theorem csum_F_C (way : Int) (xn : Bool) (xe xs ye ys th tl ph pl rh rl res : Int) (more : Bool) (ho : ye < xe) (x0 : 0 ≤ xs) (x1 : xs < 9223372036854775808)
    (e0 : -1000 ≤ xe) (e1 : xe ≤ 1000) (f0 : -1000 ≤ ye) (f1 : ye ≤ 1000)
    (hlow : ∀ w, Calls Try.prog 76 #[.int .u64 ys, .int .i64 (xe - ye)] w fun e w' => e = .returned (.tuple #[.agg #[.int .u64 th, .int .u64 tl], .bool false]) ∧ Below w.heap.size w w')
    (hminus : ∀ w, Calls Try.prog 79 #[.agg #[.int .u64 xs, .int .u64 0], .agg #[.int .u64 th, .int .u64 tl]] w fun e w' => e = .returned (.agg #[.int .u64 rh, .int .u64 rl]) ∧ Below w.heap.size w w')
    (hne : ((rh == 0) && (rl == 0)) = false)
    (hnar : ∀ w, Calls Try.prog 77 #[.int .i64 way, .bool xn, .int .i64 xe, .agg #[.int .u64 rh, .int .u64 rl], .bool false] w fun e w' => e = .returned (.int .u32 res) ∧ Below w.heap.size w w')
    (w : World) :
    Calls Try.prog 69 #[.int .i64 way, .agg #[.bool (!xn), .int .i64 ye, .int .u64 ys], .agg #[.bool xn, .int .i64 xe, .int .u64 xs]] w fun e w' => e = .returned (.int .u32 res) ∧ Below w.heap.size w w' := by
  have HL := hide hlow
  have HM := hide hminus
  have HN := hide hnar
  clear hlow hminus hnar
  have c1 : decide (ye < xe) = true := by simp; omega
  clear ho
  have cx : (xn == !xn) = false := by cases xn <;> rfl
  go_enter Try.func69, Try.ntmps69
  go_wp2_with fail
  refine (unhide HL _).mono ?_
  rintro e w1 ⟨rfl, hb1⟩
  obtain ⟨q1, q2, q3, z1, hbel1⟩ := cells3 hb1
  have k1 : w1.cell? ⟨w.heap.size, 0, none⟩ = some (.bool xn) := q1 0
  have k2 : w1.cell? ⟨w.heap.size, 1, none⟩ = some (.int .i64 xe) := q1 1
  have k3 : w1.cell? ⟨w.heap.size + 1, 0, none⟩ = some (.bool (!xn)) := q2 0
  have k4 : w1.cell? ⟨w.heap.size + 1 + 1, 0, none⟩ = some (.int .u64 xs) := q3 0
  have k5 : w1.cell? ⟨w.heap.size + 1 + 1, 1, none⟩ = some (.int .u64 0) := q3 1
  have z2 : w.heap.size < w1.heap.size := by omega
  have z3 : w.heap.size + 1 < w1.heap.size := by omega
  clear hb1 q1 q2 q3 c1
  have HB1 := hide hbel1
  clear hbel1
  go_wp2_with fail
  refine (unhide HM _).mono ?_
  rintro e w3 ⟨rfl, hb3⟩
  have hbW := (((Below.refl w1.heap.size w1).alloc (Nat.le_refl _) (.cells #[.int .u64 th, .int .u64 tl] 67))).trans (hb3.mono (by simp only [World.size_alloc]; omega))
  have n1 : w3.cell? ⟨w.heap.size, 0, none⟩ = some (.bool xn) := (hbW.cell (p := ⟨w.heap.size, 0, none⟩) z2).trans k1
  have n2 : w3.cell? ⟨w.heap.size, 1, none⟩ = some (.int .i64 xe) := (hbW.cell (p := ⟨w.heap.size, 1, none⟩) z2).trans k2
  have z6 : w.heap.size < w3.heap.size := by have := hbW.size; omega
  have HB3 := hide ((unhide HB1).trans (hbW.mono (Nat.le_of_lt z2)))
  clear hb3 hbW HB1 k1 k2 k3 k4 k5 z1 z2 z3
  go_wp2_with fail
  all_goals subst_vars
  all_goals first | (exact absurd hne Bool.noConfusion) | (cases hne; done) | skip
  all_goals refine (unhide HN _).mono ?_
  all_goals rintro e w4 ⟨rfl, hb4⟩
  all_goals go_wp2_with fail
  all_goals go_ret
  all_goals exact ⟨rfl, bl_tr (unhide HB3) (bl_tr ((Below.refl _ _).alloc (Nat.le_refl _) _) hb4)⟩

set_option maxRecDepth 100000 in
set_option maxHeartbeats 1000000 in
theorem csum_0_C (way : Int) (xn : Bool) (xe xs ye ys th tl ph pl rh rl res : Int) (more : Bool) (ho : ye < xe) (x0 : 0 ≤ xs) (x1 : xs < 9223372036854775808)
    (e0 : -1000 ≤ xe) (e1 : xe ≤ 1000) (f0 : -1000 ≤ ye) (f1 : ye ≤ 1000)
    (hlow : ∀ w, Calls Try.prog 76 #[.int .u64 ys, .int .i64 (xe - ye)] w fun e w' => e = .returned (.tuple #[.agg #[.int .u64 th, .int .u64 tl], .bool false]) ∧ Below w.heap.size w w')
    (hminus : ∀ w, Calls Try.prog 79 #[.agg #[.int .u64 xs, .int .u64 0], .agg #[.int .u64 th, .int .u64 tl]] w fun e w' => e = .returned (.agg #[.int .u64 0, .int .u64 0]) ∧ Below w.heap.size w w')
    (w : World) :
    Calls Try.prog 69 #[.int .i64 way, .agg #[.bool (!xn), .int .i64 ye, .int .u64 ys], .agg #[.bool xn, .int .i64 xe, .int .u64 xs]] w fun e w' => e = .returned (.int .u32 (Flt.signBit (decide (way = 2)))) ∧ Below w.heap.size w w' := by
  have HL := hide hlow
  have HM := hide hminus
  clear hlow hminus
  have c1 : decide (ye < xe) = true := by simp; omega
  clear ho
  have cx : (xn == !xn) = false := by cases xn <;> rfl
  go_enter Try.func69, Try.ntmps69
  go_wp2_with fail
  refine (unhide HL _).mono ?_
  rintro e w1 ⟨rfl, hb1⟩
  obtain ⟨q1, q2, q3, z1, hbel1⟩ := cells3 hb1
  have k1 : w1.cell? ⟨w.heap.size, 0, none⟩ = some (.bool xn) := q1 0
  have k2 : w1.cell? ⟨w.heap.size, 1, none⟩ = some (.int .i64 xe) := q1 1
  have k3 : w1.cell? ⟨w.heap.size + 1, 0, none⟩ = some (.bool (!xn)) := q2 0
  have k4 : w1.cell? ⟨w.heap.size + 1 + 1, 0, none⟩ = some (.int .u64 xs) := q3 0
  have k5 : w1.cell? ⟨w.heap.size + 1 + 1, 1, none⟩ = some (.int .u64 0) := q3 1
  have z2 : w.heap.size < w1.heap.size := by omega
  have z3 : w.heap.size + 1 < w1.heap.size := by omega
  clear hb1 q1 q2 q3 c1
  have HB1 := hide hbel1
  clear hbel1
  go_wp2_with fail
  refine (unhide HM _).mono ?_
  rintro e w3 ⟨rfl, hb3⟩
  have hbW := (((Below.refl w1.heap.size w1).alloc (Nat.le_refl _) (.cells #[.int .u64 th, .int .u64 tl] 67))).trans (hb3.mono (by simp only [World.size_alloc]; omega))
  have n1 : w3.cell? ⟨w.heap.size, 0, none⟩ = some (.bool xn) := (hbW.cell (p := ⟨w.heap.size, 0, none⟩) z2).trans k1
  have n2 : w3.cell? ⟨w.heap.size, 1, none⟩ = some (.int .i64 xe) := (hbW.cell (p := ⟨w.heap.size, 1, none⟩) z2).trans k2
  have z6 : w.heap.size < w3.heap.size := by have := hbW.size; omega
  have HB3 := hide ((unhide HB1).trans (hbW.mono (Nat.le_of_lt z2)))
  clear hb3 hbW HB1 k1 k2 k3 k4 k5 z1 z2 z3
  go_wp2_with fail
  refine (cnought_any way _).mono ?_
  rintro e w4 ⟨rfl, rfl⟩
  go_wp2_with fail
  go_ret
  exact ⟨rfl, bl_tr (unhide HB3) ((Below.refl _ _).alloc (Nat.le_refl _) _)⟩

set_option maxRecDepth 100000 in
set_option maxHeartbeats 1000000 in
theorem csum_same_D (way : Int) (xn : Bool) (xe xs ye ys th tl ph pl rh rl res : Int) (more : Bool) (ho : ye = xe) (ho2 : ys < xs) (x0 : 0 ≤ xs) (x1 : xs < 9223372036854775808)
    (e0 : -1000 ≤ xe) (e1 : xe ≤ 1000) (f0 : -1000 ≤ ye) (f1 : ye ≤ 1000)
    (hlow : ∀ w, Calls Try.prog 76 #[.int .u64 ys, .int .i64 (xe - ye)] w fun e w' => e = .returned (.tuple #[.agg #[.int .u64 th, .int .u64 tl], .bool more]) ∧ Below w.heap.size w w')
    (hplus : ∀ w, Calls Try.prog 78 #[.agg #[.int .u64 xs, .int .u64 0], .agg #[.int .u64 th, .int .u64 tl]] w fun e w' => e = .returned (.agg #[.int .u64 ph, .int .u64 pl]) ∧ Below w.heap.size w w')
    (hnar : ∀ w, Calls Try.prog 77 #[.int .i64 way, .bool xn, .int .i64 xe, .agg #[.int .u64 ph, .int .u64 pl], .bool more] w fun e w' => e = .returned (.int .u32 res) ∧ Below w.heap.size w w')
    (w : World) :
    Calls Try.prog 69 #[.int .i64 way, .agg #[.bool xn, .int .i64 ye, .int .u64 ys], .agg #[.bool xn, .int .i64 xe, .int .u64 xs]] w fun e w' => e = .returned (.int .u32 res) ∧ Below w.heap.size w w' := by
  have HL := hide hlow
  have HP := hide hplus
  have HN := hide hnar
  clear hlow hplus hnar
  have c1 : decide (ye < xe) = false := by simp; omega
  have c2 : (ye == xe) = true := by simp; omega
  have c3 : decide (ys < xs) = true := by simp; omega
  clear ho ho2
  go_enter Try.func69, Try.ntmps69
  go_wp2_with fail
  refine (unhide HL _).mono ?_
  rintro e w1 ⟨rfl, hb1⟩
  obtain ⟨q1, q2, q3, z1, hbel1⟩ := cells3 hb1
  have k1 : w1.cell? ⟨w.heap.size, 0, none⟩ = some (.bool xn) := q1 0
  have k2 : w1.cell? ⟨w.heap.size, 1, none⟩ = some (.int .i64 xe) := q1 1
  have k3 : w1.cell? ⟨w.heap.size + 1, 0, none⟩ = some (.bool xn) := q2 0
  have k4 : w1.cell? ⟨w.heap.size + 1 + 1, 0, none⟩ = some (.int .u64 xs) := q3 0
  have k5 : w1.cell? ⟨w.heap.size + 1 + 1, 1, none⟩ = some (.int .u64 0) := q3 1
  have z2 : w.heap.size < w1.heap.size := by omega
  have z3 : w.heap.size + 1 < w1.heap.size := by omega
  clear hb1 q1 q2 q3 c1 c2 c3
  have HB1 := hide hbel1
  clear hbel1
  go_wp2_with fail
  refine wp_region_below (by kernel_rfl) (by kernel_rfl) ?_
  intro T f hne hfb hfc
  have z4 : (w1.alloc (.cells #[.int .u64 th, .int .u64 tl] 67)).heap.size = w1.heap.size + 1 := by simp only [World.size_alloc]
  have c1 : ∀ x, (f x).cell? ⟨w.heap.size, 0, none⟩ = some (.bool xn) := qcell hfb (by rw [z4]; omega) ((World.cell?_alloc_past _ _ _ z2).trans k1)
  have c2 : ∀ x, (f x).cell? ⟨w.heap.size, 1, none⟩ = some (.int .i64 xe) := qcell hfb (by rw [z4]; omega) ((World.cell?_alloc_past _ _ _ z2).trans k2)
  have c3 : ∀ x, (f x).cell? ⟨w.heap.size + 1 + 1, 0, none⟩ = some (.int .u64 xs) := qcell hfb (by rw [z4]; omega) ((World.cell?_alloc_past _ _ _ z1).trans k4)
  have c4 : ∀ x, (f x).cell? ⟨w.heap.size + 1 + 1, 1, none⟩ = some (.int .u64 0) := qcell hfb (by rw [z4]; omega) ((World.cell?_alloc_past _ _ _ z1).trans k5)
  have c5 : ∀ x, (f x).cell? ⟨w1.heap.size, 0, none⟩ = some (.int .u64 th) := qcell hfb (by rw [z4]; omega) (World.cell?_alloc_at _ _ _ _ rfl)
  have c6 : ∀ x, (f x).cell? ⟨w1.heap.size, 1, none⟩ = some (.int .u64 tl) := qcell hfb (by rw [z4]; omega) (World.cell?_alloc_at _ _ _ _ rfl)
  have HF := hide (fun x => (unhide HB1).trans (((Below.refl w.heap.size w1).alloc (by omega) _).trans ((hfb x).mono (by rw [z4]; omega))))
  have HFB := hide hfb
  have HFC := hide hfc
  clear hfb hfc z4 k1 k2 k3 k4 k5
  repeat (go_big_quiet_step (first | (go_at_call 78; exact calls_qb (unhide HFB) (unhide HFC) (unhide HP _)) | (go_at_call 77; exact calls_qb (unhide HFB) (unhide HFC) (unhide HN _))))
  refine wpQuiet_nil ?_
  intro x
  go_wp2_with fail
  go_ret
  exact ⟨rfl, unhide HF x⟩

set_option maxRecDepth 100000 in
set_option maxHeartbeats 1000000 in
theorem csum_T_D (way : Int) (xn : Bool) (xe xs ye ys th tl ph pl rh rl res : Int) (more : Bool) (ho : ye = xe) (ho2 : ys < xs) (x0 : 0 ≤ xs) (x1 : xs < 9223372036854775808)
    (e0 : -1000 ≤ xe) (e1 : xe ≤ 1000) (f0 : -1000 ≤ ye) (f1 : ye ≤ 1000)
    (hlow : ∀ w, Calls Try.prog 76 #[.int .u64 ys, .int .i64 (xe - ye)] w fun e w' => e = .returned (.tuple #[.agg #[.int .u64 th, .int .u64 tl], .bool true]) ∧ Below w.heap.size w w')
    (hplus : ∀ w, Calls Try.prog 78 #[.agg #[.int .u64 th, .int .u64 tl], .agg #[.int .u64 0, .int .u64 1]] w fun e w' => e = .returned (.agg #[.int .u64 ph, .int .u64 pl]) ∧ Below w.heap.size w w')
    (hminus : ∀ w, Calls Try.prog 79 #[.agg #[.int .u64 xs, .int .u64 0], .agg #[.int .u64 ph, .int .u64 pl]] w fun e w' => e = .returned (.agg #[.int .u64 rh, .int .u64 rl]) ∧ Below w.heap.size w w')
    (hne : ((rh == 0) && (rl == 0)) = false)
    (hnar : ∀ w, Calls Try.prog 77 #[.int .i64 way, .bool xn, .int .i64 xe, .agg #[.int .u64 rh, .int .u64 rl], .bool true] w fun e w' => e = .returned (.int .u32 res) ∧ Below w.heap.size w w')
    (w : World) :
    Calls Try.prog 69 #[.int .i64 way, .agg #[.bool (!xn), .int .i64 ye, .int .u64 ys], .agg #[.bool xn, .int .i64 xe, .int .u64 xs]] w fun e w' => e = .returned (.int .u32 res) ∧ Below w.heap.size w w' := by
  have HL := hide hlow
  have HP := hide hplus
  have HM := hide hminus
  have HN := hide hnar
  clear hlow hplus hminus hnar
  have c1 : decide (ye < xe) = false := by simp; omega
  have c2 : (ye == xe) = true := by simp; omega
  have c3 : decide (ys < xs) = true := by simp; omega
  clear ho ho2
  have cx : (xn == !xn) = false := by cases xn <;> rfl
  go_enter Try.func69, Try.ntmps69
  go_wp2_with fail
  refine (unhide HL _).mono ?_
  rintro e w1 ⟨rfl, hb1⟩
  obtain ⟨q1, q2, q3, z1, hbel1⟩ := cells3 hb1
  have k1 : w1.cell? ⟨w.heap.size, 0, none⟩ = some (.bool xn) := q1 0
  have k2 : w1.cell? ⟨w.heap.size, 1, none⟩ = some (.int .i64 xe) := q1 1
  have k3 : w1.cell? ⟨w.heap.size + 1, 0, none⟩ = some (.bool (!xn)) := q2 0
  have k4 : w1.cell? ⟨w.heap.size + 1 + 1, 0, none⟩ = some (.int .u64 xs) := q3 0
  have k5 : w1.cell? ⟨w.heap.size + 1 + 1, 1, none⟩ = some (.int .u64 0) := q3 1
  have z2 : w.heap.size < w1.heap.size := by omega
  have z3 : w.heap.size + 1 < w1.heap.size := by omega
  clear hb1 q1 q2 q3 c1 c2 c3
  have HB1 := hide hbel1
  clear hbel1
  go_wp2_with fail
  refine (unhide HP _).mono ?_
  rintro e w2 ⟨rfl, hb2⟩
  have z4 : (w1.alloc (.cells #[.int .u64 th, .int .u64 tl] 67)).heap.size = w1.heap.size + 1 := by simp only [World.size_alloc]
  have m1 : w2.cell? ⟨w.heap.size, 0, none⟩ = some (.bool xn) := (hb2.cell (p := ⟨w.heap.size, 0, none⟩) (by rw [z4]; exact Nat.lt_succ_of_lt z2)).trans ((World.cell?_alloc_past _ _ _ z2).trans k1)
  have m2 : w2.cell? ⟨w.heap.size, 1, none⟩ = some (.int .i64 xe) := (hb2.cell (p := ⟨w.heap.size, 1, none⟩) (by rw [z4]; exact Nat.lt_succ_of_lt z2)).trans ((World.cell?_alloc_past _ _ _ z2).trans k2)
  have m4 : w2.cell? ⟨w.heap.size + 1 + 1, 0, none⟩ = some (.int .u64 xs) := (hb2.cell (p := ⟨w.heap.size + 1 + 1, 0, none⟩) (by rw [z4]; exact Nat.lt_succ_of_lt z1)).trans ((World.cell?_alloc_past _ _ _ z1).trans k4)
  have m5 : w2.cell? ⟨w.heap.size + 1 + 1, 1, none⟩ = some (.int .u64 0) := (hb2.cell (p := ⟨w.heap.size + 1 + 1, 1, none⟩) (by rw [z4]; exact Nat.lt_succ_of_lt z1)).trans ((World.cell?_alloc_past _ _ _ z1).trans k5)
  have m6 : w2.cell? ⟨w1.heap.size, 0, none⟩ = some (.int .u64 th) := (hb2.cell (p := ⟨w1.heap.size, 0, none⟩) (by rw [z4]; exact Nat.lt_succ_self _)).trans (World.cell?_alloc_at _ _ _ _ rfl)
  have m7 : w2.cell? ⟨w1.heap.size, 1, none⟩ = some (.int .u64 tl) := (hb2.cell (p := ⟨w1.heap.size, 1, none⟩) (by rw [z4]; exact Nat.lt_succ_self _)).trans (World.cell?_alloc_at _ _ _ _ rfl)
  have f6 : w2.frozen? ⟨w1.heap.size, 0, none⟩ = false := (hb2.frozen (p := ⟨w1.heap.size, 0, none⟩) (by rw [z4]; exact Nat.lt_succ_self _)).trans (by go_simp)
  have f7 : w2.frozen? ⟨w1.heap.size, 1, none⟩ = false := (hb2.frozen (p := ⟨w1.heap.size, 1, none⟩) (by rw [z4]; exact Nat.lt_succ_self _)).trans (by go_simp)
  have z5 : w1.heap.size < w2.heap.size := by have := hb2.size; rw [z4] at this; omega
  have HB2 := hide (bl_tr (unhide HB1) (bl_tr ((Below.refl _ _).alloc (Nat.le_refl _) _) hb2))
  clear hb2 HB1 z4 k1 k2 k3 k4 k5
  go_wp2_with fail
  refine (unhide HM _).mono ?_
  rintro e w3 ⟨rfl, hb3⟩
  have hbW := (((Below.refl w1.heap.size w2).setCell (p := ⟨w1.heap.size, 0, none⟩) (Nat.le_refl _) (.int .u64 ph)).setCell (p := ⟨w1.heap.size, 1, none⟩) (Nat.le_refl _) (.int .u64 pl)).trans (hb3.mono (by simp only [World.size_setCell]; omega))
  have n1 : w3.cell? ⟨w.heap.size, 0, none⟩ = some (.bool xn) := (hbW.cell (p := ⟨w.heap.size, 0, none⟩) z2).trans m1
  have n2 : w3.cell? ⟨w.heap.size, 1, none⟩ = some (.int .i64 xe) := (hbW.cell (p := ⟨w.heap.size, 1, none⟩) z2).trans m2
  have z6 : w.heap.size < w3.heap.size := by have := hbW.size; omega
  have HB3 := hide ((unhide HB2).trans (hbW.mono (Nat.le_of_lt z2)))
  clear hb3 hbW HB2 m1 m2 m4 m5 m6 m7 f6 f7 z5 z1 z2 z3
  go_wp2_with fail
  all_goals subst_vars
  all_goals first | (exact absurd hne Bool.noConfusion) | (cases hne; done) | skip
  all_goals refine (unhide HN _).mono ?_
  all_goals rintro e w4 ⟨rfl, hb4⟩
  all_goals go_wp2_with fail
  all_goals go_ret
  all_goals exact ⟨rfl, bl_tr (unhide HB3) (bl_tr ((Below.refl _ _).alloc (Nat.le_refl _) _) hb4)⟩

set_option maxRecDepth 100000 in
set_option maxHeartbeats 1000000 in
theorem csum_F_D (way : Int) (xn : Bool) (xe xs ye ys th tl ph pl rh rl res : Int) (more : Bool) (ho : ye = xe) (ho2 : ys < xs) (x0 : 0 ≤ xs) (x1 : xs < 9223372036854775808)
    (e0 : -1000 ≤ xe) (e1 : xe ≤ 1000) (f0 : -1000 ≤ ye) (f1 : ye ≤ 1000)
    (hlow : ∀ w, Calls Try.prog 76 #[.int .u64 ys, .int .i64 (xe - ye)] w fun e w' => e = .returned (.tuple #[.agg #[.int .u64 th, .int .u64 tl], .bool false]) ∧ Below w.heap.size w w')
    (hminus : ∀ w, Calls Try.prog 79 #[.agg #[.int .u64 xs, .int .u64 0], .agg #[.int .u64 th, .int .u64 tl]] w fun e w' => e = .returned (.agg #[.int .u64 rh, .int .u64 rl]) ∧ Below w.heap.size w w')
    (hne : ((rh == 0) && (rl == 0)) = false)
    (hnar : ∀ w, Calls Try.prog 77 #[.int .i64 way, .bool xn, .int .i64 xe, .agg #[.int .u64 rh, .int .u64 rl], .bool false] w fun e w' => e = .returned (.int .u32 res) ∧ Below w.heap.size w w')
    (w : World) :
    Calls Try.prog 69 #[.int .i64 way, .agg #[.bool (!xn), .int .i64 ye, .int .u64 ys], .agg #[.bool xn, .int .i64 xe, .int .u64 xs]] w fun e w' => e = .returned (.int .u32 res) ∧ Below w.heap.size w w' := by
  have HL := hide hlow
  have HM := hide hminus
  have HN := hide hnar
  clear hlow hminus hnar
  have c1 : decide (ye < xe) = false := by simp; omega
  have c2 : (ye == xe) = true := by simp; omega
  have c3 : decide (ys < xs) = true := by simp; omega
  clear ho ho2
  have cx : (xn == !xn) = false := by cases xn <;> rfl
  go_enter Try.func69, Try.ntmps69
  go_wp2_with fail
  refine (unhide HL _).mono ?_
  rintro e w1 ⟨rfl, hb1⟩
  obtain ⟨q1, q2, q3, z1, hbel1⟩ := cells3 hb1
  have k1 : w1.cell? ⟨w.heap.size, 0, none⟩ = some (.bool xn) := q1 0
  have k2 : w1.cell? ⟨w.heap.size, 1, none⟩ = some (.int .i64 xe) := q1 1
  have k3 : w1.cell? ⟨w.heap.size + 1, 0, none⟩ = some (.bool (!xn)) := q2 0
  have k4 : w1.cell? ⟨w.heap.size + 1 + 1, 0, none⟩ = some (.int .u64 xs) := q3 0
  have k5 : w1.cell? ⟨w.heap.size + 1 + 1, 1, none⟩ = some (.int .u64 0) := q3 1
  have z2 : w.heap.size < w1.heap.size := by omega
  have z3 : w.heap.size + 1 < w1.heap.size := by omega
  clear hb1 q1 q2 q3 c1 c2 c3
  have HB1 := hide hbel1
  clear hbel1
  go_wp2_with fail
  refine (unhide HM _).mono ?_
  rintro e w3 ⟨rfl, hb3⟩
  have hbW := (((Below.refl w1.heap.size w1).alloc (Nat.le_refl _) (.cells #[.int .u64 th, .int .u64 tl] 67))).trans (hb3.mono (by simp only [World.size_alloc]; omega))
  have n1 : w3.cell? ⟨w.heap.size, 0, none⟩ = some (.bool xn) := (hbW.cell (p := ⟨w.heap.size, 0, none⟩) z2).trans k1
  have n2 : w3.cell? ⟨w.heap.size, 1, none⟩ = some (.int .i64 xe) := (hbW.cell (p := ⟨w.heap.size, 1, none⟩) z2).trans k2
  have z6 : w.heap.size < w3.heap.size := by have := hbW.size; omega
  have HB3 := hide ((unhide HB1).trans (hbW.mono (Nat.le_of_lt z2)))
  clear hb3 hbW HB1 k1 k2 k3 k4 k5 z1 z2 z3
  go_wp2_with fail
  all_goals subst_vars
  all_goals first | (exact absurd hne Bool.noConfusion) | (cases hne; done) | skip
  all_goals refine (unhide HN _).mono ?_
  all_goals rintro e w4 ⟨rfl, hb4⟩
  all_goals go_wp2_with fail
  all_goals go_ret
  all_goals exact ⟨rfl, bl_tr (unhide HB3) (bl_tr ((Below.refl _ _).alloc (Nat.le_refl _) _) hb4)⟩

set_option maxRecDepth 100000 in
set_option maxHeartbeats 1000000 in
theorem csum_0_D (way : Int) (xn : Bool) (xe xs ye ys th tl ph pl rh rl res : Int) (more : Bool) (ho : ye = xe) (ho2 : ys < xs) (x0 : 0 ≤ xs) (x1 : xs < 9223372036854775808)
    (e0 : -1000 ≤ xe) (e1 : xe ≤ 1000) (f0 : -1000 ≤ ye) (f1 : ye ≤ 1000)
    (hlow : ∀ w, Calls Try.prog 76 #[.int .u64 ys, .int .i64 (xe - ye)] w fun e w' => e = .returned (.tuple #[.agg #[.int .u64 th, .int .u64 tl], .bool false]) ∧ Below w.heap.size w w')
    (hminus : ∀ w, Calls Try.prog 79 #[.agg #[.int .u64 xs, .int .u64 0], .agg #[.int .u64 th, .int .u64 tl]] w fun e w' => e = .returned (.agg #[.int .u64 0, .int .u64 0]) ∧ Below w.heap.size w w')
    (w : World) :
    Calls Try.prog 69 #[.int .i64 way, .agg #[.bool (!xn), .int .i64 ye, .int .u64 ys], .agg #[.bool xn, .int .i64 xe, .int .u64 xs]] w fun e w' => e = .returned (.int .u32 (Flt.signBit (decide (way = 2)))) ∧ Below w.heap.size w w' := by
  have HL := hide hlow
  have HM := hide hminus
  clear hlow hminus
  have c1 : decide (ye < xe) = false := by simp; omega
  have c2 : (ye == xe) = true := by simp; omega
  have c3 : decide (ys < xs) = true := by simp; omega
  clear ho ho2
  have cx : (xn == !xn) = false := by cases xn <;> rfl
  go_enter Try.func69, Try.ntmps69
  go_wp2_with fail
  refine (unhide HL _).mono ?_
  rintro e w1 ⟨rfl, hb1⟩
  obtain ⟨q1, q2, q3, z1, hbel1⟩ := cells3 hb1
  have k1 : w1.cell? ⟨w.heap.size, 0, none⟩ = some (.bool xn) := q1 0
  have k2 : w1.cell? ⟨w.heap.size, 1, none⟩ = some (.int .i64 xe) := q1 1
  have k3 : w1.cell? ⟨w.heap.size + 1, 0, none⟩ = some (.bool (!xn)) := q2 0
  have k4 : w1.cell? ⟨w.heap.size + 1 + 1, 0, none⟩ = some (.int .u64 xs) := q3 0
  have k5 : w1.cell? ⟨w.heap.size + 1 + 1, 1, none⟩ = some (.int .u64 0) := q3 1
  have z2 : w.heap.size < w1.heap.size := by omega
  have z3 : w.heap.size + 1 < w1.heap.size := by omega
  clear hb1 q1 q2 q3 c1 c2 c3
  have HB1 := hide hbel1
  clear hbel1
  go_wp2_with fail
  refine (unhide HM _).mono ?_
  rintro e w3 ⟨rfl, hb3⟩
  have hbW := (((Below.refl w1.heap.size w1).alloc (Nat.le_refl _) (.cells #[.int .u64 th, .int .u64 tl] 67))).trans (hb3.mono (by simp only [World.size_alloc]; omega))
  have n1 : w3.cell? ⟨w.heap.size, 0, none⟩ = some (.bool xn) := (hbW.cell (p := ⟨w.heap.size, 0, none⟩) z2).trans k1
  have n2 : w3.cell? ⟨w.heap.size, 1, none⟩ = some (.int .i64 xe) := (hbW.cell (p := ⟨w.heap.size, 1, none⟩) z2).trans k2
  have z6 : w.heap.size < w3.heap.size := by have := hbW.size; omega
  have HB3 := hide ((unhide HB1).trans (hbW.mono (Nat.le_of_lt z2)))
  clear hb3 hbW HB1 k1 k2 k3 k4 k5 z1 z2 z3
  go_wp2_with fail
  refine (cnought_any way _).mono ?_
  rintro e w4 ⟨rfl, rfl⟩
  go_wp2_with fail
  go_ret
  exact ⟨rfl, bl_tr (unhide HB3) ((Below.refl _ _).alloc (Nat.le_refl _) _)⟩
end Go.Proofs.Ytkbniebahledmab

/-
  Package round's sums are Flt.sumV, for any two whose first bit is the word's second one.
-/
namespace Go.Proofs.Ytkbniebahledmab
open Go.RowKit
set_option linter.unusedVariables false

theorem two_words (T : Nat) : ((T / 2 ^ 64 : Nat) : Int) * 18446744073709551616 + ((T % 2 ^ 64 : Nat) : Int) = (T : Int) ∧ 0 ≤ ((T / 2 ^ 64 : Nat) : Int) ∧ 0 ≤ ((T % 2 ^ 64 : Nat) : Int) ∧ ((T % 2 ^ 64 : Nat) : Int) < 18446744073709551616 ∧ (T < 2 ^ 128 → ((T / 2 ^ 64 : Nat) : Int) < 18446744073709551616) := by
  have h1 : (2 : Nat) ^ 64 = 18446744073709551616 := by decide
  have h2 : (2 : Nat) ^ 128 = 340282366920938463463374607431768211456 := by decide
  rw [h1, h2]
  refine ⟨by omega, by omega, by omega, by omega, fun h => by omega⟩
theorem two_zero (R : Nat) (h : R ≠ 0) : ((((R / 2 ^ 64 : Nat) : Int) == 0) && (((R % 2 ^ 64 : Nat) : Int) == 0)) = false := by
  rw [Bool.and_eq_false_iff]
  have h1 : (2 : Nat) ^ 64 = 18446744073709551616 := by decide
  rw [h1]
  by_cases h2 : R / 18446744073709551616 = 0
  · right
    rw [beq_eq_false_iff_ne]; omega
  · left
    rw [beq_eq_false_iff_ne]; omega
theorem lowT_lt (S N : Nat) (h : S < 2 ^ 63) : Flt.lowT S N < 2 ^ 127 := by
  have h1 : Flt.lowT S N ≤ S * 2 ^ 64 := Nat.div_le_self _ _
  have h2 : S * 2 ^ 64 < 2 ^ 63 * 2 ^ 64 := Nat.mul_lt_mul_of_pos_right h (Nat.two_pow_pos 64)
  rw [← Nat.pow_add] at h2
  omega
theorem lowM_far (S N : Nat) (h : S < 2 ^ 63) (hm : Flt.lowM S N = true) : Flt.lowT S N < 2 ^ 63 := by
  rcases Nat.lt_or_ge N 64 with hN | hN
  · rw [(Flt.low_lo S N hN).2.2] at hm; cases hm
  · have h3 : Flt.lowT S N = S / 2 ^ (N - 64) := by
      obtain ⟨e1, e2, _⟩ := Flt.low_hi S N h hN
      have := Nat.div_add_mod (Flt.lowT S N) (2 ^ 64)
      rw [e1, e2, Nat.mul_zero, Nat.zero_add] at this
      exact this.symm
    rw [h3]
    exact Nat.lt_of_le_of_lt (Nat.div_le_self _ _) h

theorem csumW_A (way : Int) (xn yn : Bool) (xe ye : Int) (XS YS : Nat) (ho : ye < xe) (x0 : 2 ^ 62 ≤ XS) (x1 : XS < 2 ^ 63) (y0 : 2 ^ 62 ≤ YS) (y1 : YS < 2 ^ 63)
    (e0 : -1000 ≤ xe) (e1 : xe ≤ 1000) (f0 : -1000 ≤ ye) (f1 : ye ≤ 1000) (hle : Flt.lowT YS (xe - ye).toNat + Flt.upM (Flt.lowM YS (xe - ye).toNat) ≤ XS * 2 ^ 64) (w : World) :
    Calls Try.prog 69 #[.int .i64 way, .agg #[.bool xn, .int .i64 xe, .int .u64 (XS : Int)], .agg #[.bool yn, .int .i64 ye, .int .u64 (YS : Int)]] w fun e w' => e = .returned (.int .u32 (Flt.sumW way xn xe XS yn ye YS)) ∧ Below w.heap.size w w' := by
  have n62 : (2 : Nat) ^ 62 = 4611686018427387904 := by decide
  have n63 : (2 : Nat) ^ 63 = 9223372036854775808 := by decide
  have n64 : (2 : Nat) ^ 64 = 18446744073709551616 := by decide
  have n127 : (2 : Nat) ^ 127 = 170141183460469231731687303715884105728 := by decide
  have n128 : (2 : Nat) ^ 128 = 340282366920938463463374607431768211456 := by decide
  have xi0 : (0 : Int) ≤ (XS : Int) := by omega
  have xi1 : (XS : Int) < 9223372036854775808 := by omega
  have hlow : ∀ w, Calls Try.prog 76 #[.int .u64 (YS : Int), .int .i64 (xe - ye)] w fun e w' => e = .returned (.tuple #[.agg #[.int .u64 ((Flt.lowT YS (xe - ye).toNat / 2 ^ 64 : Nat) : Int), .int .u64 ((Flt.lowT YS (xe - ye).toNat % 2 ^ 64 : Nat) : Int)], .bool (Flt.lowM YS (xe - ye).toNat)]) ∧ Below w.heap.size w w' :=
    fun w => lowered_any YS (xe - ye).toNat (YS : Int) (xe - ye) _ _ _ rfl (by omega) (by omega) y1 rfl rfl rfl w
  have hT := lowT_lt YS (xe - ye).toNat y1
  have hfar := lowM_far YS (xe - ye).toNat y1
  unfold Flt.sumW
  generalize Flt.lowT YS (xe - ye).toNat = T at *
  generalize Flt.lowM YS (xe - ye).toNat = mo at *
  obtain ⟨t1, t2, t3, t4, t5⟩ := two_words T
  by_cases hs : xn = yn
  · subst hs
    rw [if_pos rfl]
    obtain ⟨s1, s2, s3, s4, s5⟩ := two_words (XS * 2 ^ 64 + T)
    have hlt : XS * 2 ^ 64 + T < 2 ^ 128 := by rw [n64, n128]; omega
    exact csum_same_A way xn xe XS ye YS _ _ _ _ 0 0 _ mo ho xi0 xi1 e0 e1 f0 f1 hlow
      (fun w => wplus_any XS 0 _ _ _ _ xi0 (by omega) t2 t3 (by omega) t4 s2 (s5 hlt) s3 s4 (by omega) w)
      (fun w => narrow_any way xn xe _ _ (XS * 2 ^ 64 + T) mo hlt e0 e1 rfl rfl w) w
  · have hy : yn = !xn := by cases xn <;> cases yn <;> simp_all
    subst hy
    rw [if_neg hs]
    cases mo
    · have hu : T + Flt.upM false = T := rfl
      rw [hu] at hle ⊢
      by_cases hz : XS * 2 ^ 64 = T
      · rw [if_pos hz]
        exact csum_0_A way xn xe XS ye YS _ _ 0 0 0 0 0 false ho xi0 xi1 e0 e1 f0 f1 hlow
          (fun w => wminus_any XS 0 _ _ 0 0 xi0 (by omega) t2 t3 (by omega) (by omega) (t5 (by rw [n128]; omega)) t4 (by omega) (by omega) (by omega) (by omega) w) w
      · rw [if_neg hz]
        obtain ⟨s1, s2, s3, s4, s5⟩ := two_words (XS * 2 ^ 64 - T)
        have hlt : XS * 2 ^ 64 - T < 2 ^ 128 := by rw [n64, n128]; omega
        exact csum_F_A way xn xe XS ye YS _ _ 0 0 _ _ _ false ho xi0 xi1 e0 e1 f0 f1 hlow
          (fun w => wminus_any XS 0 _ _ _ _ xi0 (by omega) t2 t3 (by omega) (by omega) (t5 (by rw [n128]; omega)) t4 s2 s3 s4 (by omega) w)
          (two_zero _ (by omega)) (fun w => narrow_any way xn xe _ _ (XS * 2 ^ 64 - T) false hlt e0 e1 rfl rfl w) w
    · have hu : T + Flt.upM true = T + 1 := rfl
      have h63 := hfar rfl
      rw [hu] at hle ⊢
      rw [if_neg (by rw [n64]; omega)]
      obtain ⟨r1, r2, r3, r4, r5⟩ := two_words (T + 1)
      obtain ⟨s1, s2, s3, s4, s5⟩ := two_words (XS * 2 ^ 64 - (T + 1))
      have hlt : XS * 2 ^ 64 - (T + 1) < 2 ^ 128 := by rw [n64, n128]; omega
      have hr5 := r5 (by rw [n128]; omega)
      exact csum_T_A way xn xe XS ye YS _ _ _ _ _ _ _ true ho xi0 xi1 e0 e1 f0 f1 hlow
        (fun w => wplus_any _ _ 0 1 _ _ t2 t3 (by omega) (by omega) t4 (by omega) r2 hr5 r3 r4 (by omega) w)
        (fun w => wminus_any XS 0 _ _ _ _ xi0 (by omega) r2 r3 (by omega) (by omega) hr5 r4 s2 s3 s4 (by omega) w)
        (two_zero _ (by rw [n64]; omega)) (fun w => narrow_any way xn xe _ _ (XS * 2 ^ 64 - (T + 1)) true hlt e0 e1 rfl rfl w) w

theorem csumW_B (way : Int) (xn yn : Bool) (xe ye : Int) (XS YS : Nat) (ho : xe = ye) (ho2 : YS ≤ XS) (x0 : 2 ^ 62 ≤ XS) (x1 : XS < 2 ^ 63) (y0 : 2 ^ 62 ≤ YS) (y1 : YS < 2 ^ 63)
    (e0 : -1000 ≤ xe) (e1 : xe ≤ 1000) (f0 : -1000 ≤ ye) (f1 : ye ≤ 1000) (hle : Flt.lowT YS (xe - ye).toNat + Flt.upM (Flt.lowM YS (xe - ye).toNat) ≤ XS * 2 ^ 64) (w : World) :
    Calls Try.prog 69 #[.int .i64 way, .agg #[.bool xn, .int .i64 xe, .int .u64 (XS : Int)], .agg #[.bool yn, .int .i64 ye, .int .u64 (YS : Int)]] w fun e w' => e = .returned (.int .u32 (Flt.sumW way xn xe XS yn ye YS)) ∧ Below w.heap.size w w' := by
  have n62 : (2 : Nat) ^ 62 = 4611686018427387904 := by decide
  have n63 : (2 : Nat) ^ 63 = 9223372036854775808 := by decide
  have n64 : (2 : Nat) ^ 64 = 18446744073709551616 := by decide
  have n127 : (2 : Nat) ^ 127 = 170141183460469231731687303715884105728 := by decide
  have n128 : (2 : Nat) ^ 128 = 340282366920938463463374607431768211456 := by decide
  have xi0 : (0 : Int) ≤ (XS : Int) := by omega
  have xi1 : (XS : Int) < 9223372036854775808 := by omega
  have hlow : ∀ w, Calls Try.prog 76 #[.int .u64 (YS : Int), .int .i64 (xe - ye)] w fun e w' => e = .returned (.tuple #[.agg #[.int .u64 ((Flt.lowT YS (xe - ye).toNat / 2 ^ 64 : Nat) : Int), .int .u64 ((Flt.lowT YS (xe - ye).toNat % 2 ^ 64 : Nat) : Int)], .bool (Flt.lowM YS (xe - ye).toNat)]) ∧ Below w.heap.size w w' :=
    fun w => lowered_any YS (xe - ye).toNat (YS : Int) (xe - ye) _ _ _ rfl (by omega) (by omega) y1 rfl rfl rfl w
  have hT := lowT_lt YS (xe - ye).toNat y1
  have hfar := lowM_far YS (xe - ye).toNat y1
  unfold Flt.sumW
  generalize Flt.lowT YS (xe - ye).toNat = T at *
  generalize Flt.lowM YS (xe - ye).toNat = mo at *
  obtain ⟨t1, t2, t3, t4, t5⟩ := two_words T
  by_cases hs : xn = yn
  · subst hs
    rw [if_pos rfl]
    obtain ⟨s1, s2, s3, s4, s5⟩ := two_words (XS * 2 ^ 64 + T)
    have hlt : XS * 2 ^ 64 + T < 2 ^ 128 := by rw [n64, n128]; omega
    exact csum_same_B way xn xe XS ye YS _ _ _ _ 0 0 _ mo ho (by omega) xi0 xi1 e0 e1 f0 f1 hlow
      (fun w => wplus_any XS 0 _ _ _ _ xi0 (by omega) t2 t3 (by omega) t4 s2 (s5 hlt) s3 s4 (by omega) w)
      (fun w => narrow_any way xn xe _ _ (XS * 2 ^ 64 + T) mo hlt e0 e1 rfl rfl w) w
  · have hy : yn = !xn := by cases xn <;> cases yn <;> simp_all
    subst hy
    rw [if_neg hs]
    cases mo
    · have hu : T + Flt.upM false = T := rfl
      rw [hu] at hle ⊢
      by_cases hz : XS * 2 ^ 64 = T
      · rw [if_pos hz]
        exact csum_0_B way xn xe XS ye YS _ _ 0 0 0 0 0 false ho (by omega) xi0 xi1 e0 e1 f0 f1 hlow
          (fun w => wminus_any XS 0 _ _ 0 0 xi0 (by omega) t2 t3 (by omega) (by omega) (t5 (by rw [n128]; omega)) t4 (by omega) (by omega) (by omega) (by omega) w) w
      · rw [if_neg hz]
        obtain ⟨s1, s2, s3, s4, s5⟩ := two_words (XS * 2 ^ 64 - T)
        have hlt : XS * 2 ^ 64 - T < 2 ^ 128 := by rw [n64, n128]; omega
        exact csum_F_B way xn xe XS ye YS _ _ 0 0 _ _ _ false ho (by omega) xi0 xi1 e0 e1 f0 f1 hlow
          (fun w => wminus_any XS 0 _ _ _ _ xi0 (by omega) t2 t3 (by omega) (by omega) (t5 (by rw [n128]; omega)) t4 s2 s3 s4 (by omega) w)
          (two_zero _ (by omega)) (fun w => narrow_any way xn xe _ _ (XS * 2 ^ 64 - T) false hlt e0 e1 rfl rfl w) w
    · have hu : T + Flt.upM true = T + 1 := rfl
      have h63 := hfar rfl
      rw [hu] at hle ⊢
      rw [if_neg (by rw [n64]; omega)]
      obtain ⟨r1, r2, r3, r4, r5⟩ := two_words (T + 1)
      obtain ⟨s1, s2, s3, s4, s5⟩ := two_words (XS * 2 ^ 64 - (T + 1))
      have hlt : XS * 2 ^ 64 - (T + 1) < 2 ^ 128 := by rw [n64, n128]; omega
      have hr5 := r5 (by rw [n128]; omega)
      exact csum_T_B way xn xe XS ye YS _ _ _ _ _ _ _ true ho (by omega) xi0 xi1 e0 e1 f0 f1 hlow
        (fun w => wplus_any _ _ 0 1 _ _ t2 t3 (by omega) (by omega) t4 (by omega) r2 hr5 r3 r4 (by omega) w)
        (fun w => wminus_any XS 0 _ _ _ _ xi0 (by omega) r2 r3 (by omega) (by omega) hr5 r4 s2 s3 s4 (by omega) w)
        (two_zero _ (by rw [n64]; omega)) (fun w => narrow_any way xn xe _ _ (XS * 2 ^ 64 - (T + 1)) true hlt e0 e1 rfl rfl w) w

theorem csumW_C (way : Int) (xn yn : Bool) (xe ye : Int) (XS YS : Nat) (ho : ye < xe) (x0 : 2 ^ 62 ≤ XS) (x1 : XS < 2 ^ 63) (y0 : 2 ^ 62 ≤ YS) (y1 : YS < 2 ^ 63)
    (e0 : -1000 ≤ xe) (e1 : xe ≤ 1000) (f0 : -1000 ≤ ye) (f1 : ye ≤ 1000) (hle : Flt.lowT YS (xe - ye).toNat + Flt.upM (Flt.lowM YS (xe - ye).toNat) ≤ XS * 2 ^ 64) (w : World) :
    Calls Try.prog 69 #[.int .i64 way, .agg #[.bool yn, .int .i64 ye, .int .u64 (YS : Int)], .agg #[.bool xn, .int .i64 xe, .int .u64 (XS : Int)]] w fun e w' => e = .returned (.int .u32 (Flt.sumW way xn xe XS yn ye YS)) ∧ Below w.heap.size w w' := by
  have n62 : (2 : Nat) ^ 62 = 4611686018427387904 := by decide
  have n63 : (2 : Nat) ^ 63 = 9223372036854775808 := by decide
  have n64 : (2 : Nat) ^ 64 = 18446744073709551616 := by decide
  have n127 : (2 : Nat) ^ 127 = 170141183460469231731687303715884105728 := by decide
  have n128 : (2 : Nat) ^ 128 = 340282366920938463463374607431768211456 := by decide
  have xi0 : (0 : Int) ≤ (XS : Int) := by omega
  have xi1 : (XS : Int) < 9223372036854775808 := by omega
  have hlow : ∀ w, Calls Try.prog 76 #[.int .u64 (YS : Int), .int .i64 (xe - ye)] w fun e w' => e = .returned (.tuple #[.agg #[.int .u64 ((Flt.lowT YS (xe - ye).toNat / 2 ^ 64 : Nat) : Int), .int .u64 ((Flt.lowT YS (xe - ye).toNat % 2 ^ 64 : Nat) : Int)], .bool (Flt.lowM YS (xe - ye).toNat)]) ∧ Below w.heap.size w w' :=
    fun w => lowered_any YS (xe - ye).toNat (YS : Int) (xe - ye) _ _ _ rfl (by omega) (by omega) y1 rfl rfl rfl w
  have hT := lowT_lt YS (xe - ye).toNat y1
  have hfar := lowM_far YS (xe - ye).toNat y1
  unfold Flt.sumW
  generalize Flt.lowT YS (xe - ye).toNat = T at *
  generalize Flt.lowM YS (xe - ye).toNat = mo at *
  obtain ⟨t1, t2, t3, t4, t5⟩ := two_words T
  by_cases hs : xn = yn
  · subst hs
    rw [if_pos rfl]
    obtain ⟨s1, s2, s3, s4, s5⟩ := two_words (XS * 2 ^ 64 + T)
    have hlt : XS * 2 ^ 64 + T < 2 ^ 128 := by rw [n64, n128]; omega
    exact csum_same_C way xn xe XS ye YS _ _ _ _ 0 0 _ mo ho xi0 xi1 e0 e1 f0 f1 hlow
      (fun w => wplus_any XS 0 _ _ _ _ xi0 (by omega) t2 t3 (by omega) t4 s2 (s5 hlt) s3 s4 (by omega) w)
      (fun w => narrow_any way xn xe _ _ (XS * 2 ^ 64 + T) mo hlt e0 e1 rfl rfl w) w
  · have hy : yn = !xn := by cases xn <;> cases yn <;> simp_all
    subst hy
    rw [if_neg hs]
    cases mo
    · have hu : T + Flt.upM false = T := rfl
      rw [hu] at hle ⊢
      by_cases hz : XS * 2 ^ 64 = T
      · rw [if_pos hz]
        exact csum_0_C way xn xe XS ye YS _ _ 0 0 0 0 0 false ho xi0 xi1 e0 e1 f0 f1 hlow
          (fun w => wminus_any XS 0 _ _ 0 0 xi0 (by omega) t2 t3 (by omega) (by omega) (t5 (by rw [n128]; omega)) t4 (by omega) (by omega) (by omega) (by omega) w) w
      · rw [if_neg hz]
        obtain ⟨s1, s2, s3, s4, s5⟩ := two_words (XS * 2 ^ 64 - T)
        have hlt : XS * 2 ^ 64 - T < 2 ^ 128 := by rw [n64, n128]; omega
        exact csum_F_C way xn xe XS ye YS _ _ 0 0 _ _ _ false ho xi0 xi1 e0 e1 f0 f1 hlow
          (fun w => wminus_any XS 0 _ _ _ _ xi0 (by omega) t2 t3 (by omega) (by omega) (t5 (by rw [n128]; omega)) t4 s2 s3 s4 (by omega) w)
          (two_zero _ (by omega)) (fun w => narrow_any way xn xe _ _ (XS * 2 ^ 64 - T) false hlt e0 e1 rfl rfl w) w
    · have hu : T + Flt.upM true = T + 1 := rfl
      have h63 := hfar rfl
      rw [hu] at hle ⊢
      rw [if_neg (by rw [n64]; omega)]
      obtain ⟨r1, r2, r3, r4, r5⟩ := two_words (T + 1)
      obtain ⟨s1, s2, s3, s4, s5⟩ := two_words (XS * 2 ^ 64 - (T + 1))
      have hlt : XS * 2 ^ 64 - (T + 1) < 2 ^ 128 := by rw [n64, n128]; omega
      have hr5 := r5 (by rw [n128]; omega)
      exact csum_T_C way xn xe XS ye YS _ _ _ _ _ _ _ true ho xi0 xi1 e0 e1 f0 f1 hlow
        (fun w => wplus_any _ _ 0 1 _ _ t2 t3 (by omega) (by omega) t4 (by omega) r2 hr5 r3 r4 (by omega) w)
        (fun w => wminus_any XS 0 _ _ _ _ xi0 (by omega) r2 r3 (by omega) (by omega) hr5 r4 s2 s3 s4 (by omega) w)
        (two_zero _ (by rw [n64]; omega)) (fun w => narrow_any way xn xe _ _ (XS * 2 ^ 64 - (T + 1)) true hlt e0 e1 rfl rfl w) w

theorem csumW_D (way : Int) (xn yn : Bool) (xe ye : Int) (XS YS : Nat) (ho : ye = xe) (ho2 : YS < XS) (x0 : 2 ^ 62 ≤ XS) (x1 : XS < 2 ^ 63) (y0 : 2 ^ 62 ≤ YS) (y1 : YS < 2 ^ 63)
    (e0 : -1000 ≤ xe) (e1 : xe ≤ 1000) (f0 : -1000 ≤ ye) (f1 : ye ≤ 1000) (hle : Flt.lowT YS (xe - ye).toNat + Flt.upM (Flt.lowM YS (xe - ye).toNat) ≤ XS * 2 ^ 64) (w : World) :
    Calls Try.prog 69 #[.int .i64 way, .agg #[.bool yn, .int .i64 ye, .int .u64 (YS : Int)], .agg #[.bool xn, .int .i64 xe, .int .u64 (XS : Int)]] w fun e w' => e = .returned (.int .u32 (Flt.sumW way xn xe XS yn ye YS)) ∧ Below w.heap.size w w' := by
  have n62 : (2 : Nat) ^ 62 = 4611686018427387904 := by decide
  have n63 : (2 : Nat) ^ 63 = 9223372036854775808 := by decide
  have n64 : (2 : Nat) ^ 64 = 18446744073709551616 := by decide
  have n127 : (2 : Nat) ^ 127 = 170141183460469231731687303715884105728 := by decide
  have n128 : (2 : Nat) ^ 128 = 340282366920938463463374607431768211456 := by decide
  have xi0 : (0 : Int) ≤ (XS : Int) := by omega
  have xi1 : (XS : Int) < 9223372036854775808 := by omega
  have hlow : ∀ w, Calls Try.prog 76 #[.int .u64 (YS : Int), .int .i64 (xe - ye)] w fun e w' => e = .returned (.tuple #[.agg #[.int .u64 ((Flt.lowT YS (xe - ye).toNat / 2 ^ 64 : Nat) : Int), .int .u64 ((Flt.lowT YS (xe - ye).toNat % 2 ^ 64 : Nat) : Int)], .bool (Flt.lowM YS (xe - ye).toNat)]) ∧ Below w.heap.size w w' :=
    fun w => lowered_any YS (xe - ye).toNat (YS : Int) (xe - ye) _ _ _ rfl (by omega) (by omega) y1 rfl rfl rfl w
  have hT := lowT_lt YS (xe - ye).toNat y1
  have hfar := lowM_far YS (xe - ye).toNat y1
  unfold Flt.sumW
  generalize Flt.lowT YS (xe - ye).toNat = T at *
  generalize Flt.lowM YS (xe - ye).toNat = mo at *
  obtain ⟨t1, t2, t3, t4, t5⟩ := two_words T
  by_cases hs : xn = yn
  · subst hs
    rw [if_pos rfl]
    obtain ⟨s1, s2, s3, s4, s5⟩ := two_words (XS * 2 ^ 64 + T)
    have hlt : XS * 2 ^ 64 + T < 2 ^ 128 := by rw [n64, n128]; omega
    exact csum_same_D way xn xe XS ye YS _ _ _ _ 0 0 _ mo ho (by omega) xi0 xi1 e0 e1 f0 f1 hlow
      (fun w => wplus_any XS 0 _ _ _ _ xi0 (by omega) t2 t3 (by omega) t4 s2 (s5 hlt) s3 s4 (by omega) w)
      (fun w => narrow_any way xn xe _ _ (XS * 2 ^ 64 + T) mo hlt e0 e1 rfl rfl w) w
  · have hy : yn = !xn := by cases xn <;> cases yn <;> simp_all
    subst hy
    rw [if_neg hs]
    cases mo
    · have hu : T + Flt.upM false = T := rfl
      rw [hu] at hle ⊢
      by_cases hz : XS * 2 ^ 64 = T
      · rw [if_pos hz]
        exact csum_0_D way xn xe XS ye YS _ _ 0 0 0 0 0 false ho (by omega) xi0 xi1 e0 e1 f0 f1 hlow
          (fun w => wminus_any XS 0 _ _ 0 0 xi0 (by omega) t2 t3 (by omega) (by omega) (t5 (by rw [n128]; omega)) t4 (by omega) (by omega) (by omega) (by omega) w) w
      · rw [if_neg hz]
        obtain ⟨s1, s2, s3, s4, s5⟩ := two_words (XS * 2 ^ 64 - T)
        have hlt : XS * 2 ^ 64 - T < 2 ^ 128 := by rw [n64, n128]; omega
        exact csum_F_D way xn xe XS ye YS _ _ 0 0 _ _ _ false ho (by omega) xi0 xi1 e0 e1 f0 f1 hlow
          (fun w => wminus_any XS 0 _ _ _ _ xi0 (by omega) t2 t3 (by omega) (by omega) (t5 (by rw [n128]; omega)) t4 s2 s3 s4 (by omega) w)
          (two_zero _ (by omega)) (fun w => narrow_any way xn xe _ _ (XS * 2 ^ 64 - T) false hlt e0 e1 rfl rfl w) w
    · have hu : T + Flt.upM true = T + 1 := rfl
      have h63 := hfar rfl
      rw [hu] at hle ⊢
      rw [if_neg (by rw [n64]; omega)]
      obtain ⟨r1, r2, r3, r4, r5⟩ := two_words (T + 1)
      obtain ⟨s1, s2, s3, s4, s5⟩ := two_words (XS * 2 ^ 64 - (T + 1))
      have hlt : XS * 2 ^ 64 - (T + 1) < 2 ^ 128 := by rw [n64, n128]; omega
      have hr5 := r5 (by rw [n128]; omega)
      exact csum_T_D way xn xe XS ye YS _ _ _ _ _ _ _ true ho (by omega) xi0 xi1 e0 e1 f0 f1 hlow
        (fun w => wplus_any _ _ 0 1 _ _ t2 t3 (by omega) (by omega) t4 (by omega) r2 hr5 r3 r4 (by omega) w)
        (fun w => wminus_any XS 0 _ _ _ _ xi0 (by omega) r2 r3 (by omega) (by omega) hr5 r4 s2 s3 s4 (by omega) w)
        (two_zero _ (by rw [n64]; omega)) (fun w => narrow_any way xn xe _ _ (XS * 2 ^ 64 - (T + 1)) true hlt e0 e1 rfl rfl w) w

/-- The lesser one, laid lower, is no more than the greater one. -/
theorem low_le (XS YS N : Nat) (x0 : 2 ^ 62 ≤ XS) (y1 : YS < 2 ^ 63) (h : N = 0 → YS ≤ XS) : Flt.lowT YS N + Flt.upM (Flt.lowM YS N) ≤ XS * 2 ^ 64 := by
  have n62 : (2 : Nat) ^ 62 = 4611686018427387904 := by decide
  have n63 : (2 : Nat) ^ 63 = 9223372036854775808 := by decide
  have n64 : (2 : Nat) ^ 64 = 18446744073709551616 := by decide
  cases hm : Flt.lowM YS N
  · have hu : Flt.upM false = 0 := rfl
    rw [hu, Nat.add_zero]
    unfold Flt.lowT
    rcases Nat.eq_zero_or_pos N with hN | hN
    · rw [hN, Nat.pow_zero, Nat.div_one]
      exact Nat.mul_le_mul_right _ (h hN)
    · refine Nat.div_le_of_le_mul ?_
      have h1 : 2 ^ 1 ≤ 2 ^ N := Nat.pow_le_pow_right (by decide) hN
      have h2 : 2 ^ 1 * (XS * 2 ^ 64) ≤ 2 ^ N * (XS * 2 ^ 64) := Nat.mul_le_mul_right _ h1
      rw [n64] at h2 ⊢
      omega
  · have hu : Flt.upM true = 1 := rfl
    have := lowM_far YS N y1 hm
    rw [hu, n64]
    omega

theorem csum_any (way : Int) (xn yn : Bool) (xe ye : Int) (XS YS : Nat) (x0 : 2 ^ 62 ≤ XS) (x1 : XS < 2 ^ 63) (y0 : 2 ^ 62 ≤ YS) (y1 : YS < 2 ^ 63)
    (e0 : -1000 ≤ xe) (e1 : xe ≤ 1000) (f0 : -1000 ≤ ye) (f1 : ye ≤ 1000) (w : World) :
    Calls Try.prog 69 #[.int .i64 way, .agg #[.bool xn, .int .i64 xe, .int .u64 (XS : Int)], .agg #[.bool yn, .int .i64 ye, .int .u64 (YS : Int)]] w
      fun e w' => e = .returned (.int .u32 (Flt.sumV way xn xe XS yn ye YS)) ∧ Below w.heap.size w w' := by
  unfold Flt.sumV
  by_cases h1 : xe < ye
  · rw [if_pos (.inl h1)]
    exact csumW_C way yn xn ye xe YS XS h1 y0 y1 x0 x1 f0 f1 e0 e1 (low_le YS XS _ y0 x1 (by omega)) w
  · by_cases h2 : xe = ye ∧ XS < YS
    · rw [if_pos (.inr h2)]
      exact csumW_D way yn xn ye xe YS XS h2.1 h2.2 y0 y1 x0 x1 f0 f1 e0 e1 (low_le YS XS _ y0 x1 (by omega)) w
    · rw [if_neg (by omega)]
      by_cases h3 : xe = ye
      · exact csumW_B way xn yn xe ye XS YS h3 (by omega) x0 x1 y0 y1 e0 e1 f0 f1 (low_le XS YS _ x0 y1 (by omega)) w
      · exact csumW_A way xn yn xe ye XS YS (by omega) x0 x1 y0 y1 e0 e1 f0 f1 (low_le XS YS _ x0 y1 (by omega)) w
end Go.Proofs.Ytkbniebahledmab
