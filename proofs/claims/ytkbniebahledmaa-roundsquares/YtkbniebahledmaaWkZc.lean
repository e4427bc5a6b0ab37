/-
  Walks of package round's sums: two whose first bits stand alike, in either order, of like or unlike signs.
-/
import Derived.Test.YtkbniebahledmaaWkZb
import Derived.Test.YtkbniebahledmaaQbA
namespace Go.Proofs.Ytkbniebahledmaa
open Go.RowKit
set_option linter.unusedVariables false

theorem cells3 {w w1 : World} {o1 o2 o3 : Array Value} {t1 t2 t3 : TypeId}
    (hb : Below (((w.alloc (.cells o1 t1)).alloc (.cells o2 t2)).alloc (.cells o3 t3)).heap.size (((w.alloc (.cells o1 t1)).alloc (.cells o2 t2)).alloc (.cells o3 t3)) w1) :
    (∀ i, w1.cell? ⟨w.heap.size, i, none⟩ = o1[i]?) ∧ (∀ i, w1.cell? ⟨w.heap.size + 1, i, none⟩ = o2[i]?) ∧ (∀ i, w1.cell? ⟨w.heap.size + 1 + 1, i, none⟩ = o3[i]?) ∧ w.heap.size + 1 + 1 < w1.heap.size ∧ Below w.heap.size w w1 := by
  have hs := hb.size
  simp only [World.size_alloc] at hs
  refine ⟨fun i => ?_, fun i => ?_, fun i => ?_, by omega, ?_⟩
  · rw [hb.cell (p := ⟨w.heap.size, i, none⟩) (by simp only [World.size_alloc]; omega), World.cell?_alloc_past _ _ _ (by simp only [World.size_alloc]; omega), World.cell?_alloc_past _ _ _ (by simp only [World.size_alloc]; omega), World.cell?_alloc_at _ _ _ _ rfl]
  · rw [hb.cell (p := ⟨w.heap.size + 1, i, none⟩) (by simp only [World.size_alloc]; omega), World.cell?_alloc_past _ _ _ (by simp only [World.size_alloc]; omega), World.cell?_alloc_at _ _ _ _ (by simp only [World.size_alloc])]
  · rw [hb.cell (p := ⟨w.heap.size + 1 + 1, i, none⟩) (by simp only [World.size_alloc]; omega), World.cell?_alloc_at _ _ _ _ (by simp only [World.size_alloc])]
  · exact ((((Below.refl _ _).alloc (Nat.le_refl _) _).alloc (by simp) _).alloc (by simp; omega) _).trans (hb.mono (by simp only [World.size_alloc]; omega))

set_option maxRecDepth 100000 in
set_option maxHeartbeats 1000000 in
theorem csum_same_A (way : Int) (xn : Bool) (xe xs ye ys th tl ph pl rh rl res : Int) (more : Bool) (ho : ye < xe) (x0 : 0 ≤ xs) (x1 : xs < 9223372036854775808)
    (e0 : -1000 ≤ xe) (e1 : xe ≤ 1000) (f0 : -1000 ≤ ye) (f1 : ye ≤ 1000)
    (hlow : ∀ w, Calls Try.prog 59 #[.int .u64 ys, .int .i64 (xe - ye)] w fun e w' => e = .returned (.tuple #[.agg #[.int .u64 th, .int .u64 tl], .bool more]) ∧ Below w.heap.size w w')
    (hplus : ∀ w, Calls Try.prog 61 #[.agg #[.int .u64 xs, .int .u64 0], .agg #[.int .u64 th, .int .u64 tl]] w fun e w' => e = .returned (.agg #[.int .u64 ph, .int .u64 pl]) ∧ Below w.heap.size w w')
    (hnar : ∀ w, Calls Try.prog 60 #[.int .i64 way, .bool xn, .int .i64 xe, .agg #[.int .u64 ph, .int .u64 pl], .bool more] w fun e w' => e = .returned (.int .u32 res) ∧ Below w.heap.size w w')
    (w : World) :
    Calls Try.prog 40 #[.int .i64 way, .agg #[.bool xn, .int .i64 xe, .int .u64 xs], .agg #[.bool xn, .int .i64 ye, .int .u64 ys]] w fun e w' => e = .returned (.int .u32 res) ∧ Below w.heap.size w w' := by
  have HL := hide hlow
  have HP := hide hplus
  have HN := hide hnar
  clear hlow hplus hnar
  have c1 : decide (xe < ye) = false := by simp; omega
  have c2 : (xe == ye) = false := by simp; omega
  clear ho
  go_enter Try.func40, Try.ntmps40
  go_wp2_with fail
  refine (unhide HL _).mono ?_
  rintro e w1 ⟨rfl, hb1⟩
  obtain ⟨q1, q2, q3, z1, hbel1⟩ := cells3 hb1
  have k1 : w1.cell? ⟨w.heap.size, 0, none⟩ = some (.bool xn) := q1 0
  have k2 : w1.cell? ⟨w.heap.size, 1, none⟩ = some (.int .i64 xe) := q1 1
  have k3 : w1.cell? ⟨w.heap.size + 1, 0, none⟩ = some (.bool xn) := q2 0
  have k4 : w1.cell? ⟨w.heap.size + 1 + 1, 0, none⟩ = some (.int .u64 xs) := q3 0
  have k5 : w1.cell? ⟨w.heap.size + 1 + 1, 1, none⟩ = some (.int .u64 0) := q3 1
  have z2 : w.heap.size < w1.heap.size := by omega
  have z3 : w.heap.size + 1 < w1.heap.size := by omega
  clear hb1 q1 q2 q3 c1 c2
  have HB1 := hide hbel1
  clear hbel1
  go_wp2_with fail
  refine wp_region_below (by kernel_rfl) (by kernel_rfl) ?_
  intro T f hne hfb hfc
  have z4 : (w1.alloc (.cells #[.int .u64 th, .int .u64 tl] 70)).heap.size = w1.heap.size + 1 := by simp only [World.size_alloc]
  have c1 : ∀ x, (f x).cell? ⟨w.heap.size, 0, none⟩ = some (.bool xn) := qcell hfb (by rw [z4]; omega) ((World.cell?_alloc_past _ _ _ z2).trans k1)
  have c2 : ∀ x, (f x).cell? ⟨w.heap.size, 1, none⟩ = some (.int .i64 xe) := qcell hfb (by rw [z4]; omega) ((World.cell?_alloc_past _ _ _ z2).trans k2)
  have c3 : ∀ x, (f x).cell? ⟨w.heap.size + 1 + 1, 0, none⟩ = some (.int .u64 xs) := qcell hfb (by rw [z4]; omega) ((World.cell?_alloc_past _ _ _ z1).trans k4)
  have c4 : ∀ x, (f x).cell? ⟨w.heap.size + 1 + 1, 1, none⟩ = some (.int .u64 0) := qcell hfb (by rw [z4]; omega) ((World.cell?_alloc_past _ _ _ z1).trans k5)
  have c5 : ∀ x, (f x).cell? ⟨w1.heap.size, 0, none⟩ = some (.int .u64 th) := qcell hfb (by rw [z4]; omega) (World.cell?_alloc_at _ _ _ _ rfl)
  have c6 : ∀ x, (f x).cell? ⟨w1.heap.size, 1, none⟩ = some (.int .u64 tl) := qcell hfb (by rw [z4]; omega) (World.cell?_alloc_at _ _ _ _ rfl)
  have HF := hide (fun x => (unhide HB1).trans (((Below.refl w.heap.size w1).alloc (by omega) _).trans ((hfb x).mono (by rw [z4]; omega))))
  have HFB := hide hfb
  have HFC := hide hfc
  clear hfb hfc z4 k1 k2 k3 k4 k5
  repeat (go_big_quiet_step (first | (go_at_call 61; exact calls_qb (unhide HFB) (unhide HFC) (unhide HP _)) | (go_at_call 60; exact calls_qb (unhide HFB) (unhide HFC) (unhide HN _))))
  refine wpQuiet_nil ?_
  intro x
  go_wp2_with fail
  go_ret
  exact ⟨rfl, unhide HF x⟩

set_option maxRecDepth 100000 in
set_option maxHeartbeats 1000000 in
theorem csum_T_A (way : Int) (xn : Bool) (xe xs ye ys th tl ph pl rh rl res : Int) (more : Bool) (ho : ye < xe) (x0 : 0 ≤ xs) (x1 : xs < 9223372036854775808)
    (e0 : -1000 ≤ xe) (e1 : xe ≤ 1000) (f0 : -1000 ≤ ye) (f1 : ye ≤ 1000)
    (hlow : ∀ w, Calls Try.prog 59 #[.int .u64 ys, .int .i64 (xe - ye)] w fun e w' => e = .returned (.tuple #[.agg #[.int .u64 th, .int .u64 tl], .bool true]) ∧ Below w.heap.size w w')
    (hplus : ∀ w, Calls Try.prog 61 #[.agg #[.int .u64 th, .int .u64 tl], .agg #[.int .u64 0, .int .u64 1]] w fun e w' => e = .returned (.agg #[.int .u64 ph, .int .u64 pl]) ∧ Below w.heap.size w w')
    (hminus : ∀ w, Calls Try.prog 62 #[.agg #[.int .u64 xs, .int .u64 0], .agg #[.int .u64 ph, .int .u64 pl]] w fun e w' => e = .returned (.agg #[.int .u64 rh, .int .u64 rl]) ∧ Below w.heap.size w w')
    (hne : ((rh == 0) && (rl == 0)) = false)
    (hnar : ∀ w, Calls Try.prog 60 #[.int .i64 way, .bool xn, .int .i64 xe, .agg #[.int .u64 rh, .int .u64 rl], .bool true] w fun e w' => e = .returned (.int .u32 res) ∧ Below w.heap.size w w')
    (w : World) :
    Calls Try.prog 40 #[.int .i64 way, .agg #[.bool xn, .int .i64 xe, .int .u64 xs], .agg #[.bool (!xn), .int .i64 ye, .int .u64 ys]] w fun e w' => e = .returned (.int .u32 res) ∧ Below w.heap.size w w' := by
  have HL := hide hlow
  have HP := hide hplus
  have HM := hide hminus
  have HN := hide hnar
  clear hlow hplus hminus hnar
  have c1 : decide (xe < ye) = false := by simp; omega
  have c2 : (xe == ye) = false := by simp; omega
  clear ho
  have cx : (xn == !xn) = false := by cases xn <;> rfl
  go_enter Try.func40, Try.ntmps40
  go_wp2_with fail
  refine (unhide HL _).mono ?_
  rintro e w1 ⟨rfl, hb1⟩
  obtain ⟨q1, q2, q3, z1, hbel1⟩ := cells3 hb1
  have k1 : w1.cell? ⟨w.heap.size, 0, none⟩ = some (.bool xn) := q1 0
  have k2 : w1.cell? ⟨w.heap.size, 1, none⟩ = some (.int .i64 xe) := q1 1
  have k3 : w1.cell? ⟨w.heap.size + 1, 0, none⟩ = some (.bool (!xn)) := q2 0
  have k4 : w1.cell? ⟨w.heap.size + 1 + 1, 0, none⟩ = some (.int .u64 xs) := q3 0
  have k5 : w1.cell? ⟨w.heap.size + 1 + 1, 1, none⟩ = some (.int .u64 0) := q3 1
  have z2 : w.heap.size < w1.heap.size := by omega
  have z3 : w.heap.size + 1 < w1.heap.size := by omega
  clear hb1 q1 q2 q3 c1 c2
  have HB1 := hide hbel1
  clear hbel1
  go_wp2_with fail
  refine (unhide HP _).mono ?_
  rintro e w2 ⟨rfl, hb2⟩
  have z4 : (w1.alloc (.cells #[.int .u64 th, .int .u64 tl] 70)).heap.size = w1.heap.size + 1 := by simp only [World.size_alloc]
  have m1 : w2.cell? ⟨w.heap.size, 0, none⟩ = some (.bool xn) := (hb2.cell (p := ⟨w.heap.size, 0, none⟩) (by rw [z4]; exact Nat.lt_succ_of_lt z2)).trans ((World.cell?_alloc_past _ _ _ z2).trans k1)
  have m2 : w2.cell? ⟨w.heap.size, 1, none⟩ = some (.int .i64 xe) := (hb2.cell (p := ⟨w.heap.size, 1, none⟩) (by rw [z4]; exact Nat.lt_succ_of_lt z2)).trans ((World.cell?_alloc_past _ _ _ z2).trans k2)
  have m4 : w2.cell? ⟨w.heap.size + 1 + 1, 0, none⟩ = some (.int .u64 xs) := (hb2.cell (p := ⟨w.heap.size + 1 + 1, 0, none⟩) (by rw [z4]; exact Nat.lt_succ_of_lt z1)).trans ((World.cell?_alloc_past _ _ _ z1).trans k4)
  have m5 : w2.cell? ⟨w.heap.size + 1 + 1, 1, none⟩ = some (.int .u64 0) := (hb2.cell (p := ⟨w.heap.size + 1 + 1, 1, none⟩) (by rw [z4]; exact Nat.lt_succ_of_lt z1)).trans ((World.cell?_alloc_past _ _ _ z1).trans k5)
  have m6 : w2.cell? ⟨w1.heap.size, 0, none⟩ = some (.int .u64 th) := (hb2.cell (p := ⟨w1.heap.size, 0, none⟩) (by rw [z4]; exact Nat.lt_succ_self _)).trans (World.cell?_alloc_at _ _ _ _ rfl)
  have m7 : w2.cell? ⟨w1.heap.size, 1, none⟩ = some (.int .u64 tl) := (hb2.cell (p := ⟨w1.heap.size, 1, none⟩) (by rw [z4]; exact Nat.lt_succ_self _)).trans (World.cell?_alloc_at _ _ _ _ rfl)
  have f6 : w2.frozen? ⟨w1.heap.size, 0, none⟩ = false := (hb2.frozen (p := ⟨w1.heap.size, 0, none⟩) (by rw [z4]; exact Nat.lt_succ_self _)).trans (by go_simp)
  have f7 : w2.frozen? ⟨w1.heap.size, 1, none⟩ = false := (hb2.frozen (p := ⟨w1.heap.size, 1, none⟩) (by rw [z4]; exact Nat.lt_succ_self _)).trans (by go_simp)
  have z5 : w1.heap.size < w2.heap.size := by have := hb2.size; rw [z4] at this; omega
  have HB2 := hide (bl_tr (unhide HB1) (bl_tr ((Below.refl _ _).alloc (Nat.le_refl _) _) hb2))
  clear hb2 HB1 z4 k1 k2 k3 k4 k5
  go_wp2_with fail
  refine (unhide HM _).mono ?_
  rintro e w3 ⟨rfl, hb3⟩
  have hbW := (((Below.refl w1.heap.size w2).setCell (p := ⟨w1.heap.size, 0, none⟩) (Nat.le_refl _) (.int .u64 ph)).setCell (p := ⟨w1.heap.size, 1, none⟩) (Nat.le_refl _) (.int .u64 pl)).trans (hb3.mono (by simp only [World.size_setCell]; omega))
  have n1 : w3.cell? ⟨w.heap.size, 0, none⟩ = some (.bool xn) := (hbW.cell (p := ⟨w.heap.size, 0, none⟩) z2).trans m1
  have n2 : w3.cell? ⟨w.heap.size, 1, none⟩ = some (.int .i64 xe) := (hbW.cell (p := ⟨w.heap.size, 1, none⟩) z2).trans m2
  have z6 : w.heap.size < w3.heap.size := by have := hbW.size; omega
  have HB3 := hide ((unhide HB2).trans (hbW.mono (Nat.le_of_lt z2)))
  clear hb3 hbW HB2 m1 m2 m4 m5 m6 m7 f6 f7 z5 z1 z2 z3
  go_wp2_with fail
  all_goals subst_vars
  all_goals first | (exact absurd hne Bool.noConfusion) | (cases hne; done) | skip
  all_goals refine (unhide HN _).mono ?_
  all_goals rintro e w4 ⟨rfl, hb4⟩
  all_goals go_wp2_with fail
  all_goals go_ret
  all_goals exact ⟨rfl, bl_tr (unhide HB3) (bl_tr ((Below.refl _ _).alloc (Nat.le_refl _) _) hb4)⟩

set_option maxRecDepth 100000 in
set_option maxHeartbeats 1000000 in
theorem csum_F_A (way : Int) (xn : Bool) (xe xs ye ys th tl ph pl rh rl res : Int) (more : Bool) (ho : ye < xe) (x0 : 0 ≤ xs) (x1 : xs < 9223372036854775808)
    (e0 : -1000 ≤ xe) (e1 : xe ≤ 1000) (f0 : -1000 ≤ ye) (f1 : ye ≤ 1000)
    (hlow : ∀ w, Calls Try.prog 59 #[.int .u64 ys, .int .i64 (xe - ye)] w fun e w' => e = .returned (.tuple #[.agg #[.int .u64 th, .int .u64 tl], .bool false]) ∧ Below w.heap.size w w')
    (hminus : ∀ w, Calls Try.prog 62 #[.agg #[.int .u64 xs, .int .u64 0], .agg #[.int .u64 th, .int .u64 tl]] w fun e w' => e = .returned (.agg #[.int .u64 rh, .int .u64 rl]) ∧ Below w.heap.size w w')
    (hne : ((rh == 0) && (rl == 0)) = false)
    (hnar : ∀ w, Calls Try.prog 60 #[.int .i64 way, .bool xn, .int .i64 xe, .agg #[.int .u64 rh, .int .u64 rl], .bool false] w fun e w' => e = .returned (.int .u32 res) ∧ Below w.heap.size w w')
    (w : World) :
    Calls Try.prog 40 #[.int .i64 way, .agg #[.bool xn, .int .i64 xe, .int .u64 xs], .agg #[.bool (!xn), .int .i64 ye, .int .u64 ys]] w fun e w' => e = .returned (.int .u32 res) ∧ Below w.heap.size w w' := by
  have HL := hide hlow
  have HM := hide hminus
  have HN := hide hnar
  clear hlow hminus hnar
  have c1 : decide (xe < ye) = false := by simp; omega
  have c2 : (xe == ye) = false := by simp; omega
  clear ho
  have cx : (xn == !xn) = false := by cases xn <;> rfl
  go_enter Try.func40, Try.ntmps40
  go_wp2_with fail
  refine (unhide HL _).mono ?_
  rintro e w1 ⟨rfl, hb1⟩
  obtain ⟨q1, q2, q3, z1, hbel1⟩ := cells3 hb1
  have k1 : w1.cell? ⟨w.heap.size, 0, none⟩ = some (.bool xn) := q1 0
  have k2 : w1.cell? ⟨w.heap.size, 1, none⟩ = some (.int .i64 xe) := q1 1
  have k3 : w1.cell? ⟨w.heap.size + 1, 0, none⟩ = some (.bool (!xn)) := q2 0
  have k4 : w1.cell? ⟨w.heap.size + 1 + 1, 0, none⟩ = some (.int .u64 xs) := q3 0
  have k5 : w1.cell? ⟨w.heap.size + 1 + 1, 1, none⟩ = some (.int .u64 0) := q3 1
  have z2 : w.heap.size < w1.heap.size := by omega
  have z3 : w.heap.size + 1 < w1.heap.size := by omega
  clear hb1 q1 q2 q3 c1 c2
  have HB1 := hide hbel1
  clear hbel1
  go_wp2_with fail
  refine (unhide HM _).mono ?_
  rintro e w3 ⟨rfl, hb3⟩
  have hbW := (((Below.refl w1.heap.size w1).alloc (Nat.le_refl _) (.cells #[.int .u64 th, .int .u64 tl] 70))).trans (hb3.mono (by simp only [World.size_alloc]; omega))
  have n1 : w3.cell? ⟨w.heap.size, 0, none⟩ = some (.bool xn) := (hbW.cell (p := ⟨w.heap.size, 0, none⟩) z2).trans k1
  have n2 : w3.cell? ⟨w.heap.size, 1, none⟩ = some (.int .i64 xe) := (hbW.cell (p := ⟨w.heap.size, 1, none⟩) z2).trans k2
  have z6 : w.heap.size < w3.heap.size := by have := hbW.size; omega
  have HB3 := hide ((unhide HB1).trans (hbW.mono (Nat.le_of_lt z2)))
  clear hb3 hbW HB1 k1 k2 k3 k4 k5 z1 z2 z3
  go_wp2_with fail
  all_goals subst_vars
  all_goals first | (exact absurd hne Bool.noConfusion) | (cases hne; done) | skip
  all_goals refine (unhide HN _).mono ?_
  all_goals rintro e w4 ⟨rfl, hb4⟩
  all_goals go_wp2_with fail
  all_goals go_ret
  all_goals exact ⟨rfl, bl_tr (unhide HB3) (bl_tr ((Below.refl _ _).alloc (Nat.le_refl _) _) hb4)⟩

set_option maxRecDepth 100000 in
set_option maxHeartbeats 1000000 in
theorem csum_0_A (way : Int) (xn : Bool) (xe xs ye ys th tl ph pl rh rl res : Int) (more : Bool) (ho : ye < xe) (x0 : 0 ≤ xs) (x1 : xs < 9223372036854775808)
    (e0 : -1000 ≤ xe) (e1 : xe ≤ 1000) (f0 : -1000 ≤ ye) (f1 : ye ≤ 1000)
    (hlow : ∀ w, Calls Try.prog 59 #[.int .u64 ys, .int .i64 (xe - ye)] w fun e w' => e = .returned (.tuple #[.agg #[.int .u64 th, .int .u64 tl], .bool false]) ∧ Below w.heap.size w w')
    (hminus : ∀ w, Calls Try.prog 62 #[.agg #[.int .u64 xs, .int .u64 0], .agg #[.int .u64 th, .int .u64 tl]] w fun e w' => e = .returned (.agg #[.int .u64 0, .int .u64 0]) ∧ Below w.heap.size w w')
    (w : World) :
    Calls Try.prog 40 #[.int .i64 way, .agg #[.bool xn, .int .i64 xe, .int .u64 xs], .agg #[.bool (!xn), .int .i64 ye, .int .u64 ys]] w fun e w' => e = .returned (.int .u32 (Flt.signBit (decide (way = 2)))) ∧ Below w.heap.size w w' := by
  have HL := hide hlow
  have HM := hide hminus
  clear hlow hminus
  have c1 : decide (xe < ye) = false := by simp; omega
  have c2 : (xe == ye) = false := by simp; omega
  clear ho
  have cx : (xn == !xn) = false := by cases xn <;> rfl
  go_enter Try.func40, Try.ntmps40
  go_wp2_with fail
  refine (unhide HL _).mono ?_
  rintro e w1 ⟨rfl, hb1⟩
  obtain ⟨q1, q2, q3, z1, hbel1⟩ := cells3 hb1
  have k1 : w1.cell? ⟨w.heap.size, 0, none⟩ = some (.bool xn) := q1 0
  have k2 : w1.cell? ⟨w.heap.size, 1, none⟩ = some (.int .i64 xe) := q1 1
  have k3 : w1.cell? ⟨w.heap.size + 1, 0, none⟩ = some (.bool (!xn)) := q2 0
  have k4 : w1.cell? ⟨w.heap.size + 1 + 1, 0, none⟩ = some (.int .u64 xs) := q3 0
  have k5 : w1.cell? ⟨w.heap.size + 1 + 1, 1, none⟩ = some (.int .u64 0) := q3 1
  have z2 : w.heap.size < w1.heap.size := by omega
  have z3 : w.heap.size + 1 < w1.heap.size := by omega
  clear hb1 q1 q2 q3 c1 c2
  have HB1 := hide hbel1
  clear hbel1
  go_wp2_with fail
  refine (unhide HM _).mono ?_
  rintro e w3 ⟨rfl, hb3⟩
  have hbW := (((Below.refl w1.heap.size w1).alloc (Nat.le_refl _) (.cells #[.int .u64 th, .int .u64 tl] 70))).trans (hb3.mono (by simp only [World.size_alloc]; omega))
  have n1 : w3.cell? ⟨w.heap.size, 0, none⟩ = some (.bool xn) := (hbW.cell (p := ⟨w.heap.size, 0, none⟩) z2).trans k1
  have n2 : w3.cell? ⟨w.heap.size, 1, none⟩ = some (.int .i64 xe) := (hbW.cell (p := ⟨w.heap.size, 1, none⟩) z2).trans k2
  have z6 : w.heap.size < w3.heap.size := by have := hbW.size; omega
  have HB3 := hide ((unhide HB1).trans (hbW.mono (Nat.le_of_lt z2)))
  clear hb3 hbW HB1 k1 k2 k3 k4 k5 z1 z2 z3
  go_wp2_with fail
  refine (cnought_any way _).mono ?_
  rintro e w4 ⟨rfl, rfl⟩
  go_wp2_with fail
  go_ret
  exact ⟨rfl, bl_tr (unhide HB3) ((Below.refl _ _).alloc (Nat.le_refl _) _)⟩

set_option maxRecDepth 100000 in
set_option maxHeartbeats 1000000 in
theorem csum_same_B (way : Int) (xn : Bool) (xe xs ye ys th tl ph pl rh rl res : Int) (more : Bool) (ho : xe = ye) (ho2 : ys ≤ xs) (x0 : 0 ≤ xs) (x1 : xs < 9223372036854775808)
    (e0 : -1000 ≤ xe) (e1 : xe ≤ 1000) (f0 : -1000 ≤ ye) (f1 : ye ≤ 1000)
    (hlow : ∀ w, Calls Try.prog 59 #[.int .u64 ys, .int .i64 (xe - ye)] w fun e w' => e = .returned (.tuple #[.agg #[.int .u64 th, .int .u64 tl], .bool more]) ∧ Below w.heap.size w w')
    (hplus : ∀ w, Calls Try.prog 61 #[.agg #[.int .u64 xs, .int .u64 0], .agg #[.int .u64 th, .int .u64 tl]] w fun e w' => e = .returned (.agg #[.int .u64 ph, .int .u64 pl]) ∧ Below w.heap.size w w')
    (hnar : ∀ w, Calls Try.prog 60 #[.int .i64 way, .bool xn, .int .i64 xe, .agg #[.int .u64 ph, .int .u64 pl], .bool more] w fun e w' => e = .returned (.int .u32 res) ∧ Below w.heap.size w w')
    (w : World) :
    Calls Try.prog 40 #[.int .i64 way, .agg #[.bool xn, .int .i64 xe, .int .u64 xs], .agg #[.bool xn, .int .i64 ye, .int .u64 ys]] w fun e w' => e = .returned (.int .u32 res) ∧ Below w.heap.size w w' := by
  have HL := hide hlow
  have HP := hide hplus
  have HN := hide hnar
  clear hlow hplus hnar
  have c1 : decide (xe < ye) = false := by simp; omega
  have c2 : (xe == ye) = true := by simp; omega
  have c3 : decide (xs < ys) = false := by simp; omega
  clear ho ho2
  go_enter Try.func40, Try.ntmps40
  go_wp2_with fail
  refine (unhide HL _).mono ?_
  rintro e w1 ⟨rfl, hb1⟩
  obtain ⟨q1, q2, q3, z1, hbel1⟩ := cells3 hb1
  have k1 : w1.cell? ⟨w.heap.size, 0, none⟩ = some (.bool xn) := q1 0
  have k2 : w1.cell? ⟨w.heap.size, 1, none⟩ = some (.int .i64 xe) := q1 1
  have k3 : w1.cell? ⟨w.heap.size + 1, 0, none⟩ = some (.bool xn) := q2 0
  have k4 : w1.cell? ⟨w.heap.size + 1 + 1, 0, none⟩ = some (.int .u64 xs) := q3 0
  have k5 : w1.cell? ⟨w.heap.size + 1 + 1, 1, none⟩ = some (.int .u64 0) := q3 1
  have z2 : w.heap.size < w1.heap.size := by omega
  have z3 : w.heap.size + 1 < w1.heap.size := by omega
  clear hb1 q1 q2 q3 c1 c2 c3
  have HB1 := hide hbel1
  clear hbel1
  go_wp2_with fail
  refine wp_region_below (by kernel_rfl) (by kernel_rfl) ?_
  intro T f hne hfb hfc
  have z4 : (w1.alloc (.cells #[.int .u64 th, .int .u64 tl] 70)).heap.size = w1.heap.size + 1 := by simp only [World.size_alloc]
  have c1 : ∀ x, (f x).cell? ⟨w.heap.size, 0, none⟩ = some (.bool xn) := qcell hfb (by rw [z4]; omega) ((World.cell?_alloc_past _ _ _ z2).trans k1)
  have c2 : ∀ x, (f x).cell? ⟨w.heap.size, 1, none⟩ = some (.int .i64 xe) := qcell hfb (by rw [z4]; omega) ((World.cell?_alloc_past _ _ _ z2).trans k2)
  have c3 : ∀ x, (f x).cell? ⟨w.heap.size + 1 + 1, 0, none⟩ = some (.int .u64 xs) := qcell hfb (by rw [z4]; omega) ((World.cell?_alloc_past _ _ _ z1).trans k4)
  have c4 : ∀ x, (f x).cell? ⟨w.heap.size + 1 + 1, 1, none⟩ = some (.int .u64 0) := qcell hfb (by rw [z4]; omega) ((World.cell?_alloc_past _ _ _ z1).trans k5)
  have c5 : ∀ x, (f x).cell? ⟨w1.heap.size, 0, none⟩ = some (.int .u64 th) := qcell hfb (by rw [z4]; omega) (World.cell?_alloc_at _ _ _ _ rfl)
  have c6 : ∀ x, (f x).cell? ⟨w1.heap.size, 1, none⟩ = some (.int .u64 tl) := qcell hfb (by rw [z4]; omega) (World.cell?_alloc_at _ _ _ _ rfl)
  have HF := hide (fun x => (unhide HB1).trans (((Below.refl w.heap.size w1).alloc (by omega) _).trans ((hfb x).mono (by rw [z4]; omega))))
  have HFB := hide hfb
  have HFC := hide hfc
  clear hfb hfc z4 k1 k2 k3 k4 k5
  repeat (go_big_quiet_step (first | (go_at_call 61; exact calls_qb (unhide HFB) (unhide HFC) (unhide HP _)) | (go_at_call 60; exact calls_qb (unhide HFB) (unhide HFC) (unhide HN _))))
  refine wpQuiet_nil ?_
  intro x
  go_wp2_with fail
  go_ret
  exact ⟨rfl, unhide HF x⟩

set_option maxRecDepth 100000 in
set_option maxHeartbeats 1000000 in
theorem csum_T_B (way : Int) (xn : Bool) (xe xs ye ys th tl ph pl rh rl res : Int) (more : Bool) (ho : xe = ye) (ho2 : ys ≤ xs) (x0 : 0 ≤ xs) (x1 : xs < 9223372036854775808)
    (e0 : -1000 ≤ xe) (e1 : xe ≤ 1000) (f0 : -1000 ≤ ye) (f1 : ye ≤ 1000)
    (hlow : ∀ w, Calls Try.prog 59 #[.int .u64 ys, .int .i64 (xe - ye)] w fun e w' => e = .returned (.tuple #[.agg #[.int .u64 th, .int .u64 tl], .bool true]) ∧ Below w.heap.size w w')
    (hplus : ∀ w, Calls Try.prog 61 #[.agg #[.int .u64 th, .int .u64 tl], .agg #[.int .u64 0, .int .u64 1]] w fun e w' => e = .returned (.agg #[.int .u64 ph, .int .u64 pl]) ∧ Below w.heap.size w w')
    (hminus : ∀ w, Calls Try.prog 62 #[.agg #[.int .u64 xs, .int .u64 0], .agg #[.int .u64 ph, .int .u64 pl]] w fun e w' => e = .returned (.agg #[.int .u64 rh, .int .u64 rl]) ∧ Below w.heap.size w w')
    (hne : ((rh == 0) && (rl == 0)) = false)
    (hnar : ∀ w, Calls Try.prog 60 #[.int .i64 way, .bool xn, .int .i64 xe, .agg #[.int .u64 rh, .int .u64 rl], .bool true] w fun e w' => e = .returned (.int .u32 res) ∧ Below w.heap.size w w')
    (w : World) :
    Calls Try.prog 40 #[.int .i64 way, .agg #[.bool xn, .int .i64 xe, .int .u64 xs], .agg #[.bool (!xn), .int .i64 ye, .int .u64 ys]] w fun e w' => e = .returned (.int .u32 res) ∧ Below w.heap.size w w' := by
  have HL := hide hlow
  have HP := hide hplus
  have HM := hide hminus
  have HN := hide hnar
  clear hlow hplus hminus hnar
  have c1 : decide (xe < ye) = false := by simp; omega
  have c2 : (xe == ye) = true := by simp; omega
  have c3 : decide (xs < ys) = false := by simp; omega
  clear ho ho2
  have cx : (xn == !xn) = false := by cases xn <;> rfl
  go_enter Try.func40, Try.ntmps40
  go_wp2_with fail
  refine (unhide HL _).mono ?_
  rintro e w1 ⟨rfl, hb1⟩
  obtain ⟨q1, q2, q3, z1, hbel1⟩ := cells3 hb1
  have k1 : w1.cell? ⟨w.heap.size, 0, none⟩ = some (.bool xn) := q1 0
  have k2 : w1.cell? ⟨w.heap.size, 1, none⟩ = some (.int .i64 xe) := q1 1
  have k3 : w1.cell? ⟨w.heap.size + 1, 0, none⟩ = some (.bool (!xn)) := q2 0
  have k4 : w1.cell? ⟨w.heap.size + 1 + 1, 0, none⟩ = some (.int .u64 xs) := q3 0
  have k5 : w1.cell? ⟨w.heap.size + 1 + 1, 1, none⟩ = some (.int .u64 0) := q3 1
  have z2 : w.heap.size < w1.heap.size := by omega
  have z3 : w.heap.size + 1 < w1.heap.size := by omega
  clear hb1 q1 q2 q3 c1 c2 c3
  have HB1 := hide hbel1
  clear hbel1
  go_wp2_with fail
  refine (unhide HP _).mono ?_
  rintro e w2 ⟨rfl, hb2⟩
  have z4 : (w1.alloc (.cells #[.int .u64 th, .int .u64 tl] 70)).heap.size = w1.heap.size + 1 := by simp only [World.size_alloc]
  have m1 : w2.cell? ⟨w.heap.size, 0, none⟩ = some (.bool xn) := (hb2.cell (p := ⟨w.heap.size, 0, none⟩) (by rw [z4]; exact Nat.lt_succ_of_lt z2)).trans ((World.cell?_alloc_past _ _ _ z2).trans k1)
  have m2 : w2.cell? ⟨w.heap.size, 1, none⟩ = some (.int .i64 xe) := (hb2.cell (p := ⟨w.heap.size, 1, none⟩) (by rw [z4]; exact Nat.lt_succ_of_lt z2)).trans ((World.cell?_alloc_past _ _ _ z2).trans k2)
  have m4 : w2.cell? ⟨w.heap.size + 1 + 1, 0, none⟩ = some (.int .u64 xs) := (hb2.cell (p := ⟨w.heap.size + 1 + 1, 0, none⟩) (by rw [z4]; exact Nat.lt_succ_of_lt z1)).trans ((World.cell?_alloc_past _ _ _ z1).trans k4)
  have m5 : w2.cell? ⟨w.heap.size + 1 + 1, 1, none⟩ = some (.int .u64 0) := (hb2.cell (p := ⟨w.heap.size + 1 + 1, 1, none⟩) (by rw [z4]; exact Nat.lt_succ_of_lt z1)).trans ((World.cell?_alloc_past _ _ _ z1).trans k5)
  have m6 : w2.cell? ⟨w1.heap.size, 0, none⟩ = some (.int .u64 th) := (hb2.cell (p := ⟨w1.heap.size, 0, none⟩) (by rw [z4]; exact Nat.lt_succ_self _)).trans (World.cell?_alloc_at _ _ _ _ rfl)
  have m7 : w2.cell? ⟨w1.heap.size, 1, none⟩ = some (.int .u64 tl) := (hb2.cell (p := ⟨w1.heap.size, 1, none⟩) (by rw [z4]; exact Nat.lt_succ_self _)).trans (World.cell?_alloc_at _ _ _ _ rfl)
  have f6 : w2.frozen? ⟨w1.heap.size, 0, none⟩ = false := (hb2.frozen (p := ⟨w1.heap.size, 0, none⟩) (by rw [z4]; exact Nat.lt_succ_self _)).trans (by go_simp)
  have f7 : w2.frozen? ⟨w1.heap.size, 1, none⟩ = false := (hb2.frozen (p := ⟨w1.heap.size, 1, none⟩) (by rw [z4]; exact Nat.lt_succ_self _)).trans (by go_simp)
  have z5 : w1.heap.size < w2.heap.size := by have := hb2.size; rw [z4] at this; omega
  have HB2 := hide (bl_tr (unhide HB1) (bl_tr ((Below.refl _ _).alloc (Nat.le_refl _) _) hb2))
  clear hb2 HB1 z4 k1 k2 k3 k4 k5
  go_wp2_with fail
  refine (unhide HM _).mono ?_
  rintro e w3 ⟨rfl, hb3⟩
  have hbW := (((Below.refl w1.heap.size w2).setCell (p := ⟨w1.heap.size, 0, none⟩) (Nat.le_refl _) (.int .u64 ph)).setCell (p := ⟨w1.heap.size, 1, none⟩) (Nat.le_refl _) (.int .u64 pl)).trans (hb3.mono (by simp only [World.size_setCell]; omega))
  have n1 : w3.cell? ⟨w.heap.size, 0, none⟩ = some (.bool xn) := (hbW.cell (p := ⟨w.heap.size, 0, none⟩) z2).trans m1
  have n2 : w3.cell? ⟨w.heap.size, 1, none⟩ = some (.int .i64 xe) := (hbW.cell (p := ⟨w.heap.size, 1, none⟩) z2).trans m2
  have z6 : w.heap.size < w3.heap.size := by have := hbW.size; omega
  have HB3 := hide ((unhide HB2).trans (hbW.mono (Nat.le_of_lt z2)))
  clear hb3 hbW HB2 m1 m2 m4 m5 m6 m7 f6 f7 z5 z1 z2 z3
  go_wp2_with fail
  all_goals subst_vars
  all_goals first | (exact absurd hne Bool.noConfusion) | (cases hne; done) | skip
  all_goals refine (unhide HN _).mono ?_
  all_goals rintro e w4 ⟨rfl, hb4⟩
  all_goals go_wp2_with fail
  all_goals go_ret
  all_goals exact ⟨rfl, bl_tr (unhide HB3) (bl_tr ((Below.refl _ _).alloc (Nat.le_refl _) _) hb4)⟩

set_option maxRecDepth 100000 in
set_option maxHeartbeats 1000000 in
theorem csum_F_B (way : Int) (xn : Bool) (xe xs ye ys th tl ph pl rh rl res : Int) (more : Bool) (ho : xe = ye) (ho2 : ys ≤ xs) (x0 : 0 ≤ xs) (x1 : xs < 9223372036854775808)
    (e0 : -1000 ≤ xe) (e1 : xe ≤ 1000) (f0 : -1000 ≤ ye) (f1 : ye ≤ 1000)
    (hlow : ∀ w, Calls Try.prog 59 #[.int .u64 ys, .int .i64 (xe - ye)] w fun e w' => e = .returned (.tuple #[.agg #[.int .u64 th, .int .u64 tl], .bool false]) ∧ Below w.heap.size w w')
    (hminus : ∀ w, Calls Try.prog 62 #[.agg #[.int .u64 xs, .int .u64 0], .agg #[.int .u64 th, .int .u64 tl]] w fun e w' => e = .returned (.agg #[.int .u64 rh, .int .u64 rl]) ∧ Below w.heap.size w w')
    (hne : ((rh == 0) && (rl == 0)) = false)
    (hnar : ∀ w, Calls Try.prog 60 #[.int .i64 way, .bool xn, .int .i64 xe, .agg #[.int .u64 rh, .int .u64 rl], .bool false] w fun e w' => e = .returned (.int .u32 res) ∧ Below w.heap.size w w')
    (w : World) :
    Calls Try.prog 40 #[.int .i64 way, .agg #[.bool xn, .int .i64 xe, .int .u64 xs], .agg #[.bool (!xn), .int .i64 ye, .int .u64 ys]] w fun e w' => e = .returned (.int .u32 res) ∧ Below w.heap.size w w' := by
  have HL := hide hlow
  have HM := hide hminus
  have HN := hide hnar
  clear hlow hminus hnar
  have c1 : decide (xe < ye) = false := by simp; omega
  have c2 : (xe == ye) = true := by simp; omega
  have c3 : decide (xs < ys) = false := by simp; omega
  clear ho ho2
  have cx : (xn == !xn) = false := by cases xn <;> rfl
  go_enter Try.func40, Try.ntmps40
  go_wp2_with fail
  refine (unhide HL _).mono ?_
  rintro e w1 ⟨rfl, hb1⟩
  obtain ⟨q1, q2, q3, z1, hbel1⟩ := cells3 hb1
  have k1 : w1.cell? ⟨w.heap.size, 0, none⟩ = some (.bool xn) := q1 0
  have k2 : w1.cell? ⟨w.heap.size, 1, none⟩ = some (.int .i64 xe) := q1 1
  have k3 : w1.cell? ⟨w.heap.size + 1, 0, none⟩ = some (.bool (!xn)) := q2 0
  have k4 : w1.cell? ⟨w.heap.size + 1 + 1, 0, none⟩ = some (.int .u64 xs) := q3 0
  have k5 : w1.cell? ⟨w.heap.size + 1 + 1, 1, none⟩ = some (.int .u64 0) := q3 1
  have z2 : w.heap.size < w1.heap.size := by omega
  have z3 : w.heap.size + 1 < w1.heap.size := by omega
  clear hb1 q1 q2 q3 c1 c2 c3
  have HB1 := hide hbel1
  clear hbel1
  go_wp2_with fail
  refine (unhide HM _).mono ?_
  rintro e w3 ⟨rfl, hb3⟩
  have hbW := (((Below.refl w1.heap.size w1).alloc (Nat.le_refl _) (.cells #[.int .u64 th, .int .u64 tl] 70))).trans (hb3.mono (by simp only [World.size_alloc]; omega))
  have n1 : w3.cell? ⟨w.heap.size, 0, none⟩ = some (.bool xn) := (hbW.cell (p := ⟨w.heap.size, 0, none⟩) z2).trans k1
  have n2 : w3.cell? ⟨w.heap.size, 1, none⟩ = some (.int .i64 xe) := (hbW.cell (p := ⟨w.heap.size, 1, none⟩) z2).trans k2
  have z6 : w.heap.size < w3.heap.size := by have := hbW.size; omega
  have HB3 := hide ((unhide HB1).trans (hbW.mono (Nat.le_of_lt z2)))
  clear hb3 hbW HB1 k1 k2 k3 k4 k5 z1 z2 z3
  go_wp2_with fail
  all_goals subst_vars
  all_goals first | (exact absurd hne Bool.noConfusion) | (cases hne; done) | skip
  all_goals refine (unhide HN _).mono ?_
  all_goals rintro e w4 ⟨rfl, hb4⟩
  all_goals go_wp2_with fail
  all_goals go_ret
  all_goals exact ⟨rfl, bl_tr (unhide HB3) (bl_tr ((Below.refl _ _).alloc (Nat.le_refl _) _) hb4)⟩

set_option maxRecDepth 100000 in
set_option maxHeartbeats 1000000 in
theorem csum_0_B (way : Int) (xn : Bool) (xe xs ye ys th tl ph pl rh rl res : Int) (more : Bool) (ho : xe = ye) (ho2 : ys ≤ xs) (x0 : 0 ≤ xs) (x1 : xs < 9223372036854775808)
    (e0 : -1000 ≤ xe) (e1 : xe ≤ 1000) (f0 : -1000 ≤ ye) (f1 : ye ≤ 1000)
    (hlow : ∀ w, Calls Try.prog 59 #[.int .u64 ys, .int .i64 (xe - ye)] w fun e w' => e = .returned (.tuple #[.agg #[.int .u64 th, .int .u64 tl], .bool false]) ∧ Below w.heap.size w w')
    (hminus : ∀ w, Calls Try.prog 62 #[.agg #[.int .u64 xs, .int .u64 0], .agg #[.int .u64 th, .int .u64 tl]] w fun e w' => e = .returned (.agg #[.int .u64 0, .int .u64 0]) ∧ Below w.heap.size w w')
    (w : World) :
    Calls Try.prog 40 #[.int .i64 way, .agg #[.bool xn, .int .i64 xe, .int .u64 xs], .agg #[.bool (!xn), .int .i64 ye, .int .u64 ys]] w fun e w' => e = .returned (.int .u32 (Flt.signBit (decide (way = 2)))) ∧ Below w.heap.size w w' := by
  have HL := hide hlow
  have HM := hide hminus
  clear hlow hminus
  have c1 : decide (xe < ye) = false := by simp; omega
  have c2 : (xe == ye) = true := by simp; omega
  have c3 : decide (xs < ys) = false := by simp; omega
  clear ho ho2
  have cx : (xn == !xn) = false := by cases xn <;> rfl
  go_enter Try.func40, Try.ntmps40
  go_wp2_with fail
  refine (unhide HL _).mono ?_
  rintro e w1 ⟨rfl, hb1⟩
  obtain ⟨q1, q2, q3, z1, hbel1⟩ := cells3 hb1
  have k1 : w1.cell? ⟨w.heap.size, 0, none⟩ = some (.bool xn) := q1 0
  have k2 : w1.cell? ⟨w.heap.size, 1, none⟩ = some (.int .i64 xe) := q1 1
  have k3 : w1.cell? ⟨w.heap.size + 1, 0, none⟩ = some (.bool (!xn)) := q2 0
  have k4 : w1.cell? ⟨w.heap.size + 1 + 1, 0, none⟩ = some (.int .u64 xs) := q3 0
  have k5 : w1.cell? ⟨w.heap.size + 1 + 1, 1, none⟩ = some (.int .u64 0) := q3 1
  have z2 : w.heap.size < w1.heap.size := by omega
  have z3 : w.heap.size + 1 < w1.heap.size := by omega
  clear hb1 q1 q2 q3 c1 c2 c3
  have HB1 := hide hbel1
  clear hbel1
  go_wp2_with fail
  refine (unhide HM _).mono ?_
  rintro e w3 ⟨rfl, hb3⟩
  have hbW := (((Below.refl w1.heap.size w1).alloc (Nat.le_refl _) (.cells #[.int .u64 th, .int .u64 tl] 70))).trans (hb3.mono (by simp only [World.size_alloc]; omega))
  have n1 : w3.cell? ⟨w.heap.size, 0, none⟩ = some (.bool xn) := (hbW.cell (p := ⟨w.heap.size, 0, none⟩) z2).trans k1
  have n2 : w3.cell? ⟨w.heap.size, 1, none⟩ = some (.int .i64 xe) := (hbW.cell (p := ⟨w.heap.size, 1, none⟩) z2).trans k2
  have z6 : w.heap.size < w3.heap.size := by have := hbW.size; omega
  have HB3 := hide ((unhide HB1).trans (hbW.mono (Nat.le_of_lt z2)))
  clear hb3 hbW HB1 k1 k2 k3 k4 k5 z1 z2 z3
  go_wp2_with fail
  refine (cnought_any way _).mono ?_
  rintro e w4 ⟨rfl, rfl⟩
  go_wp2_with fail
  go_ret
  exact ⟨rfl, bl_tr (unhide HB3) ((Below.refl _ _).alloc (Nat.le_refl _) _)⟩

set_option maxRecDepth 100000 in
set_option maxHeartbeats 1000000 in
theorem csum_same_C (way : Int) (xn : Bool) (xe xs ye ys th tl ph pl rh rl res : Int) (more : Bool) (ho : ye < xe) (x0 : 0 ≤ xs) (x1 : xs < 9223372036854775808)
    (e0 : -1000 ≤ xe) (e1 : xe ≤ 1000) (f0 : -1000 ≤ ye) (f1 : ye ≤ 1000)
    (hlow : ∀ w, Calls Try.prog 59 #[.int .u64 ys, .int .i64 (xe - ye)] w fun e w' => e = .returned (.tuple #[.agg #[.int .u64 th, .int .u64 tl], .bool more]) ∧ Below w.heap.size w w')
    (hplus : ∀ w, Calls Try.prog 61 #[.agg #[.int .u64 xs, .int .u64 0], .agg #[.int .u64 th, .int .u64 tl]] w fun e w' => e = .returned (.agg #[.int .u64 ph, .int .u64 pl]) ∧ Below w.heap.size w w')
    (hnar : ∀ w, Calls Try.prog 60 #[.int .i64 way, .bool xn, .int .i64 xe, .agg #[.int .u64 ph, .int .u64 pl], .bool more] w fun e w' => e = .returned (.int .u32 res) ∧ Below w.heap.size w w')
    (w : World) :
    Calls Try.prog 40 #[.int .i64 way, .agg #[.bool xn, .int .i64 ye, .int .u64 ys], .agg #[.bool xn, .int .i64 xe, .int .u64 xs]] w fun e w' => e = .returned (.int .u32 res) ∧ Below w.heap.size w w' := by
  have HL := hide hlow
  have HP := hide hplus
  have HN := hide hnar
  clear hlow hplus hnar
  have c1 : decide (ye < xe) = true := by simp; omega
  clear ho
  go_enter Try.func40, Try.ntmps40
  go_wp2_with fail
  refine (unhide HL _).mono ?_
  rintro e w1 ⟨rfl, hb1⟩
  obtain ⟨q1, q2, q3, z1, hbel1⟩ := cells3 hb1
  have k1 : w1.cell? ⟨w.heap.size, 0, none⟩ = some (.bool xn) := q1 0
  have k2 : w1.cell? ⟨w.heap.size, 1, none⟩ = some (.int .i64 xe) := q1 1
  have k3 : w1.cell? ⟨w.heap.size + 1, 0, none⟩ = some (.bool xn) := q2 0
  have k4 : w1.cell? ⟨w.heap.size + 1 + 1, 0, none⟩ = some (.int .u64 xs) := q3 0
  have k5 : w1.cell? ⟨w.heap.size + 1 + 1, 1, none⟩ = some (.int .u64 0) := q3 1
  have z2 : w.heap.size < w1.heap.size := by omega
  have z3 : w.heap.size + 1 < w1.heap.size := by omega
  clear hb1 q1 q2 q3 c1
  have HB1 := hide hbel1
  clear hbel1
  go_wp2_with fail
  refine wp_region_below (by kernel_rfl) (by kernel_rfl) ?_
  intro T f hne hfb hfc
  have z4 : (w1.alloc (.cells #[.int .u64 th, .int .u64 tl] 70)).heap.size = w1.heap.size + 1 := by simp only [World.size_alloc]
  have c1 : ∀ x, (f x).cell? ⟨w.heap.size, 0, none⟩ = some (.bool xn) := qcell hfb (by rw [z4]; omega) ((World.cell?_alloc_past _ _ _ z2).trans k1)
  have c2 : ∀ x, (f x).cell? ⟨w.heap.size, 1, none⟩ = some (.int .i64 xe) := qcell hfb (by rw [z4]; omega) ((World.cell?_alloc_past _ _ _ z2).trans k2)
  have c3 : ∀ x, (f x).cell? ⟨w.heap.size + 1 + 1, 0, none⟩ = some (.int .u64 xs) := qcell hfb (by rw [z4]; omega) ((World.cell?_alloc_past _ _ _ z1).trans k4)
  have c4 : ∀ x, (f x).cell? ⟨w.heap.size + 1 + 1, 1, none⟩ = some (.int .u64 0) := qcell hfb (by rw [z4]; omega) ((World.cell?_alloc_past _ _ _ z1).trans k5)
  have c5 : ∀ x, (f x).cell? ⟨w1.heap.size, 0, none⟩ = some (.int .u64 th) := qcell hfb (by rw [z4]; omega) (World.cell?_alloc_at _ _ _ _ rfl)
  have c6 : ∀ x, (f x).cell? ⟨w1.heap.size, 1, none⟩ = some (.int .u64 tl) := qcell hfb (by rw [z4]; omega) (World.cell?_alloc_at _ _ _ _ rfl)
  have HF := hide (fun x => (unhide HB1).trans (((Below.refl w.heap.size w1).alloc (by omega) _).trans ((hfb x).mono (by rw [z4]; omega))))
  have HFB := hide hfb
  have HFC := hide hfc
  clear hfb hfc z4 k1 k2 k3 k4 k5
  repeat (go_big_quiet_step (first | (go_at_call 61; exact calls_qb (unhide HFB) (unhide HFC) (unhide HP _)) | (go_at_call 60; exact calls_qb (unhide HFB) (unhide HFC) (unhide HN _))))
  refine wpQuiet_nil ?_
  intro x
  go_wp2_with fail
  go_ret
  exact ⟨rfl, unhide HF x⟩

set_option maxRecDepth 100000 in
set_option maxHeartbeats 1000000 in
theorem csum_T_C (way : Int) (xn : Bool) (xe xs ye ys th tl ph pl rh rl res : Int) (more : Bool) (ho : ye < xe) (x0 : 0 ≤ xs) (x1 : xs < 9223372036854775808)
    (e0 : -1000 ≤ xe) (e1 : xe ≤ 1000) (f0 : -1000 ≤ ye) (f1 : ye ≤ 1000)
    (hlow : ∀ w, Calls Try.prog 59 #[.int .u64 ys, .int .i64 (xe - ye)] w fun e w' => e = .returned (.tuple #[.agg #[.int .u64 th, .int .u64 tl], .bool true]) ∧ Below w.heap.size w w')
    (hplus : ∀ w, Calls Try.prog 61 #[.agg #[.int .u64 th, .int .u64 tl], .agg #[.int .u64 0, .int .u64 1]] w fun e w' => e = .returned (.agg #[.int .u64 ph, .int .u64 pl]) ∧ Below w.heap.size w w')
    (hminus : ∀ w, Calls Try.prog 62 #[.agg #[.int .u64 xs, .int .u64 0], .agg #[.int .u64 ph, .int .u64 pl]] w fun e w' => e = .returned (.agg #[.int .u64 rh, .int .u64 rl]) ∧ Below w.heap.size w w')
    (hne : ((rh == 0) && (rl == 0)) = false)
    (hnar : ∀ w, Calls Try.prog 60 #[.int .i64 way, .bool xn, .int .i64 xe, .agg #[.int .u64 rh, .int .u64 rl], .bool true] w fun e w' => e = .returned (.int .u32 res) ∧ Below w.heap.size w w')
    (w : World) :
    Calls Try.prog 40 #[.int .i64 way, .agg #[.bool (!xn), .int .i64 ye, .int .u64 ys], .agg #[.bool xn, .int .i64 xe, .int .u64 xs]] w fun e w' => e = .returned (.int .u32 res) ∧ Below w.heap.size w w' := by
  have HL := hide hlow
  have HP := hide hplus
  have HM := hide hminus
  have HN := hide hnar
  clear hlow hplus hminus hnar
  have c1 : decide (ye < xe) = true := by simp; omega
  clear ho
  have cx : (xn == !xn) = false := by cases xn <;> rfl
  go_enter Try.func40, Try.ntmps40
  go_wp2_with fail
  refine (unhide HL _).mono ?_
  rintro e w1 ⟨rfl, hb1⟩
  obtain ⟨q1, q2, q3, z1, hbel1⟩ := cells3 hb1
  have k1 : w1.cell? ⟨w.heap.size, 0, none⟩ = some (.bool xn) := q1 0
  have k2 : w1.cell? ⟨w.heap.size, 1, none⟩ = some (.int .i64 xe) := q1 1
  have k3 : w1.cell? ⟨w.heap.size + 1, 0, none⟩ = some (.bool (!xn)) := q2 0
  have k4 : w1.cell? ⟨w.heap.size + 1 + 1, 0, none⟩ = some (.int .u64 xs) := q3 0
  have k5 : w1.cell? ⟨w.heap.size + 1 + 1, 1, none⟩ = some (.int .u64 0) := q3 1
  have z2 : w.heap.size < w1.heap.size := by omega
  have z3 : w.heap.size + 1 < w1.heap.size := by omega
  clear hb1 q1 q2 q3 c1
  have HB1 := hide hbel1
  clear hbel1
  go_wp2_with fail
  refine (unhide HP _).mono ?_
  rintro e w2 ⟨rfl, hb2⟩
  have z4 : (w1.alloc (.cells #[.int .u64 th, .int .u64 tl] 70)).heap.size = w1.heap.size + 1 := by simp only [World.size_alloc]
  have m1 : w2.cell? ⟨w.heap.size, 0, none⟩ = some (.bool xn) := (hb2.cell (p := ⟨w.heap.size, 0, none⟩) (by rw [z4]; exact Nat.lt_succ_of_lt z2)).trans ((World.cell?_alloc_past _ _ _ z2).trans k1)
  have m2 : w2.cell? ⟨w.heap.size, 1, none⟩ = some (.int .i64 xe) := (hb2.cell (p := ⟨w.heap.size, 1, none⟩) (by rw [z4]; exact Nat.lt_succ_of_lt z2)).trans ((World.cell?_alloc_past _ _ _ z2).trans k2)
  have m4 : w2.cell? ⟨w.heap.size + 1 + 1, 0, none⟩ = some (.int .u64 xs) := (hb2.cell (p := ⟨w.heap.size + 1 + 1, 0, none⟩) (by rw [z4]; exact Nat.lt_succ_of_lt z1)).trans ((World.cell?_alloc_past _ _ _ z1).trans k4)
  have m5 : w2.cell? ⟨w.heap.size + 1 + 1, 1, none⟩ = some (.int .u64 0) := (hb2.cell (p := ⟨w.heap.size + 1 + 1, 1, none⟩) (by rw [z4]; exact Nat.lt_succ_of_lt z1)).trans ((World.cell?_alloc_past _ _ _ z1).trans k5)
  have m6 : w2.cell? ⟨w1.heap.size, 0, none⟩ = some (.int .u64 th) := (hb2.cell (p := ⟨w1.heap.size, 0, none⟩) (by rw [z4]; exact Nat.lt_succ_self _)).trans (World.cell?_alloc_at _ _ _ _ rfl)
  have m7 : w2.cell? ⟨w1.heap.size, 1, none⟩ = some (.int .u64 tl) := (hb2.cell (p := ⟨w1.heap.size, 1, none⟩) (by rw [z4]; exact Nat.lt_succ_self _)).trans (World.cell?_alloc_at _ _ _ _ rfl)
  have f6 : w2.frozen? ⟨w1.heap.size, 0, none⟩ = false := (hb2.frozen (p := ⟨w1.heap.size, 0, none⟩) (by rw [z4]; exact Nat.lt_succ_self _)).trans (by go_simp)
  have f7 : w2.frozen? ⟨w1.heap.size, 1, none⟩ = false := (hb2.frozen (p := ⟨w1.heap.size, 1, none⟩) (by rw [z4]; exact Nat.lt_succ_self _)).trans (by go_simp)
  have z5 : w1.heap.size < w2.heap.size := by have := hb2.size; rw [z4] at this; omega
  have HB2 := hide (bl_tr (unhide HB1) (bl_tr ((Below.refl _ _).alloc (Nat.le_refl _) _) hb2))
  clear hb2 HB1 z4 k1 k2 k3 k4 k5
  go_wp2_with fail
  refine (unhide HM _).mono ?_
  rintro e w3 ⟨rfl, hb3⟩
  have hbW := (((Below.refl w1.heap.size w2).setCell (p := ⟨w1.heap.size, 0, none⟩) (Nat.le_refl _) (.int .u64 ph)).setCell (p := ⟨w1.heap.size, 1, none⟩) (Nat.le_refl _) (.int .u64 pl)).trans (hb3.mono (by simp only [World.size_setCell]; omega))
  have n1 : w3.cell? ⟨w.heap.size, 0, none⟩ = some (.bool xn) := (hbW.cell (p := ⟨w.heap.size, 0, none⟩) z2).trans m1
  have n2 : w3.cell? ⟨w.heap.size, 1, none⟩ = some (.int .i64 xe) := (hbW.cell (p := ⟨w.heap.size, 1, none⟩) z2).trans m2
  have z6 : w.heap.size < w3.heap.size := by have := hbW.size; omega
  have HB3 := hide ((unhide HB2).trans (hbW.mono (Nat.le_of_lt z2)))
  clear hb3 hbW HB2 m1 m2 m4 m5 m6 m7 f6 f7 z5 z1 z2 z3
  go_wp2_with fail
  all_goals subst_vars
  all_goals first | (exact absurd hne Bool.noConfusion) | (cases hne; done) | skip
  all_goals refine (unhide HN _).mono ?_
  all_goals rintro e w4 ⟨rfl, hb4⟩
  all_goals go_wp2_with fail
  all_goals go_ret
  all_goals exact ⟨rfl, bl_tr (unhide HB3) (bl_tr ((Below.refl _ _).alloc (Nat.le_refl _) _) hb4)⟩

set_option maxRecDepth 100000 in
set_option maxHeartbeats 1000000 in
theorem csum_F_C (way : Int) (xn : Bool) (xe xs ye ys th tl ph pl rh rl res : Int) (more : Bool) (ho : ye < xe) (x0 : 0 ≤ xs) (x1 : xs < 9223372036854775808)
    (e0 : -1000 ≤ xe) (e1 : xe ≤ 1000) (f0 : -1000 ≤ ye) (f1 : ye ≤ 1000)
    (hlow : ∀ w, Calls Try.prog 59 #[.int .u64 ys, .int .i64 (xe - ye)] w fun e w' => e = .returned (.tuple #[.agg #[.int .u64 th, .int .u64 tl], .bool false]) ∧ Below w.heap.size w w')
    (hminus : ∀ w, Calls Try.prog 62 #[.agg #[.int .u64 xs, .int .u64 0], .agg #[.int .u64 th, .int .u64 tl]] w fun e w' => e = .returned (.agg #[.int .u64 rh, .int .u64 rl]) ∧ Below w.heap.size w w')
    (hne : ((rh == 0) && (rl == 0)) = false)
    (hnar : ∀ w, Calls Try.prog 60 #[.int .i64 way, .bool xn, .int .i64 xe, .agg #[.int .u64 rh, .int .u64 rl], .bool false] w fun e w' => e = .returned (.int .u32 res) ∧ Below w.heap.size w w')
    (w : World) :
    Calls Try.prog 40 #[.int .i64 way, .agg #[.bool (!xn), .int .i64 ye, .int .u64 ys], .agg #[.bool xn, .int .i64 xe, .int .u64 xs]] w fun e w' => e = .returned (.int .u32 res) ∧ Below w.heap.size w w' := by
  have HL := hide hlow
  have HM := hide hminus
  have HN := hide hnar
  clear hlow hminus hnar
  have c1 : decide (ye < xe) = true := by simp; omega
  clear ho
  have cx : (xn == !xn) = false := by cases xn <;> rfl
  go_enter Try.func40, Try.ntmps40
  go_wp2_with fail
  refine (unhide HL _).mono ?_
  rintro e w1 ⟨rfl, hb1⟩
  obtain ⟨q1, q2, q3, z1, hbel1⟩ := cells3 hb1
  have k1 : w1.cell? ⟨w.heap.size, 0, none⟩ = some (.bool xn) := q1 0
  have k2 : w1.cell? ⟨w.heap.size, 1, none⟩ = some (.int .i64 xe) := q1 1
  have k3 : w1.cell? ⟨w.heap.size + 1, 0, none⟩ = some (.bool (!xn)) := q2 0
  have k4 : w1.cell? ⟨w.heap.size + 1 + 1, 0, none⟩ = some (.int .u64 xs) := q3 0
  have k5 : w1.cell? ⟨w.heap.size + 1 + 1, 1, none⟩ = some (.int .u64 0) := q3 1
  have z2 : w.heap.size < w1.heap.size := by omega
  have z3 : w.heap.size + 1 < w1.heap.size := by omega
  clear hb1 q1 q2 q3 c1
  have HB1 := hide hbel1
  clear hbel1
  go_wp2_with fail
  refine (unhide HM _).mono ?_
  rintro e w3 ⟨rfl, hb3⟩
  have hbW := (((Below.refl w1.heap.size w1).alloc (Nat.le_refl _) (.cells #[.int .u64 th, .int .u64 tl] 70))).trans (hb3.mono (by simp only [World.size_alloc]; omega))
  have n1 : w3.cell? ⟨w.heap.size, 0, none⟩ = some (.bool xn) := (hbW.cell (p := ⟨w.heap.size, 0, none⟩) z2).trans k1
  have n2 : w3.cell? ⟨w.heap.size, 1, none⟩ = some (.int .i64 xe) := (hbW.cell (p := ⟨w.heap.size, 1, none⟩) z2).trans k2
  have z6 : w.heap.size < w3.heap.size := by have := hbW.size; omega
  have HB3 := hide ((unhide HB1).trans (hbW.mono (Nat.le_of_lt z2)))
  clear hb3 hbW HB1 k1 k2 k3 k4 k5 z1 z2 z3
  go_wp2_with fail
  all_goals subst_vars
  all_goals first | (exact absurd hne Bool.noConfusion) | (cases hne; done) | skip
  all_goals refine (unhide HN _).mono ?_
  all_goals rintro e w4 ⟨rfl, hb4⟩
  all_goals go_wp2_with fail
  all_goals go_ret
  all_goals exact ⟨rfl, bl_tr (unhide HB3) (bl_tr ((Below.refl _ _).alloc (Nat.le_refl _) _) hb4)⟩

set_option maxRecDepth 100000 in
set_option maxHeartbeats 1000000 in
theorem csum_0_C (way : Int) (xn : Bool) (xe xs ye ys th tl ph pl rh rl res : Int) (more : Bool) (ho : ye < xe) (x0 : 0 ≤ xs) (x1 : xs < 9223372036854775808)
    (e0 : -1000 ≤ xe) (e1 : xe ≤ 1000) (f0 : -1000 ≤ ye) (f1 : ye ≤ 1000)
    (hlow : ∀ w, Calls Try.prog 59 #[.int .u64 ys, .int .i64 (xe - ye)] w fun e w' => e = .returned (.tuple #[.agg #[.int .u64 th, .int .u64 tl], .bool false]) ∧ Below w.heap.size w w')
    (hminus : ∀ w, Calls Try.prog 62 #[.agg #[.int .u64 xs, .int .u64 0], .agg #[.int .u64 th, .int .u64 tl]] w fun e w' => e = .returned (.agg #[.int .u64 0, .int .u64 0]) ∧ Below w.heap.size w w')
    (w : World) :
    Calls Try.prog 40 #[.int .i64 way, .agg #[.bool (!xn), .int .i64 ye, .int .u64 ys], .agg #[.bool xn, .int .i64 xe, .int .u64 xs]] w fun e w' => e = .returned (.int .u32 (Flt.signBit (decide (way = 2)))) ∧ Below w.heap.size w w' := by
  have HL := hide hlow
  have HM := hide hminus
  clear hlow hminus
  have c1 : decide (ye < xe) = true := by simp; omega
  clear ho
  have cx : (xn == !xn) = false := by cases xn <;> rfl
  go_enter Try.func40, Try.ntmps40
  go_wp2_with fail
  refine (unhide HL _).mono ?_
  rintro e w1 ⟨rfl, hb1⟩
  obtain ⟨q1, q2, q3, z1, hbel1⟩ := cells3 hb1
  have k1 : w1.cell? ⟨w.heap.size, 0, none⟩ = some (.bool xn) := q1 0
  have k2 : w1.cell? ⟨w.heap.size, 1, none⟩ = some (.int .i64 xe) := q1 1
  have k3 : w1.cell? ⟨w.heap.size + 1, 0, none⟩ = some (.bool (!xn)) := q2 0
  have k4 : w1.cell? ⟨w.heap.size + 1 + 1, 0, none⟩ = some (.int .u64 xs) := q3 0
  have k5 : w1.cell? ⟨w.heap.size + 1 + 1, 1, none⟩ = some (.int .u64 0) := q3 1
  have z2 : w.heap.size < w1.heap.size := by omega
  have z3 : w.heap.size + 1 < w1.heap.size := by omega
  clear hb1 q1 q2 q3 c1
  have HB1 := hide hbel1
  clear hbel1
  go_wp2_with fail
  refine (unhide HM _).mono ?_
  rintro e w3 ⟨rfl, hb3⟩
  have hbW := (((Below.refl w1.heap.size w1).alloc (Nat.le_refl _) (.cells #[.int .u64 th, .int .u64 tl] 70))).trans (hb3.mono (by simp only [World.size_alloc]; omega))
  have n1 : w3.cell? ⟨w.heap.size, 0, none⟩ = some (.bool xn) := (hbW.cell (p := ⟨w.heap.size, 0, none⟩) z2).trans k1
  have n2 : w3.cell? ⟨w.heap.size, 1, none⟩ = some (.int .i64 xe) := (hbW.cell (p := ⟨w.heap.size, 1, none⟩) z2).trans k2
  have z6 : w.heap.size < w3.heap.size := by have := hbW.size; omega
  have HB3 := hide ((unhide HB1).trans (hbW.mono (Nat.le_of_lt z2)))
  clear hb3 hbW HB1 k1 k2 k3 k4 k5 z1 z2 z3
  go_wp2_with fail
  refine (cnought_any way _).mono ?_
  rintro e w4 ⟨rfl, rfl⟩
  go_wp2_with fail
  go_ret
  exact ⟨rfl, bl_tr (unhide HB3) ((Below.refl _ _).alloc (Nat.le_refl _) _)⟩

set_option maxRecDepth 100000 in
set_option maxHeartbeats 1000000 in
theorem csum_same_D (way : Int) (xn : Bool) (xe xs ye ys th tl ph pl rh rl res : Int) (more : Bool) (ho : ye = xe) (ho2 : ys < xs) (x0 : 0 ≤ xs) (x1 : xs < 9223372036854775808)
    (e0 : -1000 ≤ xe) (e1 : xe ≤ 1000) (f0 : -1000 ≤ ye) (f1 : ye ≤ 1000)
    (hlow : ∀ w, Calls Try.prog 59 #[.int .u64 ys, .int .i64 (xe - ye)] w fun e w' => e = .returned (.tuple #[.agg #[.int .u64 th, .int .u64 tl], .bool more]) ∧ Below w.heap.size w w')
    (hplus : ∀ w, Calls Try.prog 61 #[.agg #[.int .u64 xs, .int .u64 0], .agg #[.int .u64 th, .int .u64 tl]] w fun e w' => e = .returned (.agg #[.int .u64 ph, .int .u64 pl]) ∧ Below w.heap.size w w')
    (hnar : ∀ w, Calls Try.prog 60 #[.int .i64 way, .bool xn, .int .i64 xe, .agg #[.int .u64 ph, .int .u64 pl], .bool more] w fun e w' => e = .returned (.int .u32 res) ∧ Below w.heap.size w w')
    (w : World) :
    Calls Try.prog 40 #[.int .i64 way, .agg #[.bool xn, .int .i64 ye, .int .u64 ys], .agg #[.bool xn, .int .i64 xe, .int .u64 xs]] w fun e w' => e = .returned (.int .u32 res) ∧ Below w.heap.size w w' := by
  have HL := hide hlow
  have HP := hide hplus
  have HN := hide hnar
  clear hlow hplus hnar
  have c1 : decide (ye < xe) = false := by simp; omega
  have c2 : (ye == xe) = true := by simp; omega
  have c3 : decide (ys < xs) = true := by simp; omega
  clear ho ho2
  go_enter Try.func40, Try.ntmps40
  go_wp2_with fail
  refine (unhide HL _).mono ?_
  rintro e w1 ⟨rfl, hb1⟩
  obtain ⟨q1, q2, q3, z1, hbel1⟩ := cells3 hb1
  have k1 : w1.cell? ⟨w.heap.size, 0, none⟩ = some (.bool xn) := q1 0
  have k2 : w1.cell? ⟨w.heap.size, 1, none⟩ = some (.int .i64 xe) := q1 1
  have k3 : w1.cell? ⟨w.heap.size + 1, 0, none⟩ = some (.bool xn) := q2 0
  have k4 : w1.cell? ⟨w.heap.size + 1 + 1, 0, none⟩ = some (.int .u64 xs) := q3 0
  have k5 : w1.cell? ⟨w.heap.size + 1 + 1, 1, none⟩ = some (.int .u64 0) := q3 1
  have z2 : w.heap.size < w1.heap.size := by omega
  have z3 : w.heap.size + 1 < w1.heap.size := by omega
  clear hb1 q1 q2 q3 c1 c2 c3
  have HB1 := hide hbel1
  clear hbel1
  go_wp2_with fail
  refine wp_region_below (by kernel_rfl) (by kernel_rfl) ?_
  intro T f hne hfb hfc
  have z4 : (w1.alloc (.cells #[.int .u64 th, .int .u64 tl] 70)).heap.size = w1.heap.size + 1 := by simp only [World.size_alloc]
  have c1 : ∀ x, (f x).cell? ⟨w.heap.size, 0, none⟩ = some (.bool xn) := qcell hfb (by rw [z4]; omega) ((World.cell?_alloc_past _ _ _ z2).trans k1)
  have c2 : ∀ x, (f x).cell? ⟨w.heap.size, 1, none⟩ = some (.int .i64 xe) := qcell hfb (by rw [z4]; omega) ((World.cell?_alloc_past _ _ _ z2).trans k2)
  have c3 : ∀ x, (f x).cell? ⟨w.heap.size + 1 + 1, 0, none⟩ = some (.int .u64 xs) := qcell hfb (by rw [z4]; omega) ((World.cell?_alloc_past _ _ _ z1).trans k4)
  have c4 : ∀ x, (f x).cell? ⟨w.heap.size + 1 + 1, 1, none⟩ = some (.int .u64 0) := qcell hfb (by rw [z4]; omega) ((World.cell?_alloc_past _ _ _ z1).trans k5)
  have c5 : ∀ x, (f x).cell? ⟨w1.heap.size, 0, none⟩ = some (.int .u64 th) := qcell hfb (by rw [z4]; omega) (World.cell?_alloc_at _ _ _ _ rfl)
  have c6 : ∀ x, (f x).cell? ⟨w1.heap.size, 1, none⟩ = some (.int .u64 tl) := qcell hfb (by rw [z4]; omega) (World.cell?_alloc_at _ _ _ _ rfl)
  have HF := hide (fun x => (unhide HB1).trans (((Below.refl w.heap.size w1).alloc (by omega) _).trans ((hfb x).mono (by rw [z4]; omega))))
  have HFB := hide hfb
  have HFC := hide hfc
  clear hfb hfc z4 k1 k2 k3 k4 k5
  repeat (go_big_quiet_step (first | (go_at_call 61; exact calls_qb (unhide HFB) (unhide HFC) (unhide HP _)) | (go_at_call 60; exact calls_qb (unhide HFB) (unhide HFC) (unhide HN _))))
  refine wpQuiet_nil ?_
  intro x
  go_wp2_with fail
  go_ret
  exact ⟨rfl, unhide HF x⟩

set_option maxRecDepth 100000 in
set_option maxHeartbeats 1000000 in
theorem csum_T_D (way : Int) (xn : Bool) (xe xs ye ys th tl ph pl rh rl res : Int) (more : Bool) (ho : ye = xe) (ho2 : ys < xs) (x0 : 0 ≤ xs) (x1 : xs < 9223372036854775808)
    (e0 : -1000 ≤ xe) (e1 : xe ≤ 1000) (f0 : -1000 ≤ ye) (f1 : ye ≤ 1000)
    (hlow : ∀ w, Calls Try.prog 59 #[.int .u64 ys, .int .i64 (xe - ye)] w fun e w' => e = .returned (.tuple #[.agg #[.int .u64 th, .int .u64 tl], .bool true]) ∧ Below w.heap.size w w')
    (hplus : ∀ w, Calls Try.prog 61 #[.agg #[.int .u64 th, .int .u64 tl], .agg #[.int .u64 0, .int .u64 1]] w fun e w' => e = .returned (.agg #[.int .u64 ph, .int .u64 pl]) ∧ Below w.heap.size w w')
    (hminus : ∀ w, Calls Try.prog 62 #[.agg #[.int .u64 xs, .int .u64 0], .agg #[.int .u64 ph, .int .u64 pl]] w fun e w' => e = .returned (.agg #[.int .u64 rh, .int .u64 rl]) ∧ Below w.heap.size w w')
    (hne : ((rh == 0) && (rl == 0)) = false)
    (hnar : ∀ w, Calls Try.prog 60 #[.int .i64 way, .bool xn, .int .i64 xe, .agg #[.int .u64 rh, .int .u64 rl], .bool true] w fun e w' => e = .returned (.int .u32 res) ∧ Below w.heap.size w w')
    (w : World) :
    Calls Try.prog 40 #[.int .i64 way, .agg #[.bool (!xn), .int .i64 ye, .int .u64 ys], .agg #[.bool xn, .int .i64 xe, .int .u64 xs]] w fun e w' => e = .returned (.int .u32 res) ∧ Below w.heap.size w w' := by
  have HL := hide hlow
  have HP := hide hplus
  have HM := hide hminus
  have HN := hide hnar
  clear hlow hplus hminus hnar
  have c1 : decide (ye < xe) = false := by simp; omega
  have c2 : (ye == xe) = true := by simp; omega
  have c3 : decide (ys < xs) = true := by simp; omega
  clear ho ho2
  have cx : (xn == !xn) = false := by cases xn <;> rfl
  go_enter Try.func40, Try.ntmps40
  go_wp2_with fail
  refine (unhide HL _).mono ?_
  rintro e w1 ⟨rfl, hb1⟩
  obtain ⟨q1, q2, q3, z1, hbel1⟩ := cells3 hb1
  have k1 : w1.cell? ⟨w.heap.size, 0, none⟩ = some (.bool xn) := q1 0
  have k2 : w1.cell? ⟨w.heap.size, 1, none⟩ = some (.int .i64 xe) := q1 1
  have k3 : w1.cell? ⟨w.heap.size + 1, 0, none⟩ = some (.bool (!xn)) := q2 0
  have k4 : w1.cell? ⟨w.heap.size + 1 + 1, 0, none⟩ = some (.int .u64 xs) := q3 0
  have k5 : w1.cell? ⟨w.heap.size + 1 + 1, 1, none⟩ = some (.int .u64 0) := q3 1
  have z2 : w.heap.size < w1.heap.size := by omega
  have z3 : w.heap.size + 1 < w1.heap.size := by omega
  clear hb1 q1 q2 q3 c1 c2 c3
  have HB1 := hide hbel1
  clear hbel1
  go_wp2_with fail
  refine (unhide HP _).mono ?_
  rintro e w2 ⟨rfl, hb2⟩
  have z4 : (w1.alloc (.cells #[.int .u64 th, .int .u64 tl] 70)).heap.size = w1.heap.size + 1 := by simp only [World.size_alloc]
  have m1 : w2.cell? ⟨w.heap.size, 0, none⟩ = some (.bool xn) := (hb2.cell (p := ⟨w.heap.size, 0, none⟩) (by rw [z4]; exact Nat.lt_succ_of_lt z2)).trans ((World.cell?_alloc_past _ _ _ z2).trans k1)
  have m2 : w2.cell? ⟨w.heap.size, 1, none⟩ = some (.int .i64 xe) := (hb2.cell (p := ⟨w.heap.size, 1, none⟩) (by rw [z4]; exact Nat.lt_succ_of_lt z2)).trans ((World.cell?_alloc_past _ _ _ z2).trans k2)
  have m4 : w2.cell? ⟨w.heap.size + 1 + 1, 0, none⟩ = some (.int .u64 xs) := (hb2.cell (p := ⟨w.heap.size + 1 + 1, 0, none⟩) (by rw [z4]; exact Nat.lt_succ_of_lt z1)).trans ((World.cell?_alloc_past _ _ _ z1).trans k4)
  have m5 : w2.cell? ⟨w.heap.size + 1 + 1, 1, none⟩ = some (.int .u64 0) := (hb2.cell (p := ⟨w.heap.size + 1 + 1, 1, none⟩) (by rw [z4]; exact Nat.lt_succ_of_lt z1)).trans ((World.cell?_alloc_past _ _ _ z1).trans k5)
  have m6 : w2.cell? ⟨w1.heap.size, 0, none⟩ = some (.int .u64 th) := (hb2.cell (p := ⟨w1.heap.size, 0, none⟩) (by rw [z4]; exact Nat.lt_succ_self _)).trans (World.cell?_alloc_at _ _ _ _ rfl)
  have m7 : w2.cell? ⟨w1.heap.size, 1, none⟩ = some (.int .u64 tl) := (hb2.cell (p := ⟨w1.heap.size, 1, none⟩) (by rw [z4]; exact Nat.lt_succ_self _)).trans (World.cell?_alloc_at _ _ _ _ rfl)
  have f6 : w2.frozen? ⟨w1.heap.size, 0, none⟩ = false := (hb2.frozen (p := ⟨w1.heap.size, 0, none⟩) (by rw [z4]; exact Nat.lt_succ_self _)).trans (by go_simp)
  have f7 : w2.frozen? ⟨w1.heap.size, 1, none⟩ = false := (hb2.frozen (p := ⟨w1.heap.size, 1, none⟩) (by rw [z4]; exact Nat.lt_succ_self _)).trans (by go_simp)
  have z5 : w1.heap.size < w2.heap.size := by have := hb2.size; rw [z4] at this; omega
  have HB2 := hide (bl_tr (unhide HB1) (bl_tr ((Below.refl _ _).alloc (Nat.le_refl _) _) hb2))
  clear hb2 HB1 z4 k1 k2 k3 k4 k5
  go_wp2_with fail
  refine (unhide HM _).mono ?_
  rintro e w3 ⟨rfl, hb3⟩
  have hbW := (((Below.refl w1.heap.size w2).setCell (p := ⟨w1.heap.size, 0, none⟩) (Nat.le_refl _) (.int .u64 ph)).setCell (p := ⟨w1.heap.size, 1, none⟩) (Nat.le_refl _) (.int .u64 pl)).trans (hb3.mono (by simp only [World.size_setCell]; omega))
  have n1 : w3.cell? ⟨w.heap.size, 0, none⟩ = some (.bool xn) := (hbW.cell (p := ⟨w.heap.size, 0, none⟩) z2).trans m1
  have n2 : w3.cell? ⟨w.heap.size, 1, none⟩ = some (.int .i64 xe) := (hbW.cell (p := ⟨w.heap.size, 1, none⟩) z2).trans m2
  have z6 : w.heap.size < w3.heap.size := by have := hbW.size; omega
  have HB3 := hide ((unhide HB2).trans (hbW.mono (Nat.le_of_lt z2)))
  clear hb3 hbW HB2 m1 m2 m4 m5 m6 m7 f6 f7 z5 z1 z2 z3
  go_wp2_with fail
  all_goals subst_vars
  all_goals first | (exact absurd hne Bool.noConfusion) | (cases hne; done) | skip
  all_goals refine (unhide HN _).mono ?_
  all_goals rintro e w4 ⟨rfl, hb4⟩
  all_goals go_wp2_with fail
  all_goals go_ret
  all_goals exact ⟨rfl, bl_tr (unhide HB3) (bl_tr ((Below.refl _ _).alloc (Nat.le_refl _) _) hb4)⟩

set_option maxRecDepth 100000 in
set_option maxHeartbeats 1000000 in
theorem csum_F_D (way : Int) (xn : Bool) (xe xs ye ys th tl ph pl rh rl res : Int) (more : Bool) (ho : ye = xe) (ho2 : ys < xs) (x0 : 0 ≤ xs) (x1 : xs < 9223372036854775808)
    (e0 : -1000 ≤ xe) (e1 : xe ≤ 1000) (f0 : -1000 ≤ ye) (f1 : ye ≤ 1000)
    (hlow : ∀ w, Calls Try.prog 59 #[.int .u64 ys, .int .i64 (xe - ye)] w fun e w' => e = .returned (.tuple #[.agg #[.int .u64 th, .int .u64 tl], .bool false]) ∧ Below w.heap.size w w')
    (hminus : ∀ w, Calls Try.prog 62 #[.agg #[.int .u64 xs, .int .u64 0], .agg #[.int .u64 th, .int .u64 tl]] w fun e w' => e = .returned (.agg #[.int .u64 rh, .int .u64 rl]) ∧ Below w.heap.size w w')
    (hne : ((rh == 0) && (rl == 0)) = false)
    (hnar : ∀ w, Calls Try.prog 60 #[.int .i64 way, .bool xn, .int .i64 xe, .agg #[.int .u64 rh, .int .u64 rl], .bool false] w fun e w' => e = .returned (.int .u32 res) ∧ Below w.heap.size w w')
    (w : World) :
    Calls Try.prog 40 #[.int .i64 way, .agg #[.bool (!xn), .int .i64 ye, .int .u64 ys], .agg #[.bool xn, .int .i64 xe, .int .u64 xs]] w fun e w' => e = .returned (.int .u32 res) ∧ Below w.heap.size w w' := by
  have HL := hide hlow
  have HM := hide hminus
  have HN := hide hnar
  clear hlow hminus hnar
  have c1 : decide (ye < xe) = false := by simp; omega
  have c2 : (ye == xe) = true := by simp; omega
  have c3 : decide (ys < xs) = true := by simp; omega
  clear ho ho2
  have cx : (xn == !xn) = false := by cases xn <;> rfl
  go_enter Try.func40, Try.ntmps40
  go_wp2_with fail
  refine (unhide HL _).mono ?_
  rintro e w1 ⟨rfl, hb1⟩
  obtain ⟨q1, q2, q3, z1, hbel1⟩ := cells3 hb1
  have k1 : w1.cell? ⟨w.heap.size, 0, none⟩ = some (.bool xn) := q1 0
  have k2 : w1.cell? ⟨w.heap.size, 1, none⟩ = some (.int .i64 xe) := q1 1
  have k3 : w1.cell? ⟨w.heap.size + 1, 0, none⟩ = some (.bool (!xn)) := q2 0
  have k4 : w1.cell? ⟨w.heap.size + 1 + 1, 0, none⟩ = some (.int .u64 xs) := q3 0
  have k5 : w1.cell? ⟨w.heap.size + 1 + 1, 1, none⟩ = some (.int .u64 0) := q3 1
  have z2 : w.heap.size < w1.heap.size := by omega
  have z3 : w.heap.size + 1 < w1.heap.size := by omega
  clear hb1 q1 q2 q3 c1 c2 c3
  have HB1 := hide hbel1
  clear hbel1
  go_wp2_with fail
  refine (unhide HM _).mono ?_
  rintro e w3 ⟨rfl, hb3⟩
  have hbW := (((Below.refl w1.heap.size w1).alloc (Nat.le_refl _) (.cells #[.int .u64 th, .int .u64 tl] 70))).trans (hb3.mono (by simp only [World.size_alloc]; omega))
  have n1 : w3.cell? ⟨w.heap.size, 0, none⟩ = some (.bool xn) := (hbW.cell (p := ⟨w.heap.size, 0, none⟩) z2).trans k1
  have n2 : w3.cell? ⟨w.heap.size, 1, none⟩ = some (.int .i64 xe) := (hbW.cell (p := ⟨w.heap.size, 1, none⟩) z2).trans k2
  have z6 : w.heap.size < w3.heap.size := by have := hbW.size; omega
  have HB3 := hide ((unhide HB1).trans (hbW.mono (Nat.le_of_lt z2)))
  clear hb3 hbW HB1 k1 k2 k3 k4 k5 z1 z2 z3
  go_wp2_with fail
  all_goals subst_vars
  all_goals first | (exact absurd hne Bool.noConfusion) | (cases hne; done) | skip
  all_goals refine (unhide HN _).mono ?_
  all_goals rintro e w4 ⟨rfl, hb4⟩
  all_goals go_wp2_with fail
  all_goals go_ret
  all_goals exact ⟨rfl, bl_tr (unhide HB3) (bl_tr ((Below.refl _ _).alloc (Nat.le_refl _) _) hb4)⟩

set_option maxRecDepth 100000 in
set_option maxHeartbeats 1000000 in
theorem csum_0_D (way : Int) (xn : Bool) (xe xs ye ys th tl ph pl rh rl res : Int) (more : Bool) (ho : ye = xe) (ho2 : ys < xs) (x0 : 0 ≤ xs) (x1 : xs < 9223372036854775808)
    (e0 : -1000 ≤ xe) (e1 : xe ≤ 1000) (f0 : -1000 ≤ ye) (f1 : ye ≤ 1000)
    (hlow : ∀ w, Calls Try.prog 59 #[.int .u64 ys, .int .i64 (xe - ye)] w fun e w' => e = .returned (.tuple #[.agg #[.int .u64 th, .int .u64 tl], .bool false]) ∧ Below w.heap.size w w')
    (hminus : ∀ w, Calls Try.prog 62 #[.agg #[.int .u64 xs, .int .u64 0], .agg #[.int .u64 th, .int .u64 tl]] w fun e w' => e = .returned (.agg #[.int .u64 0, .int .u64 0]) ∧ Below w.heap.size w w')
    (w : World) :
    Calls Try.prog 40 #[.int .i64 way, .agg #[.bool (!xn), .int .i64 ye, .int .u64 ys], .agg #[.bool xn, .int .i64 xe, .int .u64 xs]] w fun e w' => e = .returned (.int .u32 (Flt.signBit (decide (way = 2)))) ∧ Below w.heap.size w w' := by
  have HL := hide hlow
  have HM := hide hminus
  clear hlow hminus
  have c1 : decide (ye < xe) = false := by simp; omega
  have c2 : (ye == xe) = true := by simp; omega
  have c3 : decide (ys < xs) = true := by simp; omega
  clear ho ho2
  have cx : (xn == !xn) = false := by cases xn <;> rfl
  go_enter Try.func40, Try.ntmps40
  go_wp2_with fail
  refine (unhide HL _).mono ?_
  rintro e w1 ⟨rfl, hb1⟩
  obtain ⟨q1, q2, q3, z1, hbel1⟩ := cells3 hb1
  have k1 : w1.cell? ⟨w.heap.size, 0, none⟩ = some (.bool xn) := q1 0
  have k2 : w1.cell? ⟨w.heap.size, 1, none⟩ = some (.int .i64 xe) := q1 1
  have k3 : w1.cell? ⟨w.heap.size + 1, 0, none⟩ = some (.bool (!xn)) := q2 0
  have k4 : w1.cell? ⟨w.heap.size + 1 + 1, 0, none⟩ = some (.int .u64 xs) := q3 0
  have k5 : w1.cell? ⟨w.heap.size + 1 + 1, 1, none⟩ = some (.int .u64 0) := q3 1
  have z2 : w.heap.size < w1.heap.size := by omega
  have z3 : w.heap.size + 1 < w1.heap.size := by omega
  clear hb1 q1 q2 q3 c1 c2 c3
  have HB1 := hide hbel1
  clear hbel1
  go_wp2_with fail
  refine (unhide HM _).mono ?_
  rintro e w3 ⟨rfl, hb3⟩
  have hbW := (((Below.refl w1.heap.size w1).alloc (Nat.le_refl _) (.cells #[.int .u64 th, .int .u64 tl] 70))).trans (hb3.mono (by simp only [World.size_alloc]; omega))
  have n1 : w3.cell? ⟨w.heap.size, 0, none⟩ = some (.bool xn) := (hbW.cell (p := ⟨w.heap.size, 0, none⟩) z2).trans k1
  have n2 : w3.cell? ⟨w.heap.size, 1, none⟩ = some (.int .i64 xe) := (hbW.cell (p := ⟨w.heap.size, 1, none⟩) z2).trans k2
  have z6 : w.heap.size < w3.heap.size := by have := hbW.size; omega
  have HB3 := hide ((unhide HB1).trans (hbW.mono (Nat.le_of_lt z2)))
  clear hb3 hbW HB1 k1 k2 k3 k4 k5 z1 z2 z3
  go_wp2_with fail
  refine (cnought_any way _).mono ?_
  rintro e w4 ⟨rfl, rfl⟩
  go_wp2_with fail
  go_ret
  exact ⟨rfl, bl_tr (unhide HB3) ((Below.refl _ _).alloc (Nat.le_refl _) _)⟩
end Go.Proofs.Ytkbniebahledmaa
