/-
  The walk of package round's FmaBy and Fma.
-/
import Derived.Test.YtkbniebahledmaaWkZd
import Derived.Test.YtkbniebahledmaaFltN
namespace Go.Proofs.Ytkbniebahledmaa
open Go.RowKit
set_option linter.unusedVariables false
set_option linter.unusedSimpArgs false

set_option maxRecDepth 100000 in
set_option maxHeartbeats 1000000 in
theorem cfma_x (way a b c p : Int) (h0 : 0 ≤ a) (h1 : a < 4294967296) (g0 : 0 ≤ b) (g1 : b < 4294967296) (k0 : 0 ≤ c) (k1 : c < 4294967296) (p0 : 0 ≤ p) (p1 : p < 4294967296)
    (M : ∀ w, Calls Try.prog 15 #[.int .i64 way, .int .u32 a, .int .u32 b] w fun e w' => e = .returned (.int .u32 p) ∧ Below w.heap.size w w')
    (hx : (Flt.isNaN p || Flt.isNaN c || Flt.isInf a || Flt.isInf b || Flt.isInf c) = true) (w : World) :
    Calls Try.prog 13 #[.int .i64 way, .int .u32 a, .int .u32 b, .int .u32 c] w fun e w' => e = .returned (.int .u32 (
      if (Flt.isNaN p || Flt.isNaN c) = true then 2143289344
      else if ((Flt.isInf a || Flt.isInf b) && Flt.isInf c && (c != p)) = true then 2143289344
      else if (Flt.isInf a || Flt.isInf b) = true then p
      else c)) ∧ Below w.heap.size w w' := by
  have HM := hide M
  clear M
  cases ep : Flt.isNaN p <;> cases ec : Flt.isNaN c <;> cases ia : Flt.isInf a <;> cases ib : Flt.isInf b <;> cases ic : Flt.isInf c <;> rw [ep, ec, ia, ib, ic] at hx <;> first | (exfalso; revert hx; decide) | skip
  all_goals clear hx
  all_goals cases hcp : (c != p)
  all_goals simp only [Bool.or_false, Bool.or_true, Bool.true_or, Bool.false_or, Bool.and_true, Bool.true_and, Bool.and_false, Bool.false_and, Bool.false_eq_true, if_true, if_false, Bool.or_self, Bool.and_self]
  all_goals
    go_enter Try.func13, Try.ntmps13
    go_wp2_with fail
    refine (unhide HM _).mono ?_
    rintro e w1 ⟨rfl, hb1⟩
    go_wp2_with (first | (go_at_call 20; refine (nan_any _ (by assumption) (by assumption) _).mono ?_; rintro e w' ⟨rfl, rfl⟩) | (go_at_call 21; refine (inf_any _ (by assumption) (by assumption) _).mono ?_; rintro e w' ⟨rfl, rfl⟩))
    go_ret
    exact ⟨rfl, hb1⟩

-- FINITE
theorem qcells4 {T : Type} {f : T → World} {w : World} {o1 o2 o3 o4 : Array Value} {t1 t2 t3 t4 : TypeId}
    (hfb : ∀ x, Below ((((w.alloc (.cells o1 t1)).alloc (.cells o2 t2)).alloc (.cells o3 t3)).alloc (.cells o4 t4)).heap.size ((((w.alloc (.cells o1 t1)).alloc (.cells o2 t2)).alloc (.cells o3 t3)).alloc (.cells o4 t4)) (f x)) :
    (∀ x i, (f x).cell? ⟨w.heap.size + 1 + 1, i, none⟩ = o3[i]?) ∧ (∀ x i, (f x).cell? ⟨w.heap.size + 1 + 1 + 1, i, none⟩ = o4[i]?) ∧ (∀ x, Below w.heap.size w (f x)) := by
  refine ⟨fun x i => ?_, fun x i => ?_, fun x => ?_⟩
  · rw [(hfb x).cell (p := ⟨w.heap.size + 1 + 1, i, none⟩) (by simp only [World.size_alloc]; omega), World.cell?_alloc_past _ _ _ (by simp only [World.size_alloc]; omega), World.cell?_alloc_at _ _ _ _ (by simp only [World.size_alloc])]
  · rw [(hfb x).cell (p := ⟨w.heap.size + 1 + 1 + 1, i, none⟩) (by simp only [World.size_alloc]; omega), World.cell?_alloc_at _ _ _ _ (by simp only [World.size_alloc])]
  · exact (((((Below.refl _ _).alloc (Nat.le_refl _) _).alloc (by simp) _).alloc (by simp; omega) _).alloc (by simp; omega) _).trans ((hfb x).mono (by simp only [World.size_alloc]; omega))

set_option maxRecDepth 100000 in
set_option maxHeartbeats 1000000 in
theorem cfma_z1 (way a b c p xe xs ye ys ze zs P : Int) (xn yn zn pn : Bool) (h0 : 0 ≤ a) (h1 : a < 4294967296) (g0 : 0 ≤ b) (g1 : b < 4294967296) (k0 : 0 ≤ c) (k1 : c < 4294967296) (p0 : 0 ≤ p) (p1 : p < 4294967296)
    (M : ∀ w, Calls Try.prog 15 #[.int .i64 way, .int .u32 a, .int .u32 b] w fun e w' => e = .returned (.int .u32 p) ∧ Below w.heap.size w w')
    (ep : Flt.isNaN p = false) (ec : Flt.isNaN c = false) (ia : Flt.isInf a = false) (ib : Flt.isInf b = false) (ic : Flt.isInf c = false)
    (hsa : ∀ w, Calls Try.prog 38 #[.int .u32 a] w fun e w' => e = .returned (.agg #[.bool xn, .int .i64 xe, .int .u64 xs]) ∧ Below w.heap.size w w')
    (hsb : ∀ w, Calls Try.prog 38 #[.int .u32 b] w fun e w' => e = .returned (.agg #[.bool yn, .int .i64 ye, .int .u64 ys]) ∧ Below w.heap.size w w')
    (hsc : ∀ w, Calls Try.prog 38 #[.int .u32 c] w fun e w' => e = .returned (.agg #[.bool zn, .int .i64 ze, .int .u64 zs]) ∧ Below w.heap.size w w')
    (xe0 : -149 ≤ xe) (xe1 : xe ≤ 105) (ye0 : -149 ≤ ye) (ye1 : ye ≤ 105) (hP : IntKind.u64.wrap (xs * ys) = P) (hpn : (!(xn == yn)) = pn)
    (hP0 : (P == 0) = true) (hz0 : (zs == 0) = true) (hqn : (!(pn == zn)) = true)
    (w : World) :
    Calls Try.prog 13 #[.int .i64 way, .int .u32 a, .int .u32 b, .int .u32 c] w fun e w' => e = .returned (.int .u32 (Flt.signBit (decide (way = 2)))) ∧ Below w.heap.size w w' := by
  have HM := hide M
  have HA := hide hsa
  have HB := hide hsb
  have HC := hide hsc
  clear M hsa hsb hsc
  go_enter Try.func13, Try.ntmps13
  go_wp2_with fail
  refine (unhide HM _).mono ?_
  rintro e w1 ⟨rfl, hb1⟩
  go_wp2_with (first | (go_at_call 20; refine (nan_any _ (by assumption) (by assumption) _).mono ?_; rintro e w' ⟨rfl, rfl⟩) | (go_at_call 21; refine (inf_any _ (by assumption) (by assumption) _).mono ?_; rintro e w' ⟨rfl, rfl⟩))
  have HB1 := hide hb1
  clear hb1
  refine (unhide HA _).mono ?_
  rintro e w2 ⟨rfl, hb2⟩
  have HB2 := hide (bl_tr (unhide HB1) hb2)
  clear hb2
  go_wp2_with fail
  refine (unhide HB _).mono ?_
  rintro e w3 ⟨rfl, hb3⟩
  have HB3 := hide (bl_tr (unhide HB2) hb3)
  clear hb3
  go_wp2_with fail
  refine (unhide HC _).mono ?_
  rintro e w4 ⟨rfl, hb4⟩
  have HB4 := hide (bl_tr (unhide HB3) hb4)
  clear hb4 HB1 HB2 HB3
  go_wp2_with fail
  refine (cnought_any way _).mono ?_
  rintro e w5 ⟨rfl, rfl⟩
  go_wp2_with fail
  go_ret
  exact ⟨rfl, bl_tr (unhide HB4) (((((Below.refl w4.heap.size w4).alloc (Nat.le_refl _) _).alloc (by simp) _).alloc (by simp; omega) _).alloc (by simp; omega) _)⟩

set_option maxRecDepth 100000 in
set_option maxHeartbeats 1000000 in
theorem cfma_z2 (way a b c p xe xs ye ys ze zs P : Int) (xn yn zn pn : Bool) (h0 : 0 ≤ a) (h1 : a < 4294967296) (g0 : 0 ≤ b) (g1 : b < 4294967296) (k0 : 0 ≤ c) (k1 : c < 4294967296) (p0 : 0 ≤ p) (p1 : p < 4294967296)
    (M : ∀ w, Calls Try.prog 15 #[.int .i64 way, .int .u32 a, .int .u32 b] w fun e w' => e = .returned (.int .u32 p) ∧ Below w.heap.size w w')
    (ep : Flt.isNaN p = false) (ec : Flt.isNaN c = false) (ia : Flt.isInf a = false) (ib : Flt.isInf b = false) (ic : Flt.isInf c = false)
    (hsa : ∀ w, Calls Try.prog 38 #[.int .u32 a] w fun e w' => e = .returned (.agg #[.bool xn, .int .i64 xe, .int .u64 xs]) ∧ Below w.heap.size w w')
    (hsb : ∀ w, Calls Try.prog 38 #[.int .u32 b] w fun e w' => e = .returned (.agg #[.bool yn, .int .i64 ye, .int .u64 ys]) ∧ Below w.heap.size w w')
    (hsc : ∀ w, Calls Try.prog 38 #[.int .u32 c] w fun e w' => e = .returned (.agg #[.bool zn, .int .i64 ze, .int .u64 zs]) ∧ Below w.heap.size w w')
    (xe0 : -149 ≤ xe) (xe1 : xe ≤ 105) (ye0 : -149 ≤ ye) (ye1 : ye ≤ 105) (hP : IntKind.u64.wrap (xs * ys) = P) (hpn : (!(xn == yn)) = pn)
    (hP0 : (P == 0) = true) (hz0 : (zs == 0) = true) (hqn : (!(pn == zn)) = false)
    (w : World) :
    Calls Try.prog 13 #[.int .i64 way, .int .u32 a, .int .u32 b, .int .u32 c] w fun e w' => e = .returned (.int .u32 c) ∧ Below w.heap.size w w' := by
  have HM := hide M
  have HA := hide hsa
  have HB := hide hsb
  have HC := hide hsc
  clear M hsa hsb hsc
  go_enter Try.func13, Try.ntmps13
  go_wp2_with fail
  refine (unhide HM _).mono ?_
  rintro e w1 ⟨rfl, hb1⟩
  go_wp2_with (first | (go_at_call 20; refine (nan_any _ (by assumption) (by assumption) _).mono ?_; rintro e w' ⟨rfl, rfl⟩) | (go_at_call 21; refine (inf_any _ (by assumption) (by assumption) _).mono ?_; rintro e w' ⟨rfl, rfl⟩))
  have HB1 := hide hb1
  clear hb1
  refine (unhide HA _).mono ?_
  rintro e w2 ⟨rfl, hb2⟩
  have HB2 := hide (bl_tr (unhide HB1) hb2)
  clear hb2
  go_wp2_with fail
  refine (unhide HB _).mono ?_
  rintro e w3 ⟨rfl, hb3⟩
  have HB3 := hide (bl_tr (unhide HB2) hb3)
  clear hb3
  go_wp2_with fail
  refine (unhide HC _).mono ?_
  rintro e w4 ⟨rfl, hb4⟩
  have HB4 := hide (bl_tr (unhide HB3) hb4)
  clear hb4 HB1 HB2 HB3
  go_wp2_with fail
  go_ret
  exact ⟨rfl, bl_tr (unhide HB4) (((((Below.refl w4.heap.size w4).alloc (Nat.le_refl _) _).alloc (by simp) _).alloc (by simp; omega) _).alloc (by simp; omega) _)⟩

set_option maxRecDepth 100000 in
set_option maxHeartbeats 1000000 in
theorem cfma_z3 (way a b c p xe xs ye ys ze zs P : Int) (xn yn zn pn : Bool) (h0 : 0 ≤ a) (h1 : a < 4294967296) (g0 : 0 ≤ b) (g1 : b < 4294967296) (k0 : 0 ≤ c) (k1 : c < 4294967296) (p0 : 0 ≤ p) (p1 : p < 4294967296)
    (M : ∀ w, Calls Try.prog 15 #[.int .i64 way, .int .u32 a, .int .u32 b] w fun e w' => e = .returned (.int .u32 p) ∧ Below w.heap.size w w')
    (ep : Flt.isNaN p = false) (ec : Flt.isNaN c = false) (ia : Flt.isInf a = false) (ib : Flt.isInf b = false) (ic : Flt.isInf c = false)
    (hsa : ∀ w, Calls Try.prog 38 #[.int .u32 a] w fun e w' => e = .returned (.agg #[.bool xn, .int .i64 xe, .int .u64 xs]) ∧ Below w.heap.size w w')
    (hsb : ∀ w, Calls Try.prog 38 #[.int .u32 b] w fun e w' => e = .returned (.agg #[.bool yn, .int .i64 ye, .int .u64 ys]) ∧ Below w.heap.size w w')
    (hsc : ∀ w, Calls Try.prog 38 #[.int .u32 c] w fun e w' => e = .returned (.agg #[.bool zn, .int .i64 ze, .int .u64 zs]) ∧ Below w.heap.size w w')
    (xe0 : -149 ≤ xe) (xe1 : xe ≤ 105) (ye0 : -149 ≤ ye) (ye1 : ye ≤ 105) (hP : IntKind.u64.wrap (xs * ys) = P) (hpn : (!(xn == yn)) = pn)
    (hP0 : (P == 0) = true) (hz0 : (zs == 0) = false)
    (w : World) :
    Calls Try.prog 13 #[.int .i64 way, .int .u32 a, .int .u32 b, .int .u32 c] w fun e w' => e = .returned (.int .u32 c) ∧ Below w.heap.size w w' := by
  have HM := hide M
  have HA := hide hsa
  have HB := hide hsb
  have HC := hide hsc
  clear M hsa hsb hsc
  go_enter Try.func13, Try.ntmps13
  go_wp2_with fail
  refine (unhide HM _).mono ?_
  rintro e w1 ⟨rfl, hb1⟩
  go_wp2_with (first | (go_at_call 20; refine (nan_any _ (by assumption) (by assumption) _).mono ?_; rintro e w' ⟨rfl, rfl⟩) | (go_at_call 21; refine (inf_any _ (by assumption) (by assumption) _).mono ?_; rintro e w' ⟨rfl, rfl⟩))
  have HB1 := hide hb1
  clear hb1
  refine (unhide HA _).mono ?_
  rintro e w2 ⟨rfl, hb2⟩
  have HB2 := hide (bl_tr (unhide HB1) hb2)
  clear hb2
  go_wp2_with fail
  refine (unhide HB _).mono ?_
  rintro e w3 ⟨rfl, hb3⟩
  have HB3 := hide (bl_tr (unhide HB2) hb3)
  clear hb3
  go_wp2_with fail
  refine (unhide HC _).mono ?_
  rintro e w4 ⟨rfl, hb4⟩
  have HB4 := hide (bl_tr (unhide HB3) hb4)
  clear hb4 HB1 HB2 HB3
  go_wp2_with fail
  go_ret
  exact ⟨rfl, bl_tr (unhide HB4) (((((Below.refl w4.heap.size w4).alloc (Nat.le_refl _) _).alloc (by simp) _).alloc (by simp; omega) _).alloc (by simp; omega) _)⟩

set_option maxRecDepth 100000 in
set_option maxHeartbeats 1000000 in
theorem cfma_z4 (way a b c p xe xs ye ys ze zs P : Int) (xn yn zn pn : Bool) (h0 : 0 ≤ a) (h1 : a < 4294967296) (g0 : 0 ≤ b) (g1 : b < 4294967296) (k0 : 0 ≤ c) (k1 : c < 4294967296) (p0 : 0 ≤ p) (p1 : p < 4294967296)
    (M : ∀ w, Calls Try.prog 15 #[.int .i64 way, .int .u32 a, .int .u32 b] w fun e w' => e = .returned (.int .u32 p) ∧ Below w.heap.size w w')
    (ep : Flt.isNaN p = false) (ec : Flt.isNaN c = false) (ia : Flt.isInf a = false) (ib : Flt.isInf b = false) (ic : Flt.isInf c = false)
    (hsa : ∀ w, Calls Try.prog 38 #[.int .u32 a] w fun e w' => e = .returned (.agg #[.bool xn, .int .i64 xe, .int .u64 xs]) ∧ Below w.heap.size w w')
    (hsb : ∀ w, Calls Try.prog 38 #[.int .u32 b] w fun e w' => e = .returned (.agg #[.bool yn, .int .i64 ye, .int .u64 ys]) ∧ Below w.heap.size w w')
    (hsc : ∀ w, Calls Try.prog 38 #[.int .u32 c] w fun e w' => e = .returned (.agg #[.bool zn, .int .i64 ze, .int .u64 zs]) ∧ Below w.heap.size w w')
    (xe0 : -149 ≤ xe) (xe1 : xe ≤ 105) (ye0 : -149 ≤ ye) (ye1 : ye ≤ 105) (hP : IntKind.u64.wrap (xs * ys) = P) (hpn : (!(xn == yn)) = pn)
    (hP0 : (P == 0) = false) (hz0 : (zs == 0) = true)
    (w : World) :
    Calls Try.prog 13 #[.int .i64 way, .int .u32 a, .int .u32 b, .int .u32 c] w fun e w' => e = .returned (.int .u32 p) ∧ Below w.heap.size w w' := by
  have HM := hide M
  have HA := hide hsa
  have HB := hide hsb
  have HC := hide hsc
  clear M hsa hsb hsc
  go_enter Try.func13, Try.ntmps13
  go_wp2_with fail
  refine (unhide HM _).mono ?_
  rintro e w1 ⟨rfl, hb1⟩
  go_wp2_with (first | (go_at_call 20; refine (nan_any _ (by assumption) (by assumption) _).mono ?_; rintro e w' ⟨rfl, rfl⟩) | (go_at_call 21; refine (inf_any _ (by assumption) (by assumption) _).mono ?_; rintro e w' ⟨rfl, rfl⟩))
  have HB1 := hide hb1
  clear hb1
  refine (unhide HA _).mono ?_
  rintro e w2 ⟨rfl, hb2⟩
  have HB2 := hide (bl_tr (unhide HB1) hb2)
  clear hb2
  go_wp2_with fail
  refine (unhide HB _).mono ?_
  rintro e w3 ⟨rfl, hb3⟩
  have HB3 := hide (bl_tr (unhide HB2) hb3)
  clear hb3
  go_wp2_with fail
  refine (unhide HC _).mono ?_
  rintro e w4 ⟨rfl, hb4⟩
  have HB4 := hide (bl_tr (unhide HB3) hb4)
  clear hb4 HB1 HB2 HB3
  go_wp2_with fail
  go_ret
  exact ⟨rfl, bl_tr (unhide HB4) (((((Below.refl w4.heap.size w4).alloc (Nat.le_refl _) _).alloc (by simp) _).alloc (by simp; omega) _).alloc (by simp; omega) _)⟩

set_option maxRecDepth 100000 in
set_option maxHeartbeats 1000000 in
theorem cfma_z5 (way a b c p xe xs ye ys ze zs P : Int) (xn yn zn pn : Bool) (h0 : 0 ≤ a) (h1 : a < 4294967296) (g0 : 0 ≤ b) (g1 : b < 4294967296) (k0 : 0 ≤ c) (k1 : c < 4294967296) (p0 : 0 ≤ p) (p1 : p < 4294967296)
    (M : ∀ w, Calls Try.prog 15 #[.int .i64 way, .int .u32 a, .int .u32 b] w fun e w' => e = .returned (.int .u32 p) ∧ Below w.heap.size w w')
    (ep : Flt.isNaN p = false) (ec : Flt.isNaN c = false) (ia : Flt.isInf a = false) (ib : Flt.isInf b = false) (ic : Flt.isInf c = false)
    (hsa : ∀ w, Calls Try.prog 38 #[.int .u32 a] w fun e w' => e = .returned (.agg #[.bool xn, .int .i64 xe, .int .u64 xs]) ∧ Below w.heap.size w w')
    (hsb : ∀ w, Calls Try.prog 38 #[.int .u32 b] w fun e w' => e = .returned (.agg #[.bool yn, .int .i64 ye, .int .u64 ys]) ∧ Below w.heap.size w w')
    (hsc : ∀ w, Calls Try.prog 38 #[.int .u32 c] w fun e w' => e = .returned (.agg #[.bool zn, .int .i64 ze, .int .u64 zs]) ∧ Below w.heap.size w w')
    (xe0 : -149 ≤ xe) (xe1 : xe ≤ 105) (ye0 : -149 ≤ ye) (ye1 : ye ≤ 105) (hP : IntKind.u64.wrap (xs * ys) = P) (hpn : (!(xn == yn)) = pn)
    (hP0 : (P == 0) = false) (hz0 : (zs == 0) = false) (te ts ue us res : Int)
    (ht : ∀ w, Calls Try.prog 41 #[.agg #[.bool pn, .int .i64 (xe + ye), .int .u64 P]] w fun e w' => e = .returned (.agg #[.bool pn, .int .i64 te, .int .u64 ts]) ∧ Below w.heap.size w w')
    (hu : ∀ w, Calls Try.prog 41 #[.agg #[.bool zn, .int .i64 ze, .int .u64 zs]] w fun e w' => e = .returned (.agg #[.bool zn, .int .i64 ue, .int .u64 us]) ∧ Below w.heap.size w w')
    (hsum : ∀ w, Calls Try.prog 40 #[.int .i64 way, .agg #[.bool pn, .int .i64 te, .int .u64 ts], .agg #[.bool zn, .int .i64 ue, .int .u64 us]] w fun e w' => e = .returned (.int .u32 res) ∧ Below w.heap.size w w')
    (w : World) :
    Calls Try.prog 13 #[.int .i64 way, .int .u32 a, .int .u32 b, .int .u32 c] w fun e w' => e = .returned (.int .u32 res) ∧ Below w.heap.size w w' := by
  have HM := hide M
  have HA := hide hsa
  have HB := hide hsb
  have HC := hide hsc
  clear M hsa hsb hsc
  have HT := hide ht
  have HU := hide hu
  have HS := hide hsum
  clear ht hu hsum
  go_enter Try.func13, Try.ntmps13
  go_wp2_with fail
  refine (unhide HM _).mono ?_
  rintro e w1 ⟨rfl, hb1⟩
  go_wp2_with (first | (go_at_call 20; refine (nan_any _ (by assumption) (by assumption) _).mono ?_; rintro e w' ⟨rfl, rfl⟩) | (go_at_call 21; refine (inf_any _ (by assumption) (by assumption) _).mono ?_; rintro e w' ⟨rfl, rfl⟩))
  have HB1 := hide hb1
  clear hb1
  refine (unhide HA _).mono ?_
  rintro e w2 ⟨rfl, hb2⟩
  have HB2 := hide (bl_tr (unhide HB1) hb2)
  clear hb2
  go_wp2_with fail
  refine (unhide HB _).mono ?_
  rintro e w3 ⟨rfl, hb3⟩
  have HB3 := hide (bl_tr (unhide HB2) hb3)
  clear hb3
  go_wp2_with fail
  refine (unhide HC _).mono ?_
  rintro e w4 ⟨rfl, hb4⟩
  have HB4 := hide (bl_tr (unhide HB3) hb4)
  clear hb4 HB1 HB2 HB3
  go_wp2_with fail
  refine wp_region_below (by kernel_rfl) (by kernel_rfl) ?_
  intro T f hne hfb hfc
  obtain ⟨q1, q2, q3⟩ := qcells4 hfb
  have c1 : ∀ x, (f x).cell? ⟨w4.heap.size + 1 + 1, 0, none⟩ = some (.bool zn) := fun x => q1 x 0
  have c2 : ∀ x, (f x).cell? ⟨w4.heap.size + 1 + 1, 1, none⟩ = some (.int .i64 ze) := fun x => q1 x 1
  have c3 : ∀ x, (f x).cell? ⟨w4.heap.size + 1 + 1, 2, none⟩ = some (.int .u64 zs) := fun x => q1 x 2
  have c4 : ∀ x, (f x).cell? ⟨w4.heap.size + 1 + 1 + 1, 0, none⟩ = some (.bool pn) := fun x => q2 x 0
  have c5 : ∀ x, (f x).cell? ⟨w4.heap.size + 1 + 1 + 1, 1, none⟩ = some (.int .i64 (xe + ye)) := fun x => q2 x 1
  have c6 : ∀ x, (f x).cell? ⟨w4.heap.size + 1 + 1 + 1, 2, none⟩ = some (.int .u64 P) := fun x => q2 x 2
  have HF := hide (fun x => bl_tr (unhide HB4) (q3 x))
  have HFB := hide hfb
  have HFC := hide hfc
  clear hfb hfc q1 q2 q3
  repeat (go_big_quiet_step (first | (go_at_call_of 41 P; exact calls_qb (unhide HFB) (unhide HFC) (unhide HT _)) | (go_at_call_of 41 zs; exact calls_qb (unhide HFB) (unhide HFC) (unhide HU _)) | (go_at_call 40; exact calls_qb (unhide HFB) (unhide HFC) (unhide HS _))))
  refine wpQuiet_nil ?_
  intro x
  go_wp2_with fail
  go_ret
  exact ⟨rfl, unhide HF x⟩

theorem lz_top (s : Int) (S : Nat) (h : s = (S : Int)) (h0 : 1 ≤ S) (h1 : S < 2 ^ 63) : Flt.lz s = 64 - (bitLen S : Int) ∧ s * 2 ^ ((64 - (bitLen S : Int)) - 1).toNat = ((Flt.topS S : Nat) : Int) := by
  obtain ⟨_, _, r1, r2⟩ := Flt.top_range S h0 h1
  subst h
  refine ⟨by unfold Flt.lz; rw [Int.toNat_natCast], ?_⟩
  unfold Flt.topS
  rw [show (64 - (bitLen S : Int) - 1).toNat = 63 - bitLen S by omega, Flt.pow_cast, ← Int.natCast_mul]
theorem topped_nat (n : Bool) (exp s : Int) (S : Nat) (h : s = (S : Int)) (h0 : 1 ≤ S) (h1 : S < 2 ^ 63) (e0 : -1000 ≤ exp) (e1 : exp ≤ 1000) (w : World) :
    Calls Try.prog 41 #[.agg #[.bool n, .int .i64 exp, .int .u64 s]] w fun e w' => e = .returned (.agg #[.bool n, .int .i64 (Flt.topE exp S), .int .u64 ((Flt.topS S : Nat) : Int)]) ∧ Below w.heap.size w w' := by
  obtain ⟨l1, l2⟩ := lz_top s S h h0 h1
  have n63 : (2 : Nat) ^ 63 = 9223372036854775808 := by decide
  have := topped_any n exp s _ _ (by omega) (by omega) e0 e1 l1 l2 w
  rw [show exp - (64 - (bitLen S : Int) - 1) = Flt.topE exp S by unfold Flt.topE; omega] at this
  exact this

theorem cfmaBy_any (way a b c : Int) (h0 : 0 ≤ a) (h1 : a < 4294967296) (g0 : 0 ≤ b) (g1 : b < 4294967296) (k0 : 0 ≤ c) (k1 : c < 4294967296) (w : World) :
    Calls Try.prog 13 #[.int .i64 way, .int .u32 a, .int .u32 b, .int .u32 c] w fun e w' => e = .returned (.int .u32 (Flt.fmaC way a b c)) ∧ Below w.heap.size w w' := by
  obtain ⟨q0, q1, _⟩ := Flt.mulBy_good way a b h0 g0
  have M := fun w => mulBy_any way a b h0 h1 g0 g1 w
  by_cases hx : (Flt.isNaN (Flt.mulBy way a b) || Flt.isNaN c || Flt.isInf a || Flt.isInf b || Flt.isInf c) = true
  · have := cfma_x way a b c _ h0 h1 g0 g1 k0 k1 q0 q1 M hx w
    have e : Flt.fmaC way a b c = (if (Flt.isNaN (Flt.mulBy way a b) || Flt.isNaN c) = true then 2143289344
      else if ((Flt.isInf a || Flt.isInf b) && Flt.isInf c && (c != Flt.mulBy way a b)) = true then 2143289344
      else if (Flt.isInf a || Flt.isInf b) = true then Flt.mulBy way a b else c) := by
      unfold Flt.fmaC
      split
      · rfl
      · split
        · rfl
        · split
          · rfl
          · rw [if_pos (by simp_all)]
    rw [e]; exact this
  · have hx' : (Flt.isNaN (Flt.mulBy way a b) || Flt.isNaN c || Flt.isInf a || Flt.isInf b || Flt.isInf c) = false := by simpa using hx
    simp only [Bool.or_eq_false_iff] at hx'
    obtain ⟨⟨⟨⟨ep, ec⟩, ia⟩, ib⟩, ic⟩ := hx'
    obtain ⟨s0, s1⟩ := Flt.sig_range a
    obtain ⟨t0, t1⟩ := Flt.sig_range b
    obtain ⟨u0, u1⟩ := Flt.sig_range c
    obtain ⟨e0, e1⟩ := Flt.expo_range a
    obtain ⟨f0, f1⟩ := Flt.expo_range b
    obtain ⟨i0, i1⟩ := Flt.expo_range c
    have pp0 : 0 ≤ Flt.sig a * Flt.sig b := Int.mul_nonneg s0 t0
    have pp1 : Flt.sig a * Flt.sig b ≤ 16777216 * 16777216 := Int.mul_le_mul (by omega) (by omega) t0 (by omega)
    have hP : IntKind.u64.wrap (Flt.sig a * Flt.sig b) = Flt.sig a * Flt.sig b := wrap_u64_in _ pp0 (by omega)
    have hpn : (!(Flt.sgn a == Flt.sgn b)) = (Flt.sgn a != Flt.sgn b) := rfl
    have hsa := fun w => csplit_any a h0 h1 w
    have hsb := fun w => csplit_any b g0 g1 w
    have hsc := fun w => csplit_any c k0 k1 w
    have hF : Flt.fmaC way a b c = (if Flt.sig a * Flt.sig b = 0 ∧ Flt.sig c = 0 ∧ (Flt.sgn a != Flt.sgn b) ≠ Flt.sgn c then Flt.signBit (decide (way = 2))
      else if Flt.sig a * Flt.sig b = 0 then c
      else if Flt.sig c = 0 then Flt.mulBy way a b
      else Flt.sumV way (Flt.sgn a != Flt.sgn b) (Flt.topE (Flt.expo a + Flt.expo b) (Flt.sig a * Flt.sig b).toNat) (Flt.topS (Flt.sig a * Flt.sig b).toNat) (Flt.sgn c) (Flt.topE (Flt.expo c) (Flt.sig c).toNat) (Flt.topS (Flt.sig c).toNat)) := by
      unfold Flt.fmaC
      simp only [ep, ec, ia, ib, ic, Bool.or_false, Bool.and_false, Bool.false_and, Bool.false_eq_true, if_false]
    rw [hF]
    by_cases hP0 : Flt.sig a * Flt.sig b = 0
    · have bP0 : (Flt.sig a * Flt.sig b == 0) = true := by rw [beq_iff_eq]; exact hP0
      by_cases hz0 : Flt.sig c = 0
      · have bz0 : (Flt.sig c == 0) = true := by rw [beq_iff_eq]; exact hz0
        by_cases hq : (Flt.sgn a != Flt.sgn b) = Flt.sgn c
        · rw [if_neg (fun h => h.2.2 hq), if_pos hP0]
          exact cfma_z2 way a b c _ _ _ _ _ _ _ _ _ _ _ _ h0 h1 g0 g1 k0 k1 q0 q1 M ep ec ia ib ic hsa hsb hsc e0 e1 f0 f1 hP hpn bP0 bz0 (by rw [hq]; simp) w
        · rw [if_pos ⟨hP0, hz0, hq⟩]
          exact cfma_z1 way a b c _ _ _ _ _ _ _ _ _ _ _ _ h0 h1 g0 g1 k0 k1 q0 q1 M ep ec ia ib ic hsa hsb hsc e0 e1 f0 f1 hP hpn bP0 bz0 (by rw [eq_ff hq]; rfl) w
      · have bz0 : (Flt.sig c == 0) = false := by rw [beq_eq_false_iff_ne]; exact hz0
        rw [if_neg (fun h => hz0 h.2.1), if_pos hP0]
        exact cfma_z3 way a b c _ _ _ _ _ _ _ _ _ _ _ _ h0 h1 g0 g1 k0 k1 q0 q1 M ep ec ia ib ic hsa hsb hsc e0 e1 f0 f1 hP hpn bP0 bz0 w
    · have bP0 : (Flt.sig a * Flt.sig b == 0) = false := by rw [beq_eq_false_iff_ne]; exact hP0
      rw [if_neg (fun h => hP0 h.1), if_neg hP0]
      by_cases hz0 : Flt.sig c = 0
      · have bz0 : (Flt.sig c == 0) = true := by rw [beq_iff_eq]; exact hz0
        rw [if_pos hz0]
        exact cfma_z4 way a b c _ _ _ _ _ _ _ _ _ _ _ _ h0 h1 g0 g1 k0 k1 q0 q1 M ep ec ia ib ic hsa hsb hsc e0 e1 f0 f1 hP hpn bP0 bz0 w
      · have bz0 : (Flt.sig c == 0) = false := by rw [beq_eq_false_iff_ne]; exact hz0
        rw [if_neg hz0]
        have n63 : (2 : Nat) ^ 63 = 9223372036854775808 := by decide
        have r1 : 1 ≤ (Flt.sig a * Flt.sig b).toNat := by omega
        have r2 : (Flt.sig a * Flt.sig b).toNat < 2 ^ 63 := by omega
        have r3 : 1 ≤ (Flt.sig c).toNat := by omega
        have r4 : (Flt.sig c).toNat < 2 ^ 63 := by omega
        obtain ⟨v1, v2, v3, v4⟩ := Flt.top_range _ r1 r2
        obtain ⟨x1, x2, x3, x4⟩ := Flt.top_range _ r3 r4
        exact cfma_z5 way a b c _ _ _ _ _ _ _ _ _ _ _ _ h0 h1 g0 g1 k0 k1 q0 q1 M ep ec ia ib ic hsa hsb hsc e0 e1 f0 f1 hP hpn bP0 bz0 _ _ _ _ _
          (fun w => topped_nat _ _ _ _ (by omega) r1 r2 (by omega) (by omega) w)
          (fun w => topped_nat _ _ _ _ (by omega) r3 r4 (by omega) (by omega) w)
          (fun w => csum_any way _ _ _ _ _ _ v1 v2 x1 x2 (by unfold Flt.topE; omega) (by unfold Flt.topE; omega) (by unfold Flt.topE; omega) (by unfold Flt.topE; omega) w) w

theorem cfma_any (a b c : Int) (h0 : 0 ≤ a) (h1 : a < 4294967296) (g0 : 0 ≤ b) (g1 : b < 4294967296) (k0 : 0 ≤ c) (k1 : c < 4294967296) (w : World) :
    Calls Try.prog 26 #[.int .u32 a, .int .u32 b, .int .u32 c] w fun e w' => e = .returned (.int .u32 (Flt.fmaC 0 a b c)) ∧ Below w.heap.size w w' := by
  go_enter Try.func26, Try.ntmps26
  go_wp2_with fail
  refine (cfmaBy_any 0 a b c h0 h1 g0 g1 k0 k1 _).mono ?_
  rintro e w1 ⟨rfl, hb1⟩
  go_wp2_with fail
  go_ret
  exact ⟨ret_int rfl, hb1⟩
end Go.Proofs.Ytkbniebahledmaa
