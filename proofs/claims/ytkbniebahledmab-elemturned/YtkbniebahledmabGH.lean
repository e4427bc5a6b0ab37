import Derived.Test.YtkbniebahledmabGG
import Derived.Test.YtkbniebahledmabGA
import Derived.Test.YtkbniebahledmabGF

/-
  The walk of package round's FmaBy and Fma.
-/
namespace Go.Proofs.Ytkbniebahledmab
open Go.RowKit
set_option linter.unusedVariables false
set_option linter.unusedSimpArgs false

set_option maxRecDepth 100000 in
set_option maxHeartbeats 1000000 in
theorem cfma_x (way a b c p : Int) (h0 : 0 ≤ a) (h1 : a < 4294967296) (g0 : 0 ≤ b) (g1 : b < 4294967296) (k0 : 0 ≤ c) (k1 : c < 4294967296) (p0 : 0 ≤ p) (p1 : p < 4294967296)
    (M : ∀ w, Calls Try.prog 51 #[.int .i64 way, .int .u32 a, .int .u32 b] w fun e w' => e = .returned (.int .u32 p) ∧ Below w.heap.size w w')
    (hx : (Flt.isNaN p || Flt.isNaN c || Flt.isInf a || Flt.isInf b || Flt.isInf c) = true) (w : World) :
    Calls Try.prog 54 #[.int .i64 way, .int .u32 a, .int .u32 b, .int .u32 c] w fun e w' => e = .returned (.int .u32 (
      if (Flt.isNaN p || Flt.isNaN c) = true then 2143289344
      else if ((Flt.isInf a || Flt.isInf b) && Flt.isInf c && (c != p)) = true then 2143289344
      else if (Flt.isInf a || Flt.isInf b) = true then p
      else c)) ∧ Below w.heap.size w w' := by
  have HM := hide M
  clear M
  cases ep : Flt.isNaN p <;> cases ec : Flt.isNaN c <;> cases ia : Flt.isInf a <;> cases ib : Flt.isInf b <;> cases ic : Flt.isInf c <;> rw [ep, ec, ia, ib, ic] at hx <;> first | (exfalso; revert hx; decide) | skip
  all_goals clear hx
  all_goals cases hcp : (c != p)
  all_goals simp only [Bool.or_false, Bool.or_true, Bool.true_or, Bool.false_or, Bool.and_true, Bool.true_and, Bool.and_false, Bool.false_and, Bool.false_eq_true, if_true, if_false, Bool.or_self, Bool.and_self]
  all_goals
    go_enter Try.func54, Try.ntmps54
    go_wp2_with fail
    refine (unhide HM _).mono ?_
    rintro e w1 ⟨rfl, hb1⟩
    go_wp2_with (first | (go_at_call 22; refine (nan_any _ (by assumption) (by assumption) _).mono ?_; rintro e w' ⟨rfl, rfl⟩) | (go_at_call 39; refine (inf_any _ (by assumption) (by assumption) _).mono ?_; rintro e w' ⟨rfl, rfl⟩))
    go_ret
    exact ⟨rfl, hb1⟩

-- FINITE
theorem qcells4 {T : Type} {f : T → World} {w : World} {o1 o2 o3 o4 : Array Value} {t1 t2 t3 t4 : TypeId}
    (hfb : ∀ x, Below ((((w.alloc (.cells o1 t1)).alloc (.cells o2 t2)).alloc (.cells o3 t3)).alloc (.cells o4 t4)).heap.size ((((w.alloc (.cells o1 t1)).alloc (.cells o2 t2)).alloc (.cells o3 t3)).alloc (.cells o4 t4)) (f x)) :
    (∀ x i, (f x).cell? ⟨w.heap.size + 1 + 1, i, none⟩ = o3[i]?) ∧ (∀ x i, (f x).cell? ⟨w.heap.size + 1 + 1 + 1, i, none⟩ = o4[i]?) ∧ (∀ x, Below w.heap.size w (f x)) := by
  refine ⟨fun x i => ?_, fun x i => ?_, fun x => ?_⟩
  · rw [(hfb x).cell (p := ⟨w.heap.size + 1 + 1, i, none⟩) (by simp only [World.size_alloc]; omega), World.cell?_alloc_past _ _ _ (by simp only [World.size_alloc]; omega), World.cell?_alloc_at _ _ _ _ (by simp only [World.size_alloc])]
  · rw [(hfb x).cell (p := ⟨w.heap.size + 1 + 1 + 1, i, none⟩) (by simp only [World.size_alloc]; omega), World.cell?_alloc_at _ _ _ _ (by simp only [World.size_alloc])]
  · exact (((((Below.refl _ _).alloc (Nat.le_refl _) _).alloc (by simp) _).alloc (by simp; omega) _).alloc (by simp; omega) _).trans ((hfb x).mono (by simp only [World.size_alloc]; omega))

set_option maxRecDepth 100000 in
set_option maxHeartbeats 1000000 in
theorem cfma_z1 (way a b c p xe xs ye ys ze zs P : Int) (xn yn zn pn : Bool) (h0 : 0 ≤ a) (h1 : a < 4294967296) (g0 : 0 ≤ b) (g1 : b < 4294967296) (k0 : 0 ≤ c) (k1 : c < 4294967296) (p0 : 0 ≤ p) (p1 : p < 4294967296)
    (M : ∀ w, Calls Try.prog 51 #[.int .i64 way, .int .u32 a, .int .u32 b] w fun e w' => e = .returned (.int .u32 p) ∧ Below w.heap.size w w')
    (ep : Flt.isNaN p = false) (ec : Flt.isNaN c = false) (ia : Flt.isInf a = false) (ib : Flt.isInf b = false) (ic : Flt.isInf c = false)
    (hsa : ∀ w, Calls Try.prog 58 #[.int .u32 a] w fun e w' => e = .returned (.agg #[.bool xn, .int .i64 xe, .int .u64 xs]) ∧ Below w.heap.size w w')
    (hsb : ∀ w, Calls Try.prog 58 #[.int .u32 b] w fun e w' => e = .returned (.agg #[.bool yn, .int .i64 ye, .int .u64 ys]) ∧ Below w.heap.size w w')
    (hsc : ∀ w, Calls Try.prog 58 #[.int .u32 c] w fun e w' => e = .returned (.agg #[.bool zn, .int .i64 ze, .int .u64 zs]) ∧ Below w.heap.size w w')
    (xe0 : -149 ≤ xe) (xe1 : xe ≤ 105) (ye0 : -149 ≤ ye) (ye1 : ye ≤ 105) (hP : IntKind.u64.wrap (xs * ys) = P) (hpn : (!(xn == yn)) = pn)
    (hP0 : (P == 0) = true) (hz0 : (zs == 0) = true) (hqn : (!(pn == zn)) = true)
    (w : World) :
    Calls Try.prog 54 #[.int .i64 way, .int .u32 a, .int .u32 b, .int .u32 c] w fun e w' => e = .returned (.int .u32 (Flt.signBit (decide (way = 2)))) ∧ Below w.heap.size w w' := by
  have HM := hide M
  have HA := hide hsa
  have HB := hide hsb
  have HC := hide hsc
  clear M hsa hsb hsc
  go_enter Try.func54, Try.ntmps54
  go_wp2_with fail
  refine (unhide HM _).mono ?_
  rintro e w1 ⟨rfl, hb1⟩
  go_wp2_with (first | (go_at_call 22; refine (nan_any _ (by assumption) (by assumption) _).mono ?_; rintro e w' ⟨rfl, rfl⟩) | (go_at_call 39; refine (inf_any _ (by assumption) (by assumption) _).mono ?_; rintro e w' ⟨rfl, rfl⟩))
  have HB1 := hide hb1
  clear hb1
  refine (unhide HA _).mono ?_
  rintro e w2 ⟨rfl, hb2⟩
  have HB2 := hide (bl_tr (unhide HB1) hb2)
  clear hb2
  go_wp2_with fail
  refine (unhide HB _).mono ?_
  rintro e w3 ⟨rfl, hb3⟩
  have HB3 := hide (bl_tr (unhide HB2) hb3)
  clear hb3
  go_wp2_with fail
  refine (unhide HC _).mono ?_
  rintro e w4 ⟨rfl, hb4⟩
  have HB4 := hide (bl_tr (unhide HB3) hb4)
  clear hb4 HB1 HB2 HB3
  go_wp2_with fail
  refine (cnought_any way _).mono ?_
  rintro e w5 ⟨rfl, rfl⟩
  go_wp2_with fail
  go_ret
  exact ⟨rfl, bl_tr (unhide HB4) (((((Below.refl w4.heap.size w4).alloc (Nat.le_refl _) _).alloc (by simp) _).alloc (by simp; omega) _).alloc (by simp; omega) _)⟩

set_option maxRecDepth 100000 in
set_option maxHeartbeats 1000000 in
theorem cfma_z2 (way a b c p xe xs ye ys ze zs P : Int) (xn yn zn pn : Bool) (h0 : 0 ≤ a) (h1 : a < 4294967296) (g0 : 0 ≤ b) (g1 : b < 4294967296) (k0 : 0 ≤ c) (k1 : c < 4294967296) (p0 : 0 ≤ p) (p1 : p < 4294967296)
    (M : ∀ w, Calls Try.prog 51 #[.int .i64 way, .int .u32 a, .int .u32 b] w fun e w' => e = .returned (.int .u32 p) ∧ Below w.heap.size w w')
    (ep : Flt.isNaN p = false) (ec : Flt.isNaN c = false) (ia : Flt.isInf a = false) (ib : Flt.isInf b = false) (ic : Flt.isInf c = false)
    (hsa : ∀ w, Calls Try.prog 58 #[.int .u32 a] w fun e w' => e = .returned (.agg #[.bool xn, .int .i64 xe, .int .u64 xs]) ∧ Below w.heap.size w w')
    (hsb : ∀ w, Calls Try.prog 58 #[.int .u32 b] w fun e w' => e = .returned (.agg #[.bool yn, .int .i64 ye, .int .u64 ys]) ∧ Below w.heap.size w w')
    (hsc : ∀ w, Calls Try.prog 58 #[.int .u32 c] w fun e w' => e = .returned (.agg #[.bool zn, .int .i64 ze, .int .u64 zs]) ∧ Below w.heap.size w w')
    (xe0 : -149 ≤ xe) (xe1 : xe ≤ 105) (ye0 : -149 ≤ ye) (ye1 : ye ≤ 105) (hP : IntKind.u64.wrap (xs * ys) = P) (hpn : (!(xn == yn)) = pn)
    (hP0 : (P == 0) = true) (hz0 : (zs == 0) = true) (hqn : (!(pn == zn)) = false)
    (w : World) :
    Calls Try.prog 54 #[.int .i64 way, .int .u32 a, .int .u32 b, .int .u32 c] w fun e w' => e = .returned (.int .u32 c) ∧ Below w.heap.size w w' := by
  have HM := hide M
  have HA := hide hsa
  have HB := hide hsb
  have HC := hide hsc
  clear M hsa hsb hsc
  go_enter Try.func54, Try.ntmps54
  go_wp2_with fail
  refine (unhide HM _).mono ?_
  rintro e w1 ⟨rfl, hb1⟩
  go_wp2_with (first | (go_at_call 22; refine (nan_any _ (by assumption) (by assumption) _).mono ?_; rintro e w' ⟨rfl, rfl⟩) | (go_at_call 39; refine (inf_any _ (by assumption) (by assumption) _).mono ?_; rintro e w' ⟨rfl, rfl⟩))
  have HB1 := hide hb1
  clear hb1
  refine (unhide HA _).mono ?_
  rintro e w2 ⟨rfl, hb2⟩
  have HB2 := hide (bl_tr (unhide HB1) hb2)
  clear hb2
  go_wp2_with fail
  refine (unhide HB _).mono ?_
  rintro e w3 ⟨rfl, hb3⟩
  have HB3 := hide (bl_tr (unhide HB2) hb3)
  clear hb3
  go_wp2_with fail
  refine (unhide HC _).mono ?_
  rintro e w4 ⟨rfl, hb4⟩
  have HB4 := hide (bl_tr (unhide HB3) hb4)
  clear hb4 HB1 HB2 HB3
  go_wp2_with fail
  go_ret
  exact ⟨rfl, bl_tr (unhide HB4) (((((Below.refl w4.heap.size w4).alloc (Nat.le_refl _) _).alloc (by simp) _).alloc (by simp; omega) _).alloc (by simp; omega) _)⟩

set_option maxRecDepth 100000 in
set_option maxHeartbeats 1000000 in
theorem cfma_z3 (way a b c p xe xs ye ys ze zs P : Int) (xn yn zn pn : Bool) (h0 : 0 ≤ a) (h1 : a < 4294967296) (g0 : 0 ≤ b) (g1 : b < 4294967296) (k0 : 0 ≤ c) (k1 : c < 4294967296) (p0 : 0 ≤ p) (p1 : p < 4294967296)
    (M : ∀ w, Calls Try.prog 51 #[.int .i64 way, .int .u32 a, .int .u32 b] w fun e w' => e = .returned (.int .u32 p) ∧ Below w.heap.size w w')
    (ep : Flt.isNaN p = false) (ec : Flt.isNaN c = false) (ia : Flt.isInf a = false) (ib : Flt.isInf b = false) (ic : Flt.isInf c = false)
    (hsa : ∀ w, Calls Try.prog 58 #[.int .u32 a] w fun e w' => e = .returned (.agg #[.bool xn, .int .i64 xe, .int .u64 xs]) ∧ Below w.heap.size w w')
    (hsb : ∀ w, Calls Try.prog 58 #[.int .u32 b] w fun e w' => e = .returned (.agg #[.bool yn, .int .i64 ye, .int .u64 ys]) ∧ Below w.heap.size w w')
    (hsc : ∀ w, Calls Try.prog 58 #[.int .u32 c] w fun e w' => e = .returned (.agg #[.bool zn, .int .i64 ze, .int .u64 zs]) ∧ Below w.heap.size w w')
    (xe0 : -149 ≤ xe) (xe1 : xe ≤ 105) (ye0 : -149 ≤ ye) (ye1 : ye ≤ 105) (hP : IntKind.u64.wrap (xs * ys) = P) (hpn : (!(xn == yn)) = pn)
    (hP0 : (P == 0) = true) (hz0 : (zs == 0) = false)
    (w : World) :
    Calls Try.prog 54 #[.int .i64 way, .int .u32 a, .int .u32 b, .int .u32 c] w fun e w' => e = .returned (.int .u32 c) ∧ Below w.heap.size w w' := by
  have HM := hide M
  have HA := hide hsa
  have HB := hide hsb
  have HC := hide hsc
  clear M hsa hsb hsc
  go_enter Try.func54, Try.ntmps54
  go_wp2_with fail
  refine (unhide HM _).mono ?_
  rintro e w1 ⟨rfl, hb1⟩
  go_wp2_with (first | (go_at_call 22; refine (nan_any _ (by assumption) (by assumption) _).mono ?_; rintro e w' ⟨rfl, rfl⟩) | (go_at_call 39; refine (inf_any _ (by assumption) (by assumption) _).mono ?_; rintro e w' ⟨rfl, rfl⟩))
  have HB1 := hide hb1
  clear hb1
  refine (unhide HA _).mono ?_
  rintro e w2 ⟨rfl, hb2⟩
  have HB2 := hide (bl_tr (unhide HB1) hb2)
  clear hb2
  go_wp2_with fail
  refine (unhide HB _).mono ?_
  rintro e w3 ⟨rfl, hb3⟩
  have HB3 := hide (bl_tr (unhide HB2) hb3)
  clear hb3
  go_wp2_with fail
  refine (unhide HC _).mono ?_
  rintro e w4 ⟨rfl, hb4⟩
  have HB4 := hide (bl_tr (unhide HB3) hb4)
  clear hb4 HB1 HB2 HB3
  go_wp2_with fail
  go_ret
  exact ⟨rfl, bl_tr (unhide HB4) (((((Below.refl w4.heap.size w4).alloc (Nat.le_refl _) _).alloc (by simp) _).alloc (by simp; omega) _).alloc (by simp; omega) _)⟩

set_option maxRecDepth 100000 in
set_option maxHeartbeats 1000000 in
theorem cfma_z4 (way a b c p xe xs ye ys ze zs P : Int) (xn yn zn pn : Bool) (h0 : 0 ≤ a) (h1 : a < 4294967296) (g0 : 0 ≤ b) (g1 : b < 4294967296) (k0 : 0 ≤ c) (k1 : c < 4294967296) (p0 : 0 ≤ p) (p1 : p < 4294967296)
    (M : ∀ w, Calls Try.prog 51 #[.int .i64 way, .int .u32 a, .int .u32 b] w fun e w' => e = .returned (.int .u32 p) ∧ Below w.heap.size w w')
    (ep : Flt.isNaN p = false) (ec : Flt.isNaN c = false) (ia : Flt.isInf a = false) (ib : Flt.isInf b = false) (ic : Flt.isInf c = false)
    (hsa : ∀ w, Calls Try.prog 58 #[.int .u32 a] w fun e w' => e = .returned (.agg #[.bool xn, .int .i64 xe, .int .u64 xs]) ∧ Below w.heap.size w w')
    (hsb : ∀ w, Calls Try.prog 58 #[.int .u32 b] w fun e w' => e = .returned (.agg #[.bool yn, .int .i64 ye, .int .u64 ys]) ∧ Below w.heap.size w w')
    (hsc : ∀ w, Calls Try.prog 58 #[.int .u32 c] w fun e w' => e = .returned (.agg #[.bool zn, .int .i64 ze, .int .u64 zs]) ∧ Below w.heap.size w w')
    (xe0 : -149 ≤ xe) (xe1 : xe ≤ 105) (ye0 : -149 ≤ ye) (ye1 : ye ≤ 105) (hP : IntKind.u64.wrap (xs * ys) = P) (hpn : (!(xn == yn)) = pn)
    (hP0 : (P == 0) = false) (hz0 : (zs == 0) = true)
    (w : World) :
    Calls Try.prog 54 #[.int .i64 way, .int .u32 a, .int .u32 b, .int .u32 c] w fun e w' => e = .returned (.int .u32 p) ∧ Below w.heap.size w w' := by
  have HM := hide M
  have HA := hide hsa
  have HB := hide hsb
  have HC := hide hsc
  clear M hsa hsb hsc
  go_enter Try.func54, Try.ntmps54
  go_wp2_with fail
  refine (unhide HM _).mono ?_
  rintro e w1 ⟨rfl, hb1⟩
  go_wp2_with (first | (go_at_call 22; refine (nan_any _ (by assumption) (by assumption) _).mono ?_; rintro e w' ⟨rfl, rfl⟩) | (go_at_call 39; refine (inf_any _ (by assumption) (by assumption) _).mono ?_; rintro e w' ⟨rfl, rfl⟩))
  have HB1 := hide hb1
  clear hb1
  refine (unhide HA _).mono ?_
  rintro e w2 ⟨rfl, hb2⟩
  have HB2 := hide (bl_tr (unhide HB1) hb2)
  clear hb2
  go_wp2_with fail
  refine (unhide HB _).mono ?_
  rintro e w3 ⟨rfl, hb3⟩
  have HB3 := hide (bl_tr (unhide HB2) hb3)
  clear hb3
  go_wp2_with fail
  refine (unhide HC _).mono ?_
  rintro e w4 ⟨rfl, hb4⟩
  have HB4 := hide (bl_tr (unhide HB3) hb4)
  clear hb4 HB1 HB2 HB3
  go_wp2_with fail
  go_ret
  exact ⟨rfl, bl_tr (unhide HB4) (((((Below.refl w4.heap.size w4).alloc (Nat.le_refl _) _).alloc (by simp) _).alloc (by simp; omega) _).alloc (by simp; omega) _)⟩

set_option maxRecDepth 100000 in
set_option maxHeartbeats 1000000 in
theorem cfma_z5 (way a b c p xe xs ye ys ze zs P : Int) (xn yn zn pn : Bool) (h0 : 0 ≤ a) (h1 : a < 4294967296) (g0 : 0 ≤ b) (g1 : b < 4294967296) (k0 : 0 ≤ c) (k1 : c < 4294967296) (p0 : 0 ≤ p) (p1 : p < 4294967296)
    (M : ∀ w, Calls Try.prog 51 #[.int .i64 way, .int .u32 a, .int .u32 b] w fun e w' => e = .returned (.int .u32 p) ∧ Below w.heap.size w w')
    (ep : Flt.isNaN p = false) (ec : Flt.isNaN c = false) (ia : Flt.isInf a = false) (ib : Flt.isInf b = false) (ic : Flt.isInf c = false)
    (hsa : ∀ w, Calls Try.prog 58 #[.int .u32 a] w fun e w' => e = .returned (.agg #[.bool xn, .int .i64 xe, .int .u64 xs]) ∧ Below w.heap.size w w')
    (hsb : ∀ w, Calls Try.prog 58 #[.int .u32 b] w fun e w' => e = .returned (.agg #[.bool yn, .int .i64 ye, .int .u64 ys]) ∧ Below w.heap.size w w')
    (hsc : ∀ w, Calls Try.prog 58 #[.int .u32 c] w fun e w' => e = .returned (.agg #[.bool zn, .int .i64 ze, .int .u64 zs]) ∧ Below w.heap.size w w')
    (xe0 : -149 ≤ xe) (xe1 : xe ≤ 105) (ye0 : -149 ≤ ye) (ye1 : ye ≤ 105) (hP : IntKind.u64.wrap (xs * ys) = P) (hpn : (!(xn == yn)) = pn)
    (hP0 : (P == 0) = false) (hz0 : (zs == 0) = false) (te ts ue us res : Int)
    (ht : ∀ w, Calls Try.prog 70 #[.agg #[.bool pn, .int .i64 (xe + ye), .int .u64 P]] w fun e w' => e = .returned (.agg #[.bool pn, .int .i64 te, .int .u64 ts]) ∧ Below w.heap.size w w')
    (hu : ∀ w, Calls Try.prog 70 #[.agg #[.bool zn, .int .i64 ze, .int .u64 zs]] w fun e w' => e = .returned (.agg #[.bool zn, .int .i64 ue, .int .u64 us]) ∧ Below w.heap.size w w')
    (hsum : ∀ w, Calls Try.prog 69 #[.int .i64 way, .agg #[.bool pn, .int .i64 te, .int .u64 ts], .agg #[.bool zn, .int .i64 ue, .int .u64 us]] w fun e w' => e = .returned (.int .u32 res) ∧ Below w.heap.size w w')
    (w : World) :
    Calls Try.prog 54 #[.int .i64 way, .int .u32 a, .int .u32 b, .int .u32 c] w fun e w' => e = .returned (.int .u32 res) ∧ Below w.heap.size w w' := by
  have HM := hide M
  have HA := hide hsa
  have HB := hide hsb
  have HC := hide hsc
  clear M hsa hsb hsc
  have HT := hide ht
  have HU := hide hu
  have HS := hide hsum
  clear ht hu hsum
  go_enter Try.func54, Try.ntmps54
  go_wp2_with fail
  refine (unhide HM _).mono ?_
  rintro e w1 ⟨rfl, hb1⟩
  go_wp2_with (first | (go_at_call 22; refine (nan_any _ (by assumption) (by assumption) _).mono ?_; rintro e w' ⟨rfl, rfl⟩) | (go_at_call 39; refine (inf_any _ (by assumption) (by assumption) _).mono ?_; rintro e w' ⟨rfl, rfl⟩))
  have HB1 := hide hb1
  clear hb1
  refine (unhide HA _).mono ?_
  rintro e w2 ⟨rfl, hb2⟩
  have HB2 := hide (bl_tr (unhide HB1) hb2)
  clear hb2
  go_wp2_with fail
  refine (unhide HB _).mono ?_
  rintro e w3 ⟨rfl, hb3⟩
  have HB3 := hide (bl_tr (unhide HB2) hb3)
  clear hb3
  go_wp2_with fail
  refine (unhide HC _).mono ?_
  rintro e w4 ⟨rfl, hb4⟩
  have HB4 := hide (bl_tr (unhide HB3) hb4)
  clear hb4 HB1 HB2 HB3
  go_wp2_with fail
  refine wp_region_below (by kernel_rfl) (by kernel_rfl) ?_
  intro T f hne hfb hfc
  obtain ⟨q1, q2, q3⟩ := qcells4 hfb
  have c1 : ∀ x, (f x).cell? ⟨w4.heap.size + 1 + 1, 0, none⟩ = some (.bool zn) := fun x => q1 x 0
  have c2 : ∀ x, (f x).cell? ⟨w4.heap.size + 1 + 1, 1, none⟩ = some (.int .i64 ze) := fun x => q1 x 1
  have c3 : ∀ x, (f x).cell? ⟨w4.heap.size + 1 + 1, 2, none⟩ = some (.int .u64 zs) := fun x => q1 x 2
  have c4 : ∀ x, (f x).cell? ⟨w4.heap.size + 1 + 1 + 1, 0, none⟩ = some (.bool pn) := fun x => q2 x 0
  have c5 : ∀ x, (f x).cell? ⟨w4.heap.size + 1 + 1 + 1, 1, none⟩ = some (.int .i64 (xe + ye)) := fun x => q2 x 1
  have c6 : ∀ x, (f x).cell? ⟨w4.heap.size + 1 + 1 + 1, 2, none⟩ = some (.int .u64 P) := fun x => q2 x 2
  have HF := hide (fun x => bl_tr (unhide HB4) (q3 x))
  have HFB := hide hfb
  have HFC := hide hfc
  clear hfb hfc q1 q2 q3
  repeat (go_big_quiet_step (first | (go_at_call_of 70 P; exact calls_qb (unhide HFB) (unhide HFC) (unhide HT _)) | (go_at_call_of 70 zs; exact calls_qb (unhide HFB) (unhide HFC) (unhide HU _)) | (go_at_call 69; exact calls_qb (unhide HFB) (unhide HFC) (unhide HS _))))
  refine wpQuiet_nil ?_
  intro x
  go_wp2_with fail
  go_ret
  exact ⟨rfl, unhide HF x⟩

theorem lz_top (s : Int) (S : Nat) (h : s = (S : Int)) (h0 : 1 ≤ S) (h1 : S < 2 ^ 63) : Flt.lz s = 64 - (bitLen S : Int) ∧ s * 2 ^ ((64 - (bitLen S : Int)) - 1).toNat = ((Flt.topS S : Nat) : Int) := by
  obtain ⟨_, _, r1, r2⟩ := Flt.top_range S h0 h1
  subst h
  refine ⟨by unfold Flt.lz; rw [Int.toNat_natCast], ?_⟩
  unfold Flt.topS
  rw [show (64 - (bitLen S : Int) - 1).toNat = 63 - bitLen S by omega, Flt.pow_cast, ← Int.natCast_mul]
theorem topped_nat (n : Bool) (exp s : Int) (S : Nat) (h : s = (S : Int)) (h0 : 1 ≤ S) (h1 : S < 2 ^ 63) (e0 : -1000 ≤ exp) (e1 : exp ≤ 1000) (w : World) :
    Calls Try.prog 70 #[.agg #[.bool n, .int .i64 exp, .int .u64 s]] w fun e w' => e = .returned (.agg #[.bool n, .int .i64 (Flt.topE exp S), .int .u64 ((Flt.topS S : Nat) : Int)]) ∧ Below w.heap.size w w' := by
  obtain ⟨l1, l2⟩ := lz_top s S h h0 h1
  have n63 : (2 : Nat) ^ 63 = 9223372036854775808 := by decide
  have := topped_any n exp s _ _ (by omega) (by omega) e0 e1 l1 l2 w
  rw [show exp - (64 - (bitLen S : Int) - 1) = Flt.topE exp S by unfold Flt.topE; omega] at this
  exact this

theorem cfmaBy_any (way a b c : Int) (h0 : 0 ≤ a) (h1 : a < 4294967296) (g0 : 0 ≤ b) (g1 : b < 4294967296) (k0 : 0 ≤ c) (k1 : c < 4294967296) (w : World) :
    Calls Try.prog 54 #[.int .i64 way, .int .u32 a, .int .u32 b, .int .u32 c] w fun e w' => e = .returned (.int .u32 (Flt.fmaC way a b c)) ∧ Below w.heap.size w w' := by
  obtain ⟨q0, q1, _⟩ := Flt.mulBy_good way a b h0 g0
  have M := fun w => mulBy_any way a b h0 h1 g0 g1 w
  by_cases hx : (Flt.isNaN (Flt.mulBy way a b) || Flt.isNaN c || Flt.isInf a || Flt.isInf b || Flt.isInf c) = true
  · have := cfma_x way a b c _ h0 h1 g0 g1 k0 k1 q0 q1 M hx w
    have e : Flt.fmaC way a b c = (if (Flt.isNaN (Flt.mulBy way a b) || Flt.isNaN c) = true then 2143289344
      else if ((Flt.isInf a || Flt.isInf b) && Flt.isInf c && (c != Flt.mulBy way a b)) = true then 2143289344
      else if (Flt.isInf a || Flt.isInf b) = true then Flt.mulBy way a b else c) := by
      unfold Flt.fmaC
      split
      · rfl
      · split
        · rfl
        · split
          · rfl
          · rw [if_pos (by simp_all)]
    rw [e]; exact this
  · have hx' : (Flt.isNaN (Flt.mulBy way a b) || Flt.isNaN c || Flt.isInf a || Flt.isInf b || Flt.isInf c) = false := by simpa using hx
    simp only [Bool.or_eq_false_iff] at hx'
    obtain ⟨⟨⟨⟨ep, ec⟩, ia⟩, ib⟩, ic⟩ := hx'
    obtain ⟨s0, s1⟩ := Flt.sig_range a
    obtain ⟨t0, t1⟩ := Flt.sig_range b
    obtain ⟨u0, u1⟩ := Flt.sig_range c
    obtain ⟨e0, e1⟩ := Flt.expo_range a
    obtain ⟨f0, f1⟩ := Flt.expo_range b
    obtain ⟨i0, i1⟩ := Flt.expo_range c
    have pp0 : 0 ≤ Flt.sig a * Flt.sig b := Int.mul_nonneg s0 t0
    have pp1 : Flt.sig a * Flt.sig b ≤ 16777216 * 16777216 := Int.mul_le_mul (by omega) (by omega) t0 (by omega)
    have hP : IntKind.u64.wrap (Flt.sig a * Flt.sig b) = Flt.sig a * Flt.sig b := wrap_u64_in _ pp0 (by omega)
    have hpn : (!(Flt.sgn a == Flt.sgn b)) = (Flt.sgn a != Flt.sgn b) := rfl
    have hsa := fun w => csplit_any a h0 h1 w
    have hsb := fun w => csplit_any b g0 g1 w
    have hsc := fun w => csplit_any c k0 k1 w
    have hF : Flt.fmaC way a b c = (if Flt.sig a * Flt.sig b = 0 ∧ Flt.sig c = 0 ∧ (Flt.sgn a != Flt.sgn b) ≠ Flt.sgn c then Flt.signBit (decide (way = 2))
      else if Flt.sig a * Flt.sig b = 0 then c
      else if Flt.sig c = 0 then Flt.mulBy way a b
      else Flt.sumV way (Flt.sgn a != Flt.sgn b) (Flt.topE (Flt.expo a + Flt.expo b) (Flt.sig a * Flt.sig b).toNat) (Flt.topS (Flt.sig a * Flt.sig b).toNat) (Flt.sgn c) (Flt.topE (Flt.expo c) (Flt.sig c).toNat) (Flt.topS (Flt.sig c).toNat)) := by
      unfold Flt.fmaC
      simp only [ep, ec, ia, ib, ic, Bool.or_false, Bool.and_false, Bool.false_and, Bool.false_eq_true, if_false]
    rw [hF]
    by_cases hP0 : Flt.sig a * Flt.sig b = 0
    · have bP0 : (Flt.sig a * Flt.sig b == 0) = true := by rw [beq_iff_eq]; exact hP0
      by_cases hz0 : Flt.sig c = 0
      · have bz0 : (Flt.sig c == 0) = true := by rw [beq_iff_eq]; exact hz0
        by_cases hq : (Flt.sgn a != Flt.sgn b) = Flt.sgn c
        · rw [if_neg (fun h => h.2.2 hq), if_pos hP0]
          exact cfma_z2 way a b c _ _ _ _ _ _ _ _ _ _ _ _ h0 h1 g0 g1 k0 k1 q0 q1 M ep ec ia ib ic hsa hsb hsc e0 e1 f0 f1 hP hpn bP0 bz0 (by rw [hq]; simp) w
        · rw [if_pos ⟨hP0, hz0, hq⟩]
          exact cfma_z1 way a b c _ _ _ _ _ _ _ _ _ _ _ _ h0 h1 g0 g1 k0 k1 q0 q1 M ep ec ia ib ic hsa hsb hsc e0 e1 f0 f1 hP hpn bP0 bz0 (by rw [eq_ff hq]; rfl) w
      · have bz0 : (Flt.sig c == 0) = false := by rw [beq_eq_false_iff_ne]; exact hz0
        rw [if_neg (fun h => hz0 h.2.1), if_pos hP0]
        exact cfma_z3 way a b c _ _ _ _ _ _ _ _ _ _ _ _ h0 h1 g0 g1 k0 k1 q0 q1 M ep ec ia ib ic hsa hsb hsc e0 e1 f0 f1 hP hpn bP0 bz0 w
    · have bP0 : (Flt.sig a * Flt.sig b == 0) = false := by rw [beq_eq_false_iff_ne]; exact hP0
      rw [if_neg (fun h => hP0 h.1), if_neg hP0]
      by_cases hz0 : Flt.sig c = 0
      · have bz0 : (Flt.sig c == 0) = true := by rw [beq_iff_eq]; exact hz0
        rw [if_pos hz0]
        exact cfma_z4 way a b c _ _ _ _ _ _ _ _ _ _ _ _ h0 h1 g0 g1 k0 k1 q0 q1 M ep ec ia ib ic hsa hsb hsc e0 e1 f0 f1 hP hpn bP0 bz0 w
      · have bz0 : (Flt.sig c == 0) = false := by rw [beq_eq_false_iff_ne]; exact hz0
        rw [if_neg hz0]
        have n63 : (2 : Nat) ^ 63 = 9223372036854775808 := by decide
        have r1 : 1 ≤ (Flt.sig a * Flt.sig b).toNat := by omega
        have r2 : (Flt.sig a * Flt.sig b).toNat < 2 ^ 63 := by omega
        have r3 : 1 ≤ (Flt.sig c).toNat := by omega
        have r4 : (Flt.sig c).toNat < 2 ^ 63 := by omega
        obtain ⟨v1, v2, v3, v4⟩ := Flt.top_range _ r1 r2
        obtain ⟨x1, x2, x3, x4⟩ := Flt.top_range _ r3 r4
        exact cfma_z5 way a b c _ _ _ _ _ _ _ _ _ _ _ _ h0 h1 g0 g1 k0 k1 q0 q1 M ep ec ia ib ic hsa hsb hsc e0 e1 f0 f1 hP hpn bP0 bz0 _ _ _ _ _
          (fun w => topped_nat _ _ _ _ (by omega) r1 r2 (by omega) (by omega) w)
          (fun w => topped_nat _ _ _ _ (by omega) r3 r4 (by omega) (by omega) w)
          (fun w => csum_any way _ _ _ _ _ _ v1 v2 x1 x2 (by unfold Flt.topE; omega) (by unfold Flt.topE; omega) (by unfold Flt.topE; omega) (by unfold Flt.topE; omega) w) w

theorem cfma_any (a b c : Int) (h0 : 0 ≤ a) (h1 : a < 4294967296) (g0 : 0 ≤ b) (g1 : b < 4294967296) (k0 : 0 ≤ c) (k1 : c < 4294967296) (w : World) :
    Calls Try.prog 32 #[.int .u32 a, .int .u32 b, .int .u32 c] w fun e w' => e = .returned (.int .u32 (Flt.fmaC 0 a b c)) ∧ Below w.heap.size w w' := by
  go_enter Try.func32, Try.ntmps32
  go_wp2_with fail
  refine (cfmaBy_any 0 a b c h0 h1 g0 g1 k0 k1 _).mono ?_
  rintro e w1 ⟨rfl, hb1⟩
  go_wp2_with fail
  go_ret
  exact ⟨ret_int rfl, hb1⟩
end Go.Proofs.Ytkbniebahledmab

/-
  Walks of package round's whole numbers and powers of two: FromIntBy, FromInt, Scale, ToInt.
-/
namespace Go.Proofs.Ytkbniebahledmab
open Go.RowKit
set_option linter.unusedVariables false

set_option maxRecDepth 100000 in
set_option maxHeartbeats 1000000 in
theorem cfromIntBy_any (way n : Int) (h0 : -9223372036854775808 ≤ n) (h1 : n < 9223372036854775808) (w : World) :
    Calls Try.prog 61 #[.int .i64 way, .int .i64 n] w fun e w' => e = .returned (.int .u32 (Flt.rnd way (decide (n < 0)) 0 (n.natAbs : Int) false)) ∧ w' = w := by
  by_cases hn : n < 0
  · have d1 : decide (n < 0) = true := by simp [hn]
    have e1 : IntKind.u64.wrap n = n + 18446744073709551616 := by rw [IntKind.wrap_u64]; omega
    have e2 : IntKind.u64.wrap (-(n + 18446744073709551616)) = -n := by rw [IntKind.wrap_u64]; omega
    have e3 : (n.natAbs : Int) = -n := by omega
    rw [d1, e3]
    go_enter Try.func61, Try.ntmps61
    go_wp2_with fail
    refine (round_any _ _ _ _ _ (by omega) (by omega) _).mono ?_
    rintro e w1 ⟨rfl, rfl⟩
    go_wp2_with fail
    go_ret
    exact ⟨rfl, rfl⟩
  · have d1 : decide (n < 0) = false := by simp; omega
    have e3 : (n.natAbs : Int) = n := by omega
    rw [d1, e3]
    go_enter Try.func61, Try.ntmps61
    go_wp2_with fail
    refine (round_any _ _ _ _ _ (by omega) (by omega) _).mono ?_
    rintro e w1 ⟨rfl, rfl⟩
    go_wp2_with fail
    go_ret
    exact ⟨rfl, rfl⟩
theorem cfromInt_any (n : Int) (h0 : -9223372036854775808 ≤ n) (h1 : n < 9223372036854775808) (w : World) :
    Calls Try.prog 41 #[.int .i64 n] w fun e w' => e = .returned (.int .u32 (Flt.rnd 0 (decide (n < 0)) 0 (n.natAbs : Int) false)) ∧ w' = w := by
  go_enter Try.func41, Try.ntmps41
  go_wp2_with fail
  refine (cfromIntBy_any 0 n h0 h1 _).mono ?_
  rintro e w1 ⟨rfl, rfl⟩
  go_wp2_with fail
  go_ret
  exact ⟨rfl, rfl⟩

set_option maxRecDepth 100000 in
set_option maxHeartbeats 1000000 in
theorem cscale_walk (a k K : Int) (h0 : 0 ≤ a) (h1 : a < 4294967296) (nn : Flt.isNaN a = false) (ni : Flt.isInf a = false) (hK : (k ≤ -1000 ∧ K = -1000) ∨ (1000 ≤ k ∧ K = 1000) ∨ (-1000 < k ∧ k < 1000 ∧ K = k)) (w : World) :
    Calls Try.prog 37 #[.int .u32 a, .int .i64 k] w fun e w' => e = .returned (.int .u32 (Flt.rnd 0 (Flt.sgn a) (Flt.expo a + K) (Flt.sig a) false)) ∧ Below w.heap.size w w' := by
  obtain ⟨s0, s1⟩ := Flt.sig_range a
  obtain ⟨e0, e1⟩ := Flt.expo_range a
  rcases hK with ⟨hk, rfl⟩ | ⟨hk, rfl⟩ | ⟨hk, hk2, rfl⟩
  all_goals
    go_enter Try.func37, Try.ntmps37
    go_wp2_with (first | (go_at_call 22; refine (nan_any _ (by assumption) (by assumption) _).mono ?_; rintro e w' ⟨rfl, rfl⟩) | (go_at_call 39; refine (inf_any _ (by assumption) (by assumption) _).mono ?_; rintro e w' ⟨rfl, rfl⟩))
    refine (csplit_any a h0 h1 _).mono ?_
    rintro e w1 ⟨rfl, hb1⟩
    go_wp2_with fail
    refine (round_any _ _ _ _ _ s0 (by omega) _).mono ?_
    rintro e w2 ⟨rfl, rfl⟩
    go_wp2_with fail
    go_ret
    exact ⟨rfl, bl_tr hb1 ((Below.refl _ _).alloc (Nat.le_refl _) _)⟩
theorem cscale_x (a k : Int) (h0 : 0 ≤ a) (h1 : a < 4294967296) (hx : Flt.isNaN a = true ∨ Flt.isInf a = true) (w : World) :
    Calls Try.prog 37 #[.int .u32 a, .int .i64 k] w fun e w' => e = .returned (.int .u32 (Flt.canon a)) ∧ w' = w := by
  cases hn : Flt.isNaN a
  · have hi : Flt.isInf a = true := by rcases hx with h | h; (rw [hn] at h; cases h); exact h
    clear hx
    go_enter Try.func37, Try.ntmps37
    go_wp2_with (first | (go_at_call 22; refine (nan_any _ (by assumption) (by assumption) _).mono ?_; rintro e w' ⟨rfl, rfl⟩) | (go_at_call 39; refine (inf_any _ (by assumption) (by assumption) _).mono ?_; rintro e w' ⟨rfl, rfl⟩) | (go_at_call 57; refine (canon_any _ (by assumption) (by assumption) _).mono ?_; rintro e w' ⟨rfl, rfl⟩))
    go_ret
    exact ⟨rfl, rfl⟩
  · clear hx
    go_enter Try.func37, Try.ntmps37
    go_wp2_with (first | (go_at_call 22; refine (nan_any _ (by assumption) (by assumption) _).mono ?_; rintro e w' ⟨rfl, rfl⟩) | (go_at_call 39; refine (inf_any _ (by assumption) (by assumption) _).mono ?_; rintro e w' ⟨rfl, rfl⟩) | (go_at_call 57; refine (canon_any _ (by assumption) (by assumption) _).mono ?_; rintro e w' ⟨rfl, rfl⟩))
    go_ret
    exact ⟨rfl, rfl⟩

theorem sig_cut (a : Int) (h0 : 0 ≤ a) (h1 : a < 4294967296) : Flt.sig a = (Flt.cutF (Flt.mg a) : Int) ∧ Flt.expo a = (Flt.cutE (Flt.mg a) : Int) - 150 := by
  unfold Flt.sig Flt.expo Flt.cutF Flt.cutE Flt.mg
  by_cases h : a / 8388608 % 256 = 0
  · rw [if_pos h, if_pos h, if_pos (by omega), if_pos (by omega)]; omega
  · rw [if_neg h, if_neg h, if_neg (by omega), if_neg (by omega)]; omega

set_option maxRecDepth 100000 in
set_option maxHeartbeats 1000000 in
theorem ctoInt_pos (a ex s H : Int) (neg : Bool) (h0 : 0 ≤ a) (h1 : a < 4294967296) (nn : Flt.isNaN a = false) (hs : ∀ w, Calls Try.prog 58 #[.int .u32 a] w fun e w' => e = .returned (.agg #[.bool neg, .int .i64 ex, .int .u64 s]) ∧ Below w.heap.size w w')
    (e0 : 0 < ex) (e1 : ex < 40) (hW : IntKind.u64.wrap (s * 2 ^ ex.toNat) = H) (H0 : 0 ≤ H) (H1 : H < 9223372036854775808) (w : World) :
    Calls Try.prog 38 #[.int .u32 a] w fun e w' => e = .returned (.int .i64 (if neg = true then -H else H)) ∧ Below w.heap.size w w' := by
  have HS := hide hs
  clear hs
  cases neg
  all_goals
    go_enter Try.func38, Try.ntmps38
    go_wp2_with fail
    refine (unhide HS _).mono ?_
    rintro e w1 ⟨rfl, hb1⟩
    go_wp2_with (first | (go_at_call 22; refine (nan_any _ (by assumption) (by assumption) _).mono ?_; rintro e w' ⟨rfl, rfl⟩))
    go_quiet (fail)
    go_wp2_with fail
    go_ret
    exact ⟨rfl, bl_drewN (bl_tr hb1 ((Below.refl _ _).alloc (Nat.le_refl _) _)) _⟩
set_option maxRecDepth 100000 in
set_option maxHeartbeats 1000000 in
theorem ctoInt_zero (a s : Int) (neg : Bool) (h0 : 0 ≤ a) (h1 : a < 4294967296) (nn : Flt.isNaN a = false) (hs : ∀ w, Calls Try.prog 58 #[.int .u32 a] w fun e w' => e = .returned (.agg #[.bool neg, .int .i64 0, .int .u64 s]) ∧ Below w.heap.size w w')
    (H0 : 0 ≤ s) (H1 : s < 9223372036854775808) (w : World) :
    Calls Try.prog 38 #[.int .u32 a] w fun e w' => e = .returned (.int .i64 (if neg = true then -s else s)) ∧ Below w.heap.size w w' := by
  have HS := hide hs
  clear hs
  cases neg
  all_goals
    go_enter Try.func38, Try.ntmps38
    go_wp2_with fail
    refine (unhide HS _).mono ?_
    rintro e w1 ⟨rfl, hb1⟩
    go_wp2_with (first | (go_at_call 22; refine (nan_any _ (by assumption) (by assumption) _).mono ?_; rintro e w' ⟨rfl, rfl⟩))
    go_quiet (fail)
    go_wp2_with fail
    go_ret
    exact ⟨rfl, bl_drewN (bl_tr hb1 ((Below.refl _ _).alloc (Nat.le_refl _) _)) _⟩
set_option maxRecDepth 100000 in
set_option maxHeartbeats 1000000 in
theorem ctoInt_neg (a ex s H : Int) (neg : Bool) (h0 : 0 ≤ a) (h1 : a < 4294967296) (nn : Flt.isNaN a = false) (hs : ∀ w, Calls Try.prog 58 #[.int .u32 a] w fun e w' => e = .returned (.agg #[.bool neg, .int .i64 ex, .int .u64 s]) ∧ Below w.heap.size w w')
    (e0 : -200 ≤ ex) (e1 : ex < 0) (s0 : 0 ≤ s) (s1 : s < 9223372036854775808) (hr : Op.shift .shr .u64 s .i64 (-ex) = pure (.int .u64 H)) (H0 : 0 ≤ H) (H1 : H < 9223372036854775808) (w : World) :
    Calls Try.prog 38 #[.int .u32 a] w fun e w' => e = .returned (.int .i64 (if neg = true then -H else H)) ∧ Below w.heap.size w w' := by
  have HS := hide hs
  clear hs
  cases neg
  all_goals
    go_enter Try.func38, Try.ntmps38
    go_wp2_with fail
    refine (unhide HS _).mono ?_
    rintro e w1 ⟨rfl, hb1⟩
    go_wp2_with (first | (go_at_call 22; refine (nan_any _ (by assumption) (by assumption) _).mono ?_; rintro e w' ⟨rfl, rfl⟩))
    go_quiet (fail)
    go_wp2_with fail
    go_ret
    exact ⟨rfl, bl_drewN (bl_tr hb1 ((Below.refl _ _).alloc (Nat.le_refl _) _)) _⟩
set_option maxRecDepth 100000 in
set_option maxHeartbeats 1000000 in
theorem ctoInt_great (a ex s : Int) (neg : Bool) (h0 : 0 ≤ a) (h1 : a < 4294967296) (hs : ∀ w, Calls Try.prog 58 #[.int .u32 a] w fun e w' => e = .returned (.agg #[.bool neg, .int .i64 ex, .int .u64 s]) ∧ Below w.heap.size w w')
    (hx : Flt.isNaN a = true ∨ 40 ≤ ex) (w : World) :
    Calls Try.prog 38 #[.int .u32 a] w fun e w' => e = .returned (.int .i64 (if Flt.isNaN a = true then 0 else if neg = true then -9223372036854775808 else 9223372036854775807)) ∧ Below w.heap.size w w' := by
  have HS := hide hs
  clear hs
  cases hn : Flt.isNaN a
  · have he : 40 ≤ ex := by rcases hx with h | h; (rw [hn] at h; cases h); exact h
    clear hx
    cases neg
    all_goals
      go_enter Try.func38, Try.ntmps38
      go_wp2_with fail
      refine (unhide HS _).mono ?_
      rintro e w1 ⟨rfl, hb1⟩
      go_wp2_with (first | (go_at_call 22; refine (nan_any _ (by assumption) (by assumption) _).mono ?_; rintro e w' ⟨rfl, rfl⟩))
      go_ret
      exact ⟨rfl, bl_tr hb1 ((Below.refl _ _).alloc (Nat.le_refl _) _)⟩
  · clear hx
    go_enter Try.func38, Try.ntmps38
    go_wp2_with fail
    refine (unhide HS _).mono ?_
    rintro e w1 ⟨rfl, hb1⟩
    go_wp2_with (first | (go_at_call 22; refine (nan_any _ (by assumption) (by assumption) _).mono ?_; rintro e w' ⟨rfl, rfl⟩))
    go_ret
    exact ⟨rfl, bl_tr hb1 ((Below.refl _ _).alloc (Nat.le_refl _) _)⟩

theorem ctoInt_any (a : Int) (h0 : 0 ≤ a) (h1 : a < 4294967296) (w : World) :
    Calls Try.prog 38 #[.int .u32 a] w fun e w' => e = .returned (.int .i64 (Flt.toIntV a)) ∧ Below w.heap.size w w' := by
  obtain ⟨c1, c2⟩ := sig_cut a h0 h1
  have hm := Flt.mg_lt a
  have hE : Flt.cutE (Flt.mg a) = 1 ∧ Flt.mg a / 8388608 = 0 ∨ Flt.cutE (Flt.mg a) = Flt.mg a / 8388608 ∧ Flt.mg a / 8388608 ≠ 0 := by
    unfold Flt.cutE; split
    · rename_i h; exact .inl ⟨rfl, h⟩
    · rename_i h; exact .inr ⟨rfl, h⟩
  have hs := fun w => csplit_any a h0 h1 w
  obtain ⟨s0, s1⟩ := Flt.sig_range a
  by_cases hx : Flt.isNaN a = true ∨ 40 ≤ Flt.expo a
  · have := ctoInt_great a _ _ _ h0 h1 hs hx w
    have e : Flt.toIntV a = (if Flt.isNaN a = true then 0 else if Flt.sgn a = true then -9223372036854775808 else 9223372036854775807) := by
      unfold Flt.toIntV
      split
      · rfl
      · rename_i hn
        have h40 : 40 ≤ Flt.expo a := by rcases hx with h | h; (exact absurd h hn); exact h
        rw [if_pos (by omega)]
    rw [e]; exact this
  · have nn : Flt.isNaN a = false := by cases h : Flt.isNaN a <;> simp_all
    have hlt : Flt.expo a < 40 := by
      rcases Int.lt_or_le (Flt.expo a) 40 with h | h
      · exact h
      · exact absurd (.inr h) hx
    have e : Flt.toIntV a = (if Flt.sgn a = true then -((Flt.A (Flt.mg a) / 2 ^ 149 : Nat) : Int) else ((Flt.A (Flt.mg a) / 2 ^ 149 : Nat) : Int)) := by
      unfold Flt.toIntV
      rw [nn, if_neg (by simp), if_neg (by omega)]
    have hcl := Flt.cut_lt (Flt.mg a) (by omega)
    rw [e]
    rw [Flt.A_cut] at hcl ⊢
    have hF := Flt.cutF_lt (Flt.mg a)
    by_cases hp : 0 ≤ Flt.expo a
    · rw [Flt.cut_up _ _ (by omega)] at hcl ⊢
      by_cases hz : Flt.expo a = 0
      · rw [hz] at hs
        have hE0 : Flt.cutE (Flt.mg a) - 150 = 0 := by omega
        rw [hE0, Nat.pow_zero, Nat.mul_one, ← c1]
        exact ctoInt_zero a _ _ h0 h1 nn hs s0 (by omega) w
      · have hc : ((Flt.cutF (Flt.mg a) * 2 ^ (Flt.cutE (Flt.mg a) - 150) : Nat) : Int) = Flt.sig a * 2 ^ (Flt.expo a).toNat := by
          rw [c1, Int.natCast_mul, Flt.pow_cast, show (Flt.expo a).toNat = Flt.cutE (Flt.mg a) - 150 by omega]
        refine ctoInt_pos a _ _ _ _ h0 h1 nn hs (by omega) hlt ?_ (Int.natCast_nonneg _) (by omega) w
        rw [← hc, wrap_u64_in _ (Int.natCast_nonneg _) (by omega)]
    · rw [Flt.cut_down _ _ (by omega) (by omega)] at hcl ⊢
      refine ctoInt_neg a _ _ _ _ h0 h1 nn hs (by omega) (by omega) s0 (by omega) ?_ (Int.natCast_nonneg _) (by omega) w
      rw [shr_any _ _ s0 (by omega) (by omega), Flt.div_cast, c1, show (-Flt.expo a).toNat = 150 - Flt.cutE (Flt.mg a) by omega]
end Go.Proofs.Ytkbniebahledmab

/-
  Walks of package round's Floor, Ceil and Even.
-/
namespace Go.Proofs.Ytkbniebahledmab
open Go.RowKit
set_option linter.unusedVariables false

theorem cgo_any (way : Int) (neg : Bool) (n rest half : Int) (n0 : 0 ≤ n) (n1 : n < 18446744073709551616) (r0 : 0 ≤ rest) (r1 : rest < 18446744073709551616) (w : World) :
    Calls Try.prog 71 #[.int .i64 way, .bool neg, .int .u64 n, .int .u64 rest, .int .u64 half] w fun e w' => e = .returned (.bool (Flt.cgo way neg n rest half)) ∧ w' = w := by
  have ha := Flt.and1 _ n0 n1
  go_enter Try.func71, Try.ntmps71
  go_wp2
  all_goals go_ret
  all_goals refine ⟨ret_bool ?_, rfl⟩
  all_goals clear ha
  all_goals (cases neg <;> simp_all [Flt.cgo])
  all_goals (rw [Bool.eq_iff_iff]; simp)
  all_goals omega

set_option maxRecDepth 100000 in
set_option maxHeartbeats 1000000 in
theorem cwhole_near (way a ex s n G rest : Int) (neg b : Bool) (h0 : 0 ≤ a) (h1 : a < 4294967296) (nn : Flt.isNaN a = false) (hs : ∀ w, Calls Try.prog 58 #[.int .u32 a] w fun e w' => e = .returned (.agg #[.bool neg, .int .i64 ex, .int .u64 s]) ∧ Below w.heap.size w w')
    (e0 : -62 < ex) (e1 : ex < 0) (s0 : 0 ≤ s) (s1 : s < 16777216) (hn : s / 2 ^ (-ex).toNat = n) (hg : IntKind.u64.wrap (n * 2 ^ (-ex).toNat) = G) (hr : s - G = rest)
    (n0 : 0 ≤ n) (n1 : n < 16777216) (g0 : 0 ≤ G) (g1 : G ≤ s) (hgo : Flt.cgo way neg n rest (IntKind.u64.wrap (2 ^ ((-ex).toNat - 1))) = b) (w : World) :
    Calls Try.prog 56 #[.int .i64 way, .int .u32 a] w fun e w' => e = .returned (.int .u32 (Flt.rnd 0 neg 0 (n + (if b = true then 1 else 0)) false)) ∧ Below w.heap.size w w' := by
  have HS := hide hs
  have HG := hide (fun w => cgo_any way neg n rest (IntKind.u64.wrap (2 ^ ((-ex).toNat - 1))) n0 (by omega) (by omega) (by omega) w)
  rw [hgo] at HG
  clear hs hgo
  cases b
  all_goals
    go_enter Try.func56, Try.ntmps56
    go_wp2_with (first | (go_at_call 22; refine (nan_any _ (by assumption) (by assumption) _).mono ?_; rintro e w' ⟨rfl, rfl⟩))
    refine (unhide HS _).mono ?_
    rintro e w1 ⟨rfl, hb1⟩
    go_wp2_with fail
    go_quiet ((go_at_call 71; exact Calls.quiet_of_same (unhide HG _)))
    go_wp2_with fail
    refine (round_any _ _ _ _ _ (by omega) (by omega) _).mono ?_
    rintro e w2 ⟨rfl, rfl⟩
    go_wp2_with fail
    go_ret
    refine ⟨ret_int (by simp), bl_drewN (bl_tr hb1 ((Below.refl _ _).alloc (Nat.le_refl _) _)) _⟩
set_option maxRecDepth 100000 in
set_option maxHeartbeats 1000000 in
theorem cwhole_far (way a ex s : Int) (neg b : Bool) (h0 : 0 ≤ a) (h1 : a < 4294967296) (nn : Flt.isNaN a = false) (hs : ∀ w, Calls Try.prog 58 #[.int .u32 a] w fun e w' => e = .returned (.agg #[.bool neg, .int .i64 ex, .int .u64 s]) ∧ Below w.heap.size w w')
    (e0 : -200 ≤ ex) (e1 : ex < -62) (s0 : 0 ≤ s) (s1 : s < 16777216) (hgo : Flt.cgo way neg 0 s 2305843009213693952 = b) (w : World) :
    Calls Try.prog 56 #[.int .i64 way, .int .u32 a] w fun e w' => e = .returned (.int .u32 (Flt.rnd 0 neg 0 (0 + (if b = true then 1 else 0)) false)) ∧ Below w.heap.size w w' := by
  have HS := hide hs
  have HG := hide (fun w => cgo_any way neg 0 s 2305843009213693952 (by omega) (by omega) (by omega) (by omega) w)
  rw [hgo] at HG
  have hz : s / 4611686018427387904 = 0 := by omega
  clear hs hgo
  cases b
  all_goals
    go_enter Try.func56, Try.ntmps56
    go_wp2_with (first | (go_at_call 22; refine (nan_any _ (by assumption) (by assumption) _).mono ?_; rintro e w' ⟨rfl, rfl⟩))
    refine (unhide HS _).mono ?_
    rintro e w1 ⟨rfl, hb1⟩
    go_wp2_with fail
    go_quiet ((go_at_call 71; exact Calls.quiet_of_same (unhide HG _)))
    go_wp2_with fail
    refine (round_any _ _ _ _ _ (by omega) (by omega) _).mono ?_
    rintro e w2 ⟨rfl, rfl⟩
    go_wp2_with fail
    go_ret
    refine ⟨ret_int (by simp), bl_drewN (bl_tr hb1 ((Below.refl _ _).alloc (Nat.le_refl _) _)) _⟩
set_option maxRecDepth 100000 in
set_option maxHeartbeats 1000000 in
theorem cwhole_mid (way a s : Int) (neg b : Bool) (h0 : 0 ≤ a) (h1 : a < 4294967296) (nn : Flt.isNaN a = false) (hs : ∀ w, Calls Try.prog 58 #[.int .u32 a] w fun e w' => e = .returned (.agg #[.bool neg, .int .i64 (-62), .int .u64 s]) ∧ Below w.heap.size w w')
    (s0 : 0 ≤ s) (s1 : s < 16777216) (hgo : Flt.cgo way neg 0 s 2305843009213693952 = b) (w : World) :
    Calls Try.prog 56 #[.int .i64 way, .int .u32 a] w fun e w' => e = .returned (.int .u32 (Flt.rnd 0 neg 0 (0 + (if b = true then 1 else 0)) false)) ∧ Below w.heap.size w w' := by
  have HS := hide hs
  have HG := hide (fun w => cgo_any way neg 0 s 2305843009213693952 (by omega) (by omega) (by omega) (by omega) w)
  rw [hgo] at HG
  have hz : s / 4611686018427387904 = 0 := by omega
  clear hs hgo
  cases b
  all_goals
    go_enter Try.func56, Try.ntmps56
    go_wp2_with (first | (go_at_call 22; refine (nan_any _ (by assumption) (by assumption) _).mono ?_; rintro e w' ⟨rfl, rfl⟩))
    refine (unhide HS _).mono ?_
    rintro e w1 ⟨rfl, hb1⟩
    go_wp2_with fail
    go_quiet ((go_at_call 71; exact Calls.quiet_of_same (unhide HG _)))
    go_wp2_with fail
    refine (round_any _ _ _ _ _ (by omega) (by omega) _).mono ?_
    rintro e w2 ⟨rfl, rfl⟩
    go_wp2_with fail
    go_ret
    refine ⟨ret_int (by simp), bl_drewN (bl_tr hb1 ((Below.refl _ _).alloc (Nat.le_refl _) _)) _⟩
set_option maxRecDepth 100000 in
set_option maxHeartbeats 1000000 in
theorem cwhole_x (way a ex s : Int) (neg : Bool) (h0 : 0 ≤ a) (h1 : a < 4294967296) (hs : ∀ w, Calls Try.prog 58 #[.int .u32 a] w fun e w' => e = .returned (.agg #[.bool neg, .int .i64 ex, .int .u64 s]) ∧ Below w.heap.size w w')
    (hx : Flt.isNaN a = true ∨ 0 ≤ ex) (w : World) :
    Calls Try.prog 56 #[.int .i64 way, .int .u32 a] w fun e w' => e = .returned (.int .u32 (if Flt.isNaN a = true then 2143289344 else a)) ∧ Below w.heap.size w w' := by
  have HS := hide hs
  clear hs
  cases hn : Flt.isNaN a
  · have he : 0 ≤ ex := by rcases hx with h | h; (rw [hn] at h; cases h); exact h
    clear hx
    go_enter Try.func56, Try.ntmps56
    go_wp2_with (first | (go_at_call 22; refine (nan_any _ (by assumption) (by assumption) _).mono ?_; rintro e w' ⟨rfl, rfl⟩))
    refine (unhide HS _).mono ?_
    rintro e w1 ⟨rfl, hb1⟩
    go_wp2_with fail
    go_ret
    exact ⟨rfl, bl_tr hb1 ((Below.refl _ _).alloc (Nat.le_refl _) _)⟩
  · clear hx
    go_enter Try.func56, Try.ntmps56
    go_wp2_with (first | (go_at_call 22; refine (nan_any _ (by assumption) (by assumption) _).mono ?_; rintro e w' ⟨rfl, rfl⟩))
    go_ret
    exact ⟨rfl, Below.refl _ _⟩

theorem cwhole_any (way a : Int) (h0 : 0 ≤ a) (h1 : a < 4294967296) (w : World) :
    Calls Try.prog 56 #[.int .i64 way, .int .u32 a] w fun e w' => e = .returned (.int .u32 (Flt.wholeC way a)) ∧ Below w.heap.size w w' := by
  have hs := fun w => csplit_any a h0 h1 w
  obtain ⟨s0, s1⟩ := Flt.sig_range a
  obtain ⟨e0, e1⟩ := Flt.expo_range a
  by_cases hx : Flt.isNaN a = true ∨ 0 ≤ Flt.expo a
  · have := cwhole_x way a _ _ _ h0 h1 hs hx w
    have e : Flt.wholeC way a = (if Flt.isNaN a = true then 2143289344 else a) := by
      unfold Flt.wholeC
      split
      · rfl
      · rename_i hn
        rw [if_pos (by rcases hx with h | h; (exact absurd h hn); exact h)]
    rw [e]; exact this
  · have nn : Flt.isNaN a = false := by cases h : Flt.isNaN a <;> simp_all
    have hlt : Flt.expo a < 0 := by
      rcases Int.lt_or_le (Flt.expo a) 0 with h | h
      · exact h
      · exact absurd (.inr h) hx
    have e : Flt.wholeC way a = Flt.rnd 0 (Flt.sgn a) 0 (Flt.wholeN way a) false := by
      unfold Flt.wholeC
      rw [nn, if_neg (by simp), if_neg (by omega)]
    rw [e]
    unfold Flt.wholeN
    by_cases hd : -Flt.expo a < 62
    · have hdw : Flt.dropW a = -Flt.expo a := by unfold Flt.dropW; rw [if_pos hd]
      rw [hdw]
      have pp : (0 : Int) < 2 ^ (-Flt.expo a).toNat := Int.pow_pos (by decide)
      have q0 := Int.ediv_nonneg s0 (Int.le_of_lt pp)
      have q1 := Int.ediv_le_self (2 ^ (-Flt.expo a).toNat) s0
      have q2 := Int.ediv_mul_add_emod (Flt.sig a) (2 ^ (-Flt.expo a).toNat)
      have q3 := Int.emod_nonneg (Flt.sig a) (Int.ne_of_gt pp)
      have q4 := Int.mul_nonneg q0 (Int.le_of_lt pp)
      have hle : (2 : Int) ^ (-Flt.expo a - 1).toNat ≤ 2 ^ 61 := by
        rw [Flt.pow_cast, Flt.pow_cast]
        exact Int.ofNat_le.2 (Nat.pow_le_pow_right (by decide) (by omega))
      have h61 : (2 : Int) ^ 61 = 2305843009213693952 := by decide
      have hh : IntKind.u64.wrap (2 ^ ((-Flt.expo a).toNat - 1)) = 2 ^ (-Flt.expo a - 1).toNat := by
        rw [show (-Flt.expo a).toNat - 1 = (-Flt.expo a - 1).toNat by omega]
        exact wrap_u64_in _ (Int.pow_nonneg (by decide)) (by omega)
      rw [← hh]
      refine cwhole_near way a _ _ _ (Flt.sig a / 2 ^ (-Flt.expo a).toNat * 2 ^ (-Flt.expo a).toNat) _ _ _ h0 h1 nn hs (by omega) hlt s0 s1 rfl ?_ ?_ q0 (by omega) q4 (by omega) rfl w
      · exact wrap_u64_in _ q4 (by omega)
      · omega
    · have hdw : Flt.dropW a = 62 := by unfold Flt.dropW; rw [if_neg hd]
      rw [hdw]
      have h62 : (2 : Int) ^ (62 : Int).toNat = 4611686018427387904 := by decide
      have h61 : (2 : Int) ^ ((62 : Int) - 1).toNat = 2305843009213693952 := by decide
      have z1 : Flt.sig a / 4611686018427387904 = 0 := by omega
      have z2 : Flt.sig a % 4611686018427387904 = Flt.sig a := by omega
      rw [h62, h61, z1, z2]
      by_cases h6 : Flt.expo a = -62
      · rw [h6] at hs
        exact cwhole_mid way a _ _ _ h0 h1 nn hs s0 s1 rfl w
      · exact cwhole_far way a _ _ _ _ h0 h1 nn hs (by omega) (by omega) s0 s1 rfl w

theorem ceven_any (a : Int) (h0 : 0 ≤ a) (h1 : a < 4294967296) (w : World) :
    Calls Try.prog 36 #[.int .u32 a] w fun e w' => e = .returned (.int .u32 (Flt.wholeC 0 a)) ∧ Below w.heap.size w w' := by
  go_enter Try.func36, Try.ntmps36
  go_wp2_with fail
  refine (cwhole_any 0 a h0 h1 _).mono ?_
  rintro e w1 ⟨rfl, hb1⟩
  go_wp2_with fail
  go_ret
  exact ⟨rfl, hb1⟩
end Go.Proofs.Ytkbniebahledmab

/-
  Walks of package round's roots.
-/
namespace Go.Proofs.Ytkbniebahledmab
open Go.RowKit
set_option linter.unusedVariables false
set_option linter.unusedSimpArgs false

/-- Where the search for a root stands: bits from i on are settled. -/
def RootAt (n : Nat) (i : Nat) (R B : Int) : Prop :=
  i ≤ 32 ∧ ∃ r : Nat, R = ((r * 2 ^ i : Nat) : Int) ∧ B = (if i = 0 then 0 else ((2 ^ (i - 1) : Nat) : Int)) ∧ r * 2 ^ i + 2 ^ i ≤ 2 ^ 32 ∧ (r * 2 ^ i) * (r * 2 ^ i) ≤ n ∧ n < (r * 2 ^ i + 2 ^ i) * (r * 2 ^ i + 2 ^ i)

theorem rootAt_start (n : Nat) (h : n < 18446744073709551616) : RootAt n 32 0 2147483648 := by
  refine ⟨by omega, 0, by simp, by decide, by decide, by omega, ?_⟩
  have : (0 * 2 ^ 32 + 2 ^ 32) * (0 * 2 ^ 32 + 2 ^ 32) = 18446744073709551616 := by decide
  rw [this]; exact h
theorem rootAt_range {n i : Nat} {R B : Int} (h : RootAt n i R B) : 0 ≤ R ∧ R < 4294967296 ∧ 0 ≤ B ∧ B < 4294967296 ∧ (i = 0 ↔ B = 0) ∧ R + B < 4294967296 := by
  obtain ⟨hi, r, rfl, hB, h1, _, _⟩ := h
  have p32 : (2 : Nat) ^ 32 = 4294967296 := by decide
  have pi := Nat.two_pow_pos i
  by_cases h0 : i = 0
  · rw [if_pos h0] at hB; subst hB
    refine ⟨by omega, by omega, by omega, by omega, by omega, by omega⟩
  · rw [if_neg h0] at hB
    have hp := Nat.two_pow_pos (i - 1)
    have h2 : 2 ^ i = 2 * 2 ^ (i - 1) := by
      obtain ⟨k, rfl⟩ : ∃ k, i = k + 1 := ⟨i - 1, by omega⟩
      rw [Nat.pow_succ, Nat.add_sub_cancel]; omega
    refine ⟨by omega, by omega, by omega, by omega, by omega, by omega⟩
theorem rootAt_or {n i : Nat} {R B : Int} (h : RootAt n i R B) : bits .or .u64 R B = R + B := by
  have hr := rootAt_range h
  obtain ⟨hi, r, rfl, hB, h1, _, _⟩ := h
  by_cases h0 : i = 0
  · rw [if_pos h0] at hB; subst hB
    have := or_disj ((r * 2 ^ i : Nat) : Int) 0 0 (Int.natCast_nonneg _) (by omega) (by decide) (by simp only [Int.pow_zero, Int.mul_one, Int.add_zero]; omega)
    simpa using this
  · rw [if_neg h0] at hB
    rw [hB] at hr ⊢
    have hp := Nat.two_pow_pos (i - 1)
    have hlt : 2 ^ (i - 1) < 2 ^ i := Nat.pow_lt_pow_right (by decide) (by omega)
    rw [Int.natCast_mul, ← Flt.pow_cast i] at hr ⊢
    exact or_disj (r : Int) _ i (Int.natCast_nonneg _) (Int.natCast_nonneg _) (by rw [Flt.pow_cast]; exact Int.ofNat_lt.2 hlt) (by omega)
theorem rootAt_step {n i : Nat} {R B : Int} (h : RootAt n (i + 1) R B) : (((R + B) * (R + B) ≤ (n : Int)) → RootAt n i (R + B) (B / 2)) ∧ (¬ ((R + B) * (R + B) ≤ (n : Int)) → RootAt n i R (B / 2)) := by
  obtain ⟨hi, r, rfl, hB, h1, h2, h3⟩ := h
  rw [if_neg (by omega), Nat.add_sub_cancel] at hB
  have hp : 2 ^ (i + 1) = 2 * 2 ^ i := by rw [Nat.pow_succ]; omega
  have hB2 : B / 2 = (if i = 0 then 0 else ((2 ^ (i - 1) : Nat) : Int)) := by
    rw [hB]
    by_cases h0 : i = 0
    · rw [if_pos h0, h0]; rfl
    · rw [if_neg h0]
      have : 2 ^ i = 2 * 2 ^ (i - 1) := by
        obtain ⟨k, rfl⟩ : ∃ k, i = k + 1 := ⟨i - 1, by omega⟩
        rw [Nat.pow_succ, Nat.add_sub_cancel]; omega
      omega
  have e1 : r * 2 ^ (i + 1) = (2 * r) * 2 ^ i := by rw [hp]; ac_rfl
  rw [e1] at h1 h2 h3
  rw [hp] at h1 h3
  rw [e1, hB2]
  have e2 : (2 * r + 1) * 2 ^ i = 2 * r * 2 ^ i + 2 ^ i := Nat.succ_mul _ _
  have hc : (((2 * r * 2 ^ i : Nat) : Int) + B) = (((2 * r + 1) * 2 ^ i : Nat) : Int) := by rw [hB, e2]; omega
  rw [hc, ← Int.natCast_mul]
  constructor
  · intro hle
    refine ⟨by omega, 2 * r + 1, rfl, rfl, by rw [e2]; omega, Int.ofNat_le.1 hle, ?_⟩
    rw [e2]
    have : 2 * r * 2 ^ i + 2 ^ i + 2 ^ i = 2 * r * 2 ^ i + 2 * 2 ^ i := by omega
    rw [this]; exact h3
  · intro hle
    refine ⟨by omega, 2 * r, rfl, rfl, by omega, h2, ?_⟩
    have hlt : n < ((2 * r + 1) * 2 ^ i) * ((2 * r + 1) * 2 ^ i) := by
      rcases Nat.lt_or_ge n (((2 * r + 1) * 2 ^ i) * ((2 * r + 1) * 2 ^ i)) with g | g
      · exact g
      · exact absurd (Int.ofNat_le.2 g) hle
    rw [e2] at hlt; exact hlt
theorem rootAt_end {n : Nat} {R : Int} (h : RootAt n 0 R 0) : ∃ r : Nat, R = (r : Int) ∧ r * r ≤ n ∧ n < (r + 1) * (r + 1) := by
  obtain ⟨_, r, rfl, _, _, h1, h2⟩ := h
  refine ⟨r, by simp, ?_, ?_⟩
  · simpa using h1
  · simpa using h2
theorem sq_lt (x : Int) (h0 : 0 ≤ x) (h1 : x < 4294967296) : 0 ≤ x * x ∧ x * x < 18446744073709551616 := by
  have := Int.mul_le_mul (show x ≤ 4294967295 by omega) (show x ≤ 4294967295 by omega) h0 (by omega)
  exact ⟨Int.mul_nonneg h0 h0, by omega⟩

theorem ret_root {a c : Int} {m k : Bool} (h1 : a = c) (h3 : m = k) :
    Ending.returned (.tuple #[.int .u64 a, .bool m]) = .returned (.tuple #[.int .u64 c, .bool k]) := by rw [h1, h3]

theorem and1_i64 (n : Int) : bits .and .i64 n 1 = n % 2 := by
  have h1 : (BitVec.ofInt 64 1).toNat = 2 ^ 1 - 1 := by decide
  have key : (BitVec.ofInt 64 n &&& BitVec.ofInt 64 1).toNat = (n % ((2 ^ 64 : Nat) : Int)).toNat % 2 ^ 1 := by
    rw [BitVec.toNat_and, BitVec.toNat_ofInt, h1, Nat.and_two_pow_sub_one_eq_mod]
  show IntKind.i64.wrap ((BitVec.ofInt 64 n &&& BitVec.ofInt 64 1).toNat : Nat) = n % 2
  rw [key, IntKind.wrap_i64]
  omega
end Go.Proofs.Ytkbniebahledmab

/-
  Package round's roots and powers of two, by the document's words; the head of the statements.
-/
namespace Go.Proofs.Ytkbniebahledmab
open Go.RowKit
set_option linter.unusedVariables false

/-- Roots, of every float. -/
def SqrtAns (way a r : Int) : Prop :=
  ((Flt.isNaN a = true ∨ Flt.absF a = 0 ∨ Flt.isInf a = true ∨ Flt.sgn a = true) ∧ r = Flt.sqrtX a) ∨
  ((Flt.mg a < 2139095040 ∧ Flt.mg a ≠ 0 ∧ Flt.sgn a = false) ∧ ∃ v : Nat, r = (v : Int) ∧ Flt.RT way (Flt.A (Flt.mg a) * 2 ^ 149) v)
theorem sqrtAns_one {way a r r' : Int} (h : SqrtAns way a r) (h' : SqrtAns way a r') : r = r' := by
  have no : ¬ ((Flt.isNaN a = true ∨ Flt.absF a = 0 ∨ Flt.isInf a = true ∨ Flt.sgn a = true) ∧ (Flt.mg a < 2139095040 ∧ Flt.mg a ≠ 0 ∧ Flt.sgn a = false)) := by
    rintro ⟨h1, h2, h3, h4⟩
    rw [Flt.isNaN_iff, Flt.isInf_iff, h4] at h1
    unfold Flt.absF at h1
    unfold Flt.mg at *
    rcases h1 with h1 | h1 | h1 | h1
    · omega
    · omega
    · omega
    · cases h1
  rcases h with ⟨a1, a2⟩ | ⟨a1, v, a2, a3⟩
  · rcases h' with ⟨b1, b2⟩ | ⟨b1, _⟩
    · rw [a2, b2]
    · exact absurd ⟨a1, b1⟩ no
  · rcases h' with ⟨b1, b2⟩ | ⟨b1, v', b2, b3⟩
    · exact absurd ⟨b1, a1⟩ no
    · rw [a2, b2, Flt.RT_one a3 b3]
theorem sqrt_cases (a : Int) : (Flt.isNaN a = true ∨ Flt.absF a = 0 ∨ Flt.isInf a = true ∨ Flt.sgn a = true) ∨ (Flt.mg a < 2139095040 ∧ Flt.mg a ≠ 0 ∧ Flt.sgn a = false) := by
  by_cases h : Flt.mg a < 2139095040 ∧ Flt.mg a ≠ 0 ∧ Flt.sgn a = false
  · exact .inr h
  · left
    cases hs : Flt.sgn a
    · rw [hs] at h
      rw [Flt.isNaN_iff, Flt.isInf_iff]
      unfold Flt.absF
      unfold Flt.mg at *
      by_cases h1 : 2139095040 < (a % 2147483648).toNat
      · exact .inl h1
      · by_cases h2 : a % 2147483648 = 0
        · exact .inr (.inl h2)
        · refine .inr (.inr (.inl ?_))
          rcases Nat.lt_or_ge (a % 2147483648).toNat 2139095040 with g | g
          · exact absurd ⟨g, by omega, rfl⟩ h
          · omega
    · exact .inr (.inr (.inr rfl))
/-- Powers of two. -/
def clampK (k : Int) : Int := if k ≤ -1000 then -1000 else if 1000 ≤ k then 1000 else k
def scaleC (a k : Int) : Int := if Flt.isNaN a = true ∨ Flt.isInf a = true then Flt.canon a else Flt.rnd 0 (Flt.sgn a) (Flt.expo a + clampK k) (Flt.sig a) false
theorem cscale_any (a k : Int) (h0 : 0 ≤ a) (h1 : a < 4294967296) (w : World) :
    Calls Try.prog 37 #[.int .u32 a, .int .i64 k] w fun e w' => e = .returned (.int .u32 (scaleC a k)) ∧ Below w.heap.size w w' := by
  unfold scaleC
  by_cases hx : Flt.isNaN a = true ∨ Flt.isInf a = true
  · rw [if_pos hx]
    refine (cscale_x a k h0 h1 hx w).mono ?_
    rintro e w1 ⟨rfl, rfl⟩
    exact ⟨rfl, Below.refl _ _⟩
  · rw [if_neg hx]
    have nn : Flt.isNaN a = false := by cases h : Flt.isNaN a <;> simp_all
    have ni : Flt.isInf a = false := by cases h : Flt.isInf a <;> simp_all
    exact cscale_walk a k _ h0 h1 nn ni (by unfold clampK; (repeat' split) <;> omega) w

/-- The statements' head. -/
theorem awk_a : Flt.fmaC 0 1065353217 1065353217 3212836866 = 679477248 := by decide +kernel
theorem awk_c : Flt.rnd 0 (decide ((16777217 : Int) < 0)) 0 ((16777217 : Int).natAbs : Int) false = 1266679808 := by decide +kernel
theorem awk_d : Flt.toIntV 3223322624 = -2 := by decide +kernel
theorem awk_e : Flt.wholeC 0 1075838976 = 1073741824 := by decide +kernel
theorem awk_f : Flt.wholeC 1 3204448256 = 2147483648 := by decide +kernel
theorem awk_g : scaleC 1069547520 (-150) = 1 := by decide +kernel
theorem awk_b (r : Int) (h : SqrtAns 0 1073741824 r) : r = 1068827891 := by
  refine sqrtAns_one h (.inr ⟨⟨by decide, by decide, by decide⟩, 1068827891, rfl, 1068827891, ⟨by decide, by decide +kernel, by decide +kernel⟩, by decide +kernel⟩)

end Go.Proofs.Ytkbniebahledmab
