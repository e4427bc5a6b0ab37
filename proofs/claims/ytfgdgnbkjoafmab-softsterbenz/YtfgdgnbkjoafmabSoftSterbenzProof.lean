/-
  SoftSterbenz holds: for every two finite floats of one sign, neither more than twice the other one, the difference is exact, and gives the first back with the second. No condition.
-/
import Derived.Test.YtfgdgnbkjoafmabRows
import Derived.WalkKit
import Derived.ProofKit
import Derived.OpenShut
import Derived.Below
import Derived.Test.YtfgdgnbkjoafmabWkF
import Derived.Test.YtfgdgnbkjoafmabFltI
namespace Go.Proofs.Ytfgdgnbkjoafmab.softSterbenz
open Go.ChangeShapes Go.WideShapes Go.ChangeAt Go.RowKit
set_option linter.unusedVariables false      -- a walk need not use every 'w<i>' (that an integer argument fits its kind)

theorem own : ownKnob Try.prog.godebug = none := by kernel_rfl

theorem absF_facts (a : Int) (h0 : 0 ≤ a) : 0 ≤ Flt.absF a ∧ Flt.absF a < 4294967296 ∧ Flt.sgn (Flt.absF a) = false ∧ Flt.mg (Flt.absF a) = Flt.mg a ∧ Flt.place (Flt.absF a) = (Flt.mg a : Int) := by
  unfold Flt.absF Flt.sgn Flt.mg Flt.place
  refine ⟨by omega, by omega, by simp; omega, by omega, ?_⟩
  rw [if_neg (by omega)]; omega

/-- Where the double of x, by its nearest float, is not less than y: twice the amount. -/
theorem twice_le (a b : Int) (h0 : 0 ≤ a) (g0 : 0 ≤ b) (ha : Flt.mg a < 2139095040) (hb : Flt.mg b < 2139095040)
    (h : Flt.lessF (Flt.addBy 0 (Flt.absF a) (Flt.absF a)) (Flt.absF b) = false) : Flt.A (Flt.mg b) ≤ 2 * Flt.A (Flt.mg a) := by
  obtain ⟨x0, x1, x2, x3, x4⟩ := absF_facts a h0
  obtain ⟨y0, y1, y2, y3, y4⟩ := absF_facts b g0
  obtain ⟨s1, s2, _, _, _⟩ := Flt.addBy_fin 0 (Flt.absF a) (Flt.absF a) x0 x0 (by rw [x3]; exact ha) (by rw [x3]; exact ha)
  rw [x2, x3] at s1 s2
  have gd := Flt.addBy_good 0 (Flt.absF a) (Flt.absF a) x0 x1 x0 x1
  have nb : Flt.isNaN (Flt.absF b) = false := by rw [Flt.isNaN_not, y3]; omega
  rcases Nat.eq_zero_or_pos (Flt.A (Flt.mg a) + Flt.A (Flt.mg a)) with hz | hz
  · have e := s1 rfl hz
    rw [e] at h
    have np : Flt.isNaN (Flt.signBit false) = false := by decide +kernel
    unfold Flt.lessF at h
    rw [np, nb, Flt.place_signBit, y4] at h
    have hm : Flt.mg b = 0 := by
      simp at h; omega
    rw [hm, Flt.A_zero]; omega
  · obtain ⟨r, e, f⟩ := s2 rfl hz
    rw [e] at h
    have hr := Flt.RN_le f
    have np : Flt.isNaN (Flt.signBit false + (r : Int)) = false := by rw [Flt.isNaN_not, Flt.mg_signed false r (by omega)]; exact hr
    unfold Flt.lessF at h
    rw [np, nb, Flt.place_signed false r (by omega), y4] at h
    have hm : Flt.mg b ≤ r := by simp at h; omega
    refine Flt.twice_ge (Flt.mg a) (Flt.mg b) r hb ?_ hm
    rw [show 2 * Flt.A (Flt.mg a) = Flt.A (Flt.mg a) + Flt.A (Flt.mg a) by omega]
    exact f

/-- The difference is exact. -/
theorem exact_diff (a b : Int) (h0 : 0 ≤ a) (h1 : a < 4294967296) (g0 : 0 ≤ b) (g1 : b < 4294967296) (ha : Flt.mg a < 2139095040) (hb : Flt.mg b < 2139095040) (hs : Flt.sgn a = Flt.sgn b)
    (c1 : Flt.A (Flt.mg b) ≤ 2 * Flt.A (Flt.mg a)) (c2 : Flt.A (Flt.mg a) ≤ 2 * Flt.A (Flt.mg b)) :
    (Flt.addBy 1 a (Flt.negF b) = Flt.addBy 0 a (Flt.negF b) ∨ Flt.equalF (Flt.addBy 0 a (Flt.negF b)) 0 = true) ∧
    Flt.equalF (Flt.addBy 0 (Flt.addBy 0 a (Flt.negF b)) b) a = true := by
  have n0 : 0 ≤ Flt.negF b := by unfold Flt.negF; omega
  have hnb : Flt.mg (Flt.negF b) < 2139095040 := by rw [Flt.mg_neg]; exact hb
  have hsn : Flt.sgn (Flt.negF b) = !Flt.sgn a := by rw [Flt.sgn_neg b g0 g1, hs]
  have hne : Flt.sgn a ≠ !Flt.sgn a := by cases Flt.sgn a <;> simp
  have sum : ∀ way : Int, Flt.SumSpec way (Flt.sgn a) (!Flt.sgn a) (Flt.A (Flt.mg a)) (Flt.A (Flt.mg b)) (Flt.addBy way a (Flt.negF b)) := by
    intro way
    have := Flt.addBy_fin way a (Flt.negF b) h0 n0 ha hnb
    rw [hsn, Flt.mg_neg] at this; exact this
  -- the difference as a float: its sign, its bits, its value
  have key : ∃ (n : Bool) (d : Nat), d < 2139095040 ∧ Flt.addBy 0 a (Flt.negF b) = Flt.signBit n + (d : Int) ∧
      (Flt.addBy 1 a (Flt.negF b) = Flt.addBy 0 a (Flt.negF b) ∨ d = 0) ∧ Flt.val (Flt.signBit n + (d : Int)) + Flt.val b = Flt.val a := by
    have vof : ∀ (n : Bool) (d : Nat), d < 2139095040 → Flt.val (Flt.signBit n + (d : Int)) = if n = true then -(Flt.A d : Int) else (Flt.A d : Int) := by
      intro n d hd
      unfold Flt.val
      rw [Flt.sgn_signed n d (by omega), Flt.mg_signed n d (by omega)]
    rcases Nat.lt_trichotomy (Flt.A (Flt.mg a)) (Flt.A (Flt.mg b)) with hlt | heq | hgt
    · obtain ⟨d, e1, e2⟩ := Flt.sterb (Flt.mg b) (Flt.mg a) (by omega) c1
      obtain ⟨_, _, _, _, s0⟩ := sum 0
      obtain ⟨_, _, _, _, t0⟩ := sum 1
      obtain ⟨r, f1, f2⟩ := s0 hne hlt
      obtain ⟨r', g1, g2⟩ := t0 hne hlt
      have r1 := Flt.RN_exact (q := 1) (by decide) (show d < 2139095040 by omega) (by rw [e1, Nat.mul_one]; exact f2)
      have r2 := Flt.RN_exact (q := 1) (by decide) (show d < 2139095040 by omega) (by rw [e1, Nat.mul_one]; exact g2)
      rw [r1] at f1
      rw [r2] at g1
      refine ⟨_, d, by omega, f1, .inl (by rw [f1, g1]), ?_⟩
      rw [vof _ d (by omega)]
      unfold Flt.val
      rw [← hs]
      cases Flt.sgn a <;> simp <;> omega
    · obtain ⟨_, _, s0, _, _⟩ := sum 0
      have f1 := s0 hne heq
      refine ⟨false, 0, by omega, by rw [f1]; decide +kernel, .inr rfl, ?_⟩
      rw [vof _ 0 (by omega)]
      unfold Flt.val
      rw [← hs, heq, Flt.A_zero]
      simp
    · obtain ⟨d, e1, e2⟩ := Flt.sterb (Flt.mg a) (Flt.mg b) (by omega) c2
      obtain ⟨_, _, _, s0, _⟩ := sum 0
      obtain ⟨_, _, _, t0, _⟩ := sum 1
      obtain ⟨r, f1, f2⟩ := s0 hne hgt
      obtain ⟨r', g1, g2⟩ := t0 hne hgt
      have r1 := Flt.RN_exact (q := 1) (by decide) (show d < 2139095040 by omega) (by rw [e1, Nat.mul_one]; exact f2)
      have r2 := Flt.RN_exact (q := 1) (by decide) (show d < 2139095040 by omega) (by rw [e1, Nat.mul_one]; exact g2)
      rw [r1] at f1
      rw [r2] at g1
      refine ⟨_, d, by omega, f1, .inl (by rw [f1, g1]), ?_⟩
      rw [vof _ d (by omega)]
      unfold Flt.val
      rw [← hs]
      cases Flt.sgn a <;> simp <;> omega
  obtain ⟨n, d, hd, e1, e2, e3⟩ := key
  obtain ⟨d0, d1⟩ := Flt.signed_range n d (by omega)
  have nd : Flt.isNaN (Flt.signBit n + (d : Int)) = false := by rw [Flt.isNaN_not, Flt.mg_signed n d (by omega)]; omega
  rw [e1]
  rw [e1] at e2
  constructor
  · rcases e2 with e2 | e2
    · exact .inl e2
    · right
      subst e2
      cases n <;> decide +kernel
  · have na : Flt.isNaN a = false := by rw [Flt.isNaN_not]; omega
    obtain ⟨v1, v2, v3⟩ := Flt.addBy_val 0 (Flt.signBit n + (d : Int)) b d0 g0 (by rw [Flt.mg_signed n d (by omega)]; exact hd) hb
    rw [e3] at v1 v2 v3
    have hpa := Flt.place_eq_mg a h0 h1
    have hA0 : Flt.A (Flt.mg a) = 0 → Flt.mg a = 0 := fun h => Flt.A_inj (h.trans Flt.A_zero.symm)
    unfold Flt.equalF
    rcases Int.lt_trichotomy (Flt.val a) 0 with hv | hv | hv
    · obtain ⟨r, f1, f2⟩ := v3 hv
      have hsa : Flt.sgn a = true := by
        unfold Flt.val at hv; cases hq : Flt.sgn a
        · rw [hq] at hv; simp at hv; omega
        · rfl
      have hval : (-Flt.val a).toNat = Flt.A (Flt.mg a) := by unfold Flt.val; rw [hsa]; simp
      have r1 := Flt.RN_exact (q := 1) (by decide) ha (by rw [Nat.mul_one, ← hval]; exact f2)
      subst r1
      rw [f1, Flt.place_signed true _ (by omega), hpa, hsa, na]
      have : Flt.isNaN (Flt.signBit true + (Flt.mg a : Int)) = false := by rw [Flt.isNaN_not, Flt.mg_signed true _ (by omega)]; omega
      rw [this]; simp
    · obtain ⟨m, f1⟩ := v1 hv
      have hz : Flt.mg a = 0 := by
        apply hA0
        unfold Flt.val at hv; cases hq : Flt.sgn a <;> rw [hq] at hv <;> simp at hv <;> omega
      rw [f1, Flt.place_signBit, hpa, hz, na]
      have : Flt.isNaN (Flt.signBit m) = false := by cases m <;> decide +kernel
      rw [this]; simp
    · obtain ⟨r, f1, f2⟩ := v2 hv
      have hsa : Flt.sgn a = false := by
        unfold Flt.val at hv; cases hq : Flt.sgn a
        · rfl
        · rw [hq] at hv; simp at hv; omega
      have hval : (Flt.val a).toNat = Flt.A (Flt.mg a) := by unfold Flt.val; rw [hsa]; simp
      have r1 := Flt.RN_exact (q := 1) (by decide) ha (by rw [Nat.mul_one, ← hval]; exact f2)
      subst r1
      rw [f1, Flt.place_signed false _ (by omega), hpa, hsa, na]
      have : Flt.isNaN (Flt.signBit false + (Flt.mg a : Int)) = false := by rw [Flt.isNaN_not, Flt.mg_signed false _ (by omega)]; omega
      rw [this]; simp

set_option maxRecDepth 100000 in
set_option maxHeartbeats 2000000 in
theorem walk (a0 : Int) (a1 : Int) (w0 : (Lit.int .u32 a0).wf = true) (w1 : (Lit.int .u32 a1).wf = true) (w : World) :
    Calls Try.prog 5 #[.int .u32 a0, .int .u32 a1] w fun e w' => e = .returned (.bool true) ∧ Below w.heap.size w w' := by
  obtain ⟨h0, h1⟩ := wf_u32_iff w0
  obtain ⟨g0, g1⟩ := wf_u32_iff w1
  by_cases hf : (Flt.isNaN a0 = false ∧ Flt.isInf a0 = false) ∧ (Flt.isNaN a1 = false ∧ Flt.isInf a1 = false)
  · obtain ⟨⟨n1, n2⟩, n3, n4⟩ := hf
    by_cases hs : Flt.sgn a0 = Flt.sgn a1
    · have fa := (Flt.fin_iff a0).1 ⟨n1, n2⟩
      have fb := (Flt.fin_iff a1).1 ⟨n3, n4⟩
      obtain ⟨x0, x1, _, _, _⟩ := absF_facts a0 h0
      obtain ⟨y0, y1, _, _, _⟩ := absF_facts a1 g0
      obtain ⟨p0, p1, _⟩ := Flt.addBy_good 0 _ _ x0 x1 x0 x1
      obtain ⟨q0, q1, _⟩ := Flt.addBy_good 0 _ _ y0 y1 y0 y1
      obtain ⟨m0, m1⟩ := negF_range a1
      obtain ⟨d0, d1, _⟩ := Flt.addBy_good 0 _ _ h0 h1 m0 m1
      obtain ⟨b0, b1, _⟩ := Flt.addBy_good 0 _ _ d0 d1 g0 g1
      have E := hide (fun t1 t2 => exact_diff a0 a1 h0 h1 g0 g1 fa fb hs (twice_le a0 a1 h0 g0 fa fb t1) (twice_le a1 a0 g0 h0 fb fa t2))
      have hsd : decide (2147483648 ≤ a0) = decide (2147483648 ≤ a1) := hs
      clear hs w0 w1
      cases l1 : Flt.lessF (Flt.addBy 0 (Flt.absF a0) (Flt.absF a0)) (Flt.absF a1)
      · cases l2 : Flt.lessF (Flt.addBy 0 (Flt.absF a1) (Flt.absF a1)) (Flt.absF a0)
        · obtain ⟨E1, E2⟩ := unhide E l1 l2
          by_cases e1 : Flt.addBy 1 a0 (Flt.negF a1) = Flt.addBy 0 a0 (Flt.negF a1)
          · have e1' : (Flt.addBy 1 a0 (Flt.negF a1) == Flt.addBy 0 a0 (Flt.negF a1)) = true := by simp [e1]
            clear E E1 e1
            go_enter Try.func5, Try.ntmps5
            go_wp2_with fail
            refine (awake_any _).mono ?_
            rintro e v1 ⟨rfl, hb1⟩
            go_wp2_with (first | (go_at_call 12; refine (nan_any _ (by assumption) (by assumption) _).mono ?_; rintro e w' ⟨rfl, rfl⟩) | (go_at_call 13; refine (inf_any _ (by assumption) (by assumption) _).mono ?_; rintro e w' ⟨rfl, rfl⟩) | (go_at_call 19; refine (abs_any _ (by assumption) (by assumption) _).mono ?_; rintro e w' ⟨rfl, rfl⟩))
            refine (add_any _ _ x0 x1 x0 x1 _).mono ?_
            rintro e v2 ⟨rfl, hb2⟩
            go_wp2_with fail
            refine (less_any _ _ p0 p1 y0 y1 _).mono ?_
            rintro e v3 ⟨rfl, rfl⟩
            go_wp2_with fail
            refine (add_any _ _ y0 y1 y0 y1 _).mono ?_
            rintro e v4 ⟨rfl, hb4⟩
            go_wp2_with fail
            refine (less_any _ _ q0 q1 x0 x1 _).mono ?_
            rintro e v5 ⟨rfl, rfl⟩
            go_wp2_with fail
            refine (sub_any _ _ h0 h1 g0 g1 _).mono ?_
            rintro e v6 ⟨rfl, hb6⟩
            go_wp2_with (go_at_call 21; refine (neg_any _ g0 g1 _).mono ?_; rintro e w' ⟨rfl, rfl⟩)
            refine (addBy_any _ _ _ h0 h1 m0 m1 _).mono ?_
            rintro e v7 ⟨rfl, hb7⟩
            go_wp2_with fail
            refine (add_any _ _ d0 d1 g0 g1 _).mono ?_
            rintro e v8 ⟨rfl, hb8⟩
            go_wp2_with fail
            refine (equal_any _ _ b0 b1 h0 h1 _).mono ?_
            rw [E2]
            rintro e v9 ⟨rfl, rfl⟩
            go_wp2_with fail
            go_ret
            exact ⟨rfl, bl_tr (bl_tr (bl_tr (bl_tr (bl_tr hb1 hb2) hb4) hb6) hb7) hb8⟩
          · have e1' : (Flt.addBy 1 a0 (Flt.negF a1) == Flt.addBy 0 a0 (Flt.negF a1)) = false := by simp [e1]
            have e2 : Flt.equalF (Flt.addBy 0 a0 (Flt.negF a1)) 0 = true := by
              rcases E1 with h | h
              · exact absurd h e1
              · exact h
            clear E E1 e1
            go_enter Try.func5, Try.ntmps5
            go_wp2_with fail
            refine (awake_any _).mono ?_
            rintro e v1 ⟨rfl, hb1⟩
            go_wp2_with (first | (go_at_call 12; refine (nan_any _ (by assumption) (by assumption) _).mono ?_; rintro e w' ⟨rfl, rfl⟩) | (go_at_call 13; refine (inf_any _ (by assumption) (by assumption) _).mono ?_; rintro e w' ⟨rfl, rfl⟩) | (go_at_call 19; refine (abs_any _ (by assumption) (by assumption) _).mono ?_; rintro e w' ⟨rfl, rfl⟩))
            refine (add_any _ _ x0 x1 x0 x1 _).mono ?_
            rintro e v2 ⟨rfl, hb2⟩
            go_wp2_with fail
            refine (less_any _ _ p0 p1 y0 y1 _).mono ?_
            rintro e v3 ⟨rfl, rfl⟩
            go_wp2_with fail
            refine (add_any _ _ y0 y1 y0 y1 _).mono ?_
            rintro e v4 ⟨rfl, hb4⟩
            go_wp2_with fail
            refine (less_any _ _ q0 q1 x0 x1 _).mono ?_
            rintro e v5 ⟨rfl, rfl⟩
            go_wp2_with fail
            refine (sub_any _ _ h0 h1 g0 g1 _).mono ?_
            rintro e v6 ⟨rfl, hb6⟩
            go_wp2_with (go_at_call 21; refine (neg_any _ g0 g1 _).mono ?_; rintro e w' ⟨rfl, rfl⟩)
            refine (addBy_any _ _ _ h0 h1 m0 m1 _).mono ?_
            rintro e v7 ⟨rfl, hb7⟩
            go_wp2_with fail
            refine (equal_any _ _ d0 d1 (by omega) (by omega) _).mono ?_
            rw [e2]
            rintro e v10 ⟨rfl, rfl⟩
            go_wp2_with fail
            refine (add_any _ _ d0 d1 g0 g1 _).mono ?_
            rintro e v8 ⟨rfl, hb8⟩
            go_wp2_with fail
            refine (equal_any _ _ b0 b1 h0 h1 _).mono ?_
            rw [E2]
            rintro e v9 ⟨rfl, rfl⟩
            go_wp2_with fail
            go_ret
            exact ⟨rfl, bl_tr (bl_tr (bl_tr (bl_tr (bl_tr hb1 hb2) hb4) hb6) hb7) hb8⟩
        · clear E
          go_enter Try.func5, Try.ntmps5
          go_wp2_with fail
          refine (awake_any _).mono ?_
          rintro e v1 ⟨rfl, hb1⟩
          go_wp2_with (first | (go_at_call 12; refine (nan_any _ (by assumption) (by assumption) _).mono ?_; rintro e w' ⟨rfl, rfl⟩) | (go_at_call 13; refine (inf_any _ (by assumption) (by assumption) _).mono ?_; rintro e w' ⟨rfl, rfl⟩) | (go_at_call 19; refine (abs_any _ (by assumption) (by assumption) _).mono ?_; rintro e w' ⟨rfl, rfl⟩))
          refine (add_any _ _ x0 x1 x0 x1 _).mono ?_
          rintro e v2 ⟨rfl, hb2⟩
          go_wp2_with fail
          refine (less_any _ _ p0 p1 y0 y1 _).mono ?_
          rintro e v3 ⟨rfl, rfl⟩
          go_wp2_with fail
          refine (add_any _ _ y0 y1 y0 y1 _).mono ?_
          rintro e v4 ⟨rfl, hb4⟩
          go_wp2_with fail
          refine (less_any _ _ q0 q1 x0 x1 _).mono ?_
          rintro e v5 ⟨rfl, rfl⟩
          go_wp2_with fail
          go_ret
          exact ⟨rfl, bl_tr (bl_tr hb1 hb2) hb4⟩
      · clear E
        go_enter Try.func5, Try.ntmps5
        go_wp2_with fail
        refine (awake_any _).mono ?_
        rintro e v1 ⟨rfl, hb1⟩
        go_wp2_with (first | (go_at_call 12; refine (nan_any _ (by assumption) (by assumption) _).mono ?_; rintro e w' ⟨rfl, rfl⟩) | (go_at_call 13; refine (inf_any _ (by assumption) (by assumption) _).mono ?_; rintro e w' ⟨rfl, rfl⟩) | (go_at_call 19; refine (abs_any _ (by assumption) (by assumption) _).mono ?_; rintro e w' ⟨rfl, rfl⟩))
        refine (add_any _ _ x0 x1 x0 x1 _).mono ?_
        rintro e v2 ⟨rfl, hb2⟩
        go_wp2_with fail
        refine (less_any _ _ p0 p1 y0 y1 _).mono ?_
        rintro e v3 ⟨rfl, rfl⟩
        go_wp2_with fail
        go_ret
        exact ⟨rfl, bl_tr hb1 hb2⟩
    · have hsd : (decide (2147483648 ≤ a0) == decide (2147483648 ≤ a1)) = false := eq_ff (a := Flt.sgn a0) (b := Flt.sgn a1) hs
      clear hs
      go_enter Try.func5, Try.ntmps5
      go_wp2_with fail
      refine (awake_any _).mono ?_
      rintro e v1 ⟨rfl, hb1⟩
      go_wp2_with (first | (go_at_call 12; refine (nan_any _ (by assumption) (by assumption) _).mono ?_; rintro e w' ⟨rfl, rfl⟩) | (go_at_call 13; refine (inf_any _ (by assumption) (by assumption) _).mono ?_; rintro e w' ⟨rfl, rfl⟩) | (go_at_call 19; refine (abs_any _ (by assumption) (by assumption) _).mono ?_; rintro e w' ⟨rfl, rfl⟩))
      go_ret
      exact ⟨rfl, hb1⟩
  · cases n1 : Flt.isNaN a0 <;> cases n2 : Flt.isNaN a1 <;> cases n3 : Flt.isInf a0 <;> cases n4 : Flt.isInf a1
    case neg.false.false.false.false => exact absurd ⟨⟨n1, n3⟩, n2, n4⟩ hf
    all_goals clear hf
    all_goals
      go_enter Try.func5, Try.ntmps5
      go_wp2_with fail
      refine (awake_any _).mono ?_
      rintro e v1 ⟨rfl, hb1⟩
      go_wp2_with (first | (go_at_call 12; refine (nan_any _ (by assumption) (by assumption) _).mono ?_; rintro e w' ⟨rfl, rfl⟩) | (go_at_call 13; refine (inf_any _ (by assumption) (by assumption) _).mono ?_; rintro e w' ⟨rfl, rfl⟩) | (go_at_call 19; refine (abs_any _ (by assumption) (by assumption) _).mono ?_; rintro e w' ⟨rfl, rfl⟩))
      go_ret
      exact ⟨rfl, hb1⟩

set_option maxRecDepth 100000 in
theorem lifted (os : Os) (started : os.Started) (H : Type) (enc : TypeId × Value → H) :
    ReturnsInHanded {} Try.checked os 5 .any (Rows.softSterbenzSpec.pre6 enc Try.prog Try.f5 Rows.softSterbenzRow.domain false) (Rows.softSterbenzSpec.post enc Try.prog Try.f5 false true false false) := by
  refine returnsInHanded_of_change (C := Try.checked) own started (by kernel_rfl) Try.func5
    (ChangeSpec.witness6 (enc := enc) (C := Try.checked) false ⟨#[], #[.int .u32 0, .int .u32 0], []⟩ 8 (by kernel_rfl) (by kernel_rfl) (by kernel_rfl) (by kernel_rfl)) ?_
  intro W base args ds gs before hval0 hW hcnd _
  have hval : ∀ (j : Nat) t v, Try.f5.params[j]? = some t → args[j]? = some v → Value.okWide Try.prog W .any base t v := hval0
  have hW' := hW
  obtain ⟨p, q, hA0, hV, rfl, hfz, hnd⟩ := hW
  have hA : DataW.TrodAll enc Try.prog W 0 (fun _ => true) true Try.f5.params.toList args.toList ds p := hA0
  rw [Try.params5] at hA hval
  obtain ⟨v0, vs0, d0, ds0, p0, q0, hargs, rfl, rfl, h0, r0⟩ := trodAll_cons hA
  obtain ⟨v1, vs1, d1, ds1, p1, q1, rfl, rfl, rfl, h1, r1⟩ := trodAll_cons r0
  obtain ⟨rfl, rfl, rfl⟩ := trodAll_nil r1
  obtain rfl : args = #[v0, v1] := by cases args; simp_all
  obtain ⟨rfl, rfl⟩ := trodVars_none hV
  obtain ⟨a0, rfl, rfl, rfl, w0⟩ := open_int Try.underlying22 (hval 0 22 v0 rfl rfl) h0
  obtain ⟨a1, rfl, rfl, rfl, w1⟩ := open_int Try.underlying22 (hval 1 22 v1 rfl rfl) h1
  clear hA0 hval0
  simp only [List.append_nil] at hW'
  refine (walk a0 a1 w0 w1 W).mono fun e W' ⟨he, bel⟩ => ?_
  subst he
  exact ⟨_, rfl, _, _, _, [], _, [], hW', trodAll_mk1 (shut_bool Try.underlying4 _), (trodAll_cons_mk (shut_int Try.underlying22 w0) (trodAll_cons_mk (shut_int Try.underlying22 w1) trodAll_mk0)), rfl, bel.frame _, fun h => by cases h⟩

theorem over : Rows.softSterbenzRow.holds Try.pinned (OpenSpec.ofChange Rows.softSterbenzSpec) :=
  OpenClaim.holds_of_wide 5 Try.f5 rfl rfl rfl rfl rfl rfl rfl ⟨rfl, rfl, rfl, rfl, rfl⟩ rfl rfl rfl rfl rfl (by kernel_rfl) Try.func5 (by kernel_rfl)
    (of_decide_eq_true (by kernel_rfl)) (by unfold Func.isWrapper; first | (rw [if_pos (by decide +kernel)]; kernel_rfl) | (rw [if_neg (by decide +kernel)]; exact ⟨rfl, rfl⟩))
    (fun os started H enc _ => lifted os started H enc)

theorem proved : Rows.SoftSterbenzSaid :=
  over
#print axioms proved
end Go.Proofs.Ytfgdgnbkjoafmab.softSterbenz
