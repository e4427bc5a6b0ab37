/-
  RoundBack holds: whole numbers up to 2^24 in amount come back, Floor, Ceil and Even stand as they must, and twice is once. No condition.
-/
import Derived.Test.YtkbniebahledmaaRows
import Derived.WalkKit
import Derived.ProofKit
import Derived.OpenShut
import Derived.Below
import Derived.Test.YtkbniebahledmaaWkZi
import Derived.Test.YtkbniebahledmaaFltR
namespace Go.Proofs.Ytkbniebahledmaa.roundBack
open Go.ChangeShapes Go.WideShapes Go.ChangeAt Go.RowKit
set_option linter.unusedVariables false      -- a walk need not use every 'w<i>' (that an integer argument fits its kind)

theorem own : ownKnob Try.prog.godebug = none := by kernel_rfl

theorem less_not {s : Bool} {x y : Nat} (hx : x ≤ 2139095040) (hy : y ≤ 2139095040) (h1 : s = false → y ≤ x) (h2 : s = true → x ≤ y) : Flt.lessF (Flt.signBit s + (x : Int)) (Flt.signBit s + (y : Int)) = false := by
  rw [Flt.less_signed s x y hx hy]
  cases s
  · have := h1 rfl; simp; omega
  · have := h2 rfl; simp; omega

/-- What the law asks of the three, as one fact on their bits. -/
theorem wholes_law (a : Int) (h0 : 0 ≤ a) (h1 : a < 4294967296) (ha : Flt.mg a < 2139095040) :
    ∃ F C E : Int, Flt.wholeC 2 a = F ∧ Flt.wholeC 1 a = C ∧ Flt.wholeC 0 a = E ∧ (0 ≤ F ∧ F < 4294967296) ∧ (0 ≤ C ∧ C < 4294967296) ∧ (0 ≤ E ∧ E < 4294967296) ∧
      Flt.lessF a F = false ∧ Flt.lessF C a = false ∧ Flt.equalF F a = Flt.equalF C a ∧ (Flt.equalF E F = true ∨ (Flt.equalF E F = false ∧ Flt.equalF E C = true)) ∧
      (∀ way, Flt.wholeC way F = F) ∧ (∀ way, Flt.wholeC way C = C) ∧ (∀ way, Flt.wholeC way E = E) := by
  obtain ⟨f, c, e, F, C, E, f1, c1, e1, f2, c2, e2, f3, c3, e3, x1, x2, x3, x4⟩ := Flt.wholes a h0 h1 ha
  have es := Flt.signed_eq a h0 h1
  refine ⟨_, _, _, f1, c1, e1, Flt.signed_range _ _ (by omega), Flt.signed_range _ _ (by omega), Flt.signed_range _ _ (by omega), ?_, ?_, ?_, ?_, fun way => Flt.whole_fix way _ _ _ f2 f3, fun way => Flt.whole_fix way _ _ _ c2 c3, fun way => Flt.whole_fix way _ _ _ e2 e3⟩
  · have := less_not (s := Flt.sgn a) (x := Flt.mg a) (y := f) (by omega) (by omega) (fun h => (x1 h).1) (fun h => (x2 h).2)
    rw [← es] at this; exact this
  · have := less_not (s := Flt.sgn a) (x := c) (y := Flt.mg a) (by omega) (by omega) (fun h => (x1 h).2) (fun h => (x2 h).1)
    rw [← es] at this; exact this
  · have a1 := Flt.equal_signed (Flt.sgn a) f (Flt.mg a) (by omega) (by omega)
    have a2 := Flt.equal_signed (Flt.sgn a) c (Flt.mg a) (by omega) (by omega)
    rw [← es] at a1 a2
    rw [a1, a2, Bool.eq_iff_iff, decide_eq_true_eq, decide_eq_true_eq]; exact x3
  · rw [Flt.equal_signed _ _ _ (by omega) (by omega), Flt.equal_signed _ _ _ (by omega) (by omega)]
    by_cases h : e = f
    · exact .inl (by simp [h])
    · exact .inr ⟨by simp [h], by simp; omega⟩

set_option maxRecDepth 100000 in
set_option maxHeartbeats 8000000 in
theorem walk_in_nan (a0 : Int) (a1 : Int) (h0 : 0 ≤ a1) (h1 : a1 < 4294967296) (n0 : -16777216 ≤ a0) (n1 : a0 ≤ 16777216) (hn : Flt.isNaN a1 = true) (w : World) :
    Calls Try.prog 5 #[.int .i64 a0, .int .u32 a1] w fun e w' => e = .returned (.bool true) ∧ Below w.heap.size w w' := by
  have CFI := hide (fun w => cfromInt_any a0 (by omega) (by omega) w)
  obtain ⟨x0, x1, hbk⟩ : 0 ≤ Flt.rnd 0 (decide (a0 < 0)) 0 (a0.natAbs : Int) false ∧ Flt.rnd 0 (decide (a0 < 0)) 0 (a0.natAbs : Int) false < 4294967296 ∧ Flt.toIntV (Flt.rnd 0 (decide (a0 < 0)) 0 (a0.natAbs : Int) false) = a0 := by
    obtain ⟨m, e, _, hl⟩ := Flt.fromInt_rep a0 n0 n1
    refine ⟨?_, ?_, Flt.back a0 n0 n1⟩
    · rw [e]; exact (Flt.signed_range _ m (by omega)).1
    · rw [e]; exact (Flt.signed_range _ m (by omega)).2
  generalize Flt.rnd 0 (decide (a0 < 0)) 0 (a0.natAbs : Int) false = X at CFI x0 x1 hbk
  have CTI := hide (fun w => ctoInt_any X x0 x1 w)
  rw [hbk] at CTI
  clear hbk
  go_enter Try.func5, Try.ntmps5
  go_wp2_with fail
  refine (awake2_any _).mono ?_
  rintro e v1 ⟨rfl, hb⟩
  go_wp2_with (first | (go_at_call 18; refine (unhide CFI _).mono ?_; rintro e w1 ⟨rfl, rfl⟩) | (go_at_call 19; first | (refine (unhide CTI _).mono ?_; rintro e w1 ⟨rfl, hb1⟩; replace hb := bl_tr hb hb1; clear hb1)) | (go_at_call 20; refine (nan_any _ h0 h1 _).mono ?_; rintro e w1 ⟨rfl, rfl⟩))
  go_ret
  exact ⟨rfl, hb⟩
set_option maxRecDepth 100000 in
set_option maxHeartbeats 8000000 in
theorem walk_in_inf (a0 : Int) (a1 : Int) (h0 : 0 ≤ a1) (h1 : a1 < 4294967296) (n0 : -16777216 ≤ a0) (n1 : a0 ≤ 16777216) (hn : Flt.isNaN a1 = false) (hi : Flt.isInf a1 = true) (w : World) :
    Calls Try.prog 5 #[.int .i64 a0, .int .u32 a1] w fun e w' => e = .returned (.bool true) ∧ Below w.heap.size w w' := by
  have CFI := hide (fun w => cfromInt_any a0 (by omega) (by omega) w)
  obtain ⟨x0, x1, hbk⟩ : 0 ≤ Flt.rnd 0 (decide (a0 < 0)) 0 (a0.natAbs : Int) false ∧ Flt.rnd 0 (decide (a0 < 0)) 0 (a0.natAbs : Int) false < 4294967296 ∧ Flt.toIntV (Flt.rnd 0 (decide (a0 < 0)) 0 (a0.natAbs : Int) false) = a0 := by
    obtain ⟨m, e, _, hl⟩ := Flt.fromInt_rep a0 n0 n1
    refine ⟨?_, ?_, Flt.back a0 n0 n1⟩
    · rw [e]; exact (Flt.signed_range _ m (by omega)).1
    · rw [e]; exact (Flt.signed_range _ m (by omega)).2
  generalize Flt.rnd 0 (decide (a0 < 0)) 0 (a0.natAbs : Int) false = X at CFI x0 x1 hbk
  have CTI := hide (fun w => ctoInt_any X x0 x1 w)
  rw [hbk] at CTI
  clear hbk
  go_enter Try.func5, Try.ntmps5
  go_wp2_with fail
  refine (awake2_any _).mono ?_
  rintro e v1 ⟨rfl, hb⟩
  go_wp2_with (first | (go_at_call 18; refine (unhide CFI _).mono ?_; rintro e w1 ⟨rfl, rfl⟩) | (go_at_call 19; first | (refine (unhide CTI _).mono ?_; rintro e w1 ⟨rfl, hb1⟩; replace hb := bl_tr hb hb1; clear hb1)) | (go_at_call 20; refine (nan_any _ h0 h1 _).mono ?_; rintro e w1 ⟨rfl, rfl⟩) | (go_at_call 21; refine (inf_any _ h0 h1 _).mono ?_; rintro e w1 ⟨rfl, rfl⟩))
  go_ret
  exact ⟨rfl, hb⟩
set_option maxRecDepth 100000 in
set_option maxHeartbeats 8000000 in
theorem walk_in_fin (a0 : Int) (a1 : Int) (h0 : 0 ≤ a1) (h1 : a1 < 4294967296) (n0 : -16777216 ≤ a0) (n1 : a0 ≤ 16777216) (hn : Flt.isNaN a1 = false) (hi : Flt.isInf a1 = false) (w : World) :
    Calls Try.prog 5 #[.int .i64 a0, .int .u32 a1] w fun e w' => e = .returned (.bool true) ∧ Below w.heap.size w w' := by
  have CFI := hide (fun w => cfromInt_any a0 (by omega) (by omega) w)
  obtain ⟨x0, x1, hbk⟩ : 0 ≤ Flt.rnd 0 (decide (a0 < 0)) 0 (a0.natAbs : Int) false ∧ Flt.rnd 0 (decide (a0 < 0)) 0 (a0.natAbs : Int) false < 4294967296 ∧ Flt.toIntV (Flt.rnd 0 (decide (a0 < 0)) 0 (a0.natAbs : Int) false) = a0 := by
    obtain ⟨m, e, _, hl⟩ := Flt.fromInt_rep a0 n0 n1
    refine ⟨?_, ?_, Flt.back a0 n0 n1⟩
    · rw [e]; exact (Flt.signed_range _ m (by omega)).1
    · rw [e]; exact (Flt.signed_range _ m (by omega)).2
  generalize Flt.rnd 0 (decide (a0 < 0)) 0 (a0.natAbs : Int) false = X at CFI x0 x1 hbk
  have CTI := hide (fun w => ctoInt_any X x0 x1 w)
  rw [hbk] at CTI
  clear hbk
  obtain ⟨F, C, E, eF, eC, eE, ⟨F0, F1⟩, ⟨C0, C1⟩, ⟨E0, E1⟩, l1, l2, l3, l4, wF, wC, wE⟩ := wholes_law a1 h0 h1 ((Flt.fin_iff a1).1 ⟨hn, hi⟩)
  have CF := hide (fun w => cfloor_any a1 h0 h1 w)
  have CC := hide (fun w => cceil_any a1 h0 h1 w)
  have CE := hide (fun w => ceven_any a1 h0 h1 w)
  have CFF := hide (fun w => cfloor_any F F0 F1 w)
  have CCF := hide (fun w => cceil_any F F0 F1 w)
  have CEF := hide (fun w => ceven_any F F0 F1 w)
  have CFC := hide (fun w => cfloor_any C C0 C1 w)
  have CEC := hide (fun w => ceven_any C C0 C1 w)
  have CCE := hide (fun w => cceil_any E E0 E1 w)
  rw [eF] at CF; rw [eC] at CC; rw [eE] at CE
  rw [wF] at CFF CCF CEF; rw [wC] at CFC CEC; rw [wE] at CCE
  clear eF eC eE wF wC wE
  generalize hb1 : Flt.equalF F a1 = B1 at l3
  have hb2 := l3.symm
  clear l3
  rcases l4 with l4 | ⟨l4, l5⟩
  · go_enter Try.func5, Try.ntmps5
    go_wp2_with fail
    refine (awake2_any _).mono ?_
    rintro e v1 ⟨rfl, hb⟩
    go_wp2_with (first | (go_at_call 18; refine (unhide CFI _).mono ?_; rintro e w1 ⟨rfl, rfl⟩) | (go_at_call 19; first | (refine (unhide CTI _).mono ?_; rintro e w1 ⟨rfl, hb1⟩; replace hb := bl_tr hb hb1; clear hb1)) | (go_at_call 20; refine (nan_any _ h0 h1 _).mono ?_; rintro e w1 ⟨rfl, rfl⟩) | (go_at_call 21; refine (inf_any _ h0 h1 _).mono ?_; rintro e w1 ⟨rfl, rfl⟩) | (go_at_call 8; first | (refine (unhide CF _).mono ?_; rintro e w1 ⟨rfl, hb1⟩; replace hb := bl_tr hb hb1; clear hb1) | (refine (unhide CFF _).mono ?_; rintro e w1 ⟨rfl, hb1⟩; replace hb := bl_tr hb hb1; clear hb1) | (refine (unhide CFC _).mono ?_; rintro e w1 ⟨rfl, hb1⟩; replace hb := bl_tr hb hb1; clear hb1)) | (go_at_call 10; first | (refine (unhide CC _).mono ?_; rintro e w1 ⟨rfl, hb1⟩; replace hb := bl_tr hb hb1; clear hb1) | (refine (unhide CCF _).mono ?_; rintro e w1 ⟨rfl, hb1⟩; replace hb := bl_tr hb hb1; clear hb1) | (refine (unhide CCE _).mono ?_; rintro e w1 ⟨rfl, hb1⟩; replace hb := bl_tr hb hb1; clear hb1)) | (go_at_call 11; first | (refine (unhide CE _).mono ?_; rintro e w1 ⟨rfl, hb1⟩; replace hb := bl_tr hb hb1; clear hb1) | (refine (unhide CEF _).mono ?_; rintro e w1 ⟨rfl, hb1⟩; replace hb := bl_tr hb hb1; clear hb1) | (refine (unhide CEC _).mono ?_; rintro e w1 ⟨rfl, hb1⟩; replace hb := bl_tr hb hb1; clear hb1)) | (go_at_call 22; refine (less_any _ _ (by assumption) (by assumption) (by assumption) (by assumption) _).mono ?_; rintro e w1 ⟨rfl, rfl⟩) | (go_at_call 23; refine (equal_any _ _ (by assumption) (by assumption) (by assumption) (by assumption) _).mono ?_; rintro e w1 ⟨rfl, rfl⟩))
    go_ret
    exact ⟨rfl, hb⟩
  · go_enter Try.func5, Try.ntmps5
    go_wp2_with fail
    refine (awake2_any _).mono ?_
    rintro e v1 ⟨rfl, hb⟩
    go_wp2_with (first | (go_at_call 18; refine (unhide CFI _).mono ?_; rintro e w1 ⟨rfl, rfl⟩) | (go_at_call 19; first | (refine (unhide CTI _).mono ?_; rintro e w1 ⟨rfl, hb1⟩; replace hb := bl_tr hb hb1; clear hb1)) | (go_at_call 20; refine (nan_any _ h0 h1 _).mono ?_; rintro e w1 ⟨rfl, rfl⟩) | (go_at_call 21; refine (inf_any _ h0 h1 _).mono ?_; rintro e w1 ⟨rfl, rfl⟩) | (go_at_call 8; first | (refine (unhide CF _).mono ?_; rintro e w1 ⟨rfl, hb1⟩; replace hb := bl_tr hb hb1; clear hb1) | (refine (unhide CFF _).mono ?_; rintro e w1 ⟨rfl, hb1⟩; replace hb := bl_tr hb hb1; clear hb1) | (refine (unhide CFC _).mono ?_; rintro e w1 ⟨rfl, hb1⟩; replace hb := bl_tr hb hb1; clear hb1)) | (go_at_call 10; first | (refine (unhide CC _).mono ?_; rintro e w1 ⟨rfl, hb1⟩; replace hb := bl_tr hb hb1; clear hb1) | (refine (unhide CCF _).mono ?_; rintro e w1 ⟨rfl, hb1⟩; replace hb := bl_tr hb hb1; clear hb1) | (refine (unhide CCE _).mono ?_; rintro e w1 ⟨rfl, hb1⟩; replace hb := bl_tr hb hb1; clear hb1)) | (go_at_call 11; first | (refine (unhide CE _).mono ?_; rintro e w1 ⟨rfl, hb1⟩; replace hb := bl_tr hb hb1; clear hb1) | (refine (unhide CEF _).mono ?_; rintro e w1 ⟨rfl, hb1⟩; replace hb := bl_tr hb hb1; clear hb1) | (refine (unhide CEC _).mono ?_; rintro e w1 ⟨rfl, hb1⟩; replace hb := bl_tr hb hb1; clear hb1)) | (go_at_call 22; refine (less_any _ _ (by assumption) (by assumption) (by assumption) (by assumption) _).mono ?_; rintro e w1 ⟨rfl, rfl⟩) | (go_at_call 23; refine (equal_any _ _ (by assumption) (by assumption) (by assumption) (by assumption) _).mono ?_; rintro e w1 ⟨rfl, rfl⟩))
    go_ret
    exact ⟨rfl, hb⟩
set_option maxRecDepth 100000 in
set_option maxHeartbeats 8000000 in
theorem walk_lo_nan (a0 : Int) (a1 : Int) (h0 : 0 ≤ a1) (h1 : a1 < 4294967296) (n0 : a0 < -16777216) (hn : Flt.isNaN a1 = true) (w : World) :
    Calls Try.prog 5 #[.int .i64 a0, .int .u32 a1] w fun e w' => e = .returned (.bool true) ∧ Below w.heap.size w w' := by
  go_enter Try.func5, Try.ntmps5
  go_wp2_with fail
  refine (awake2_any _).mono ?_
  rintro e v1 ⟨rfl, hb⟩
  go_wp2_with (first | (go_at_call 20; refine (nan_any _ h0 h1 _).mono ?_; rintro e w1 ⟨rfl, rfl⟩))
  go_ret
  exact ⟨rfl, hb⟩
set_option maxRecDepth 100000 in
set_option maxHeartbeats 8000000 in
theorem walk_lo_inf (a0 : Int) (a1 : Int) (h0 : 0 ≤ a1) (h1 : a1 < 4294967296) (n0 : a0 < -16777216) (hn : Flt.isNaN a1 = false) (hi : Flt.isInf a1 = true) (w : World) :
    Calls Try.prog 5 #[.int .i64 a0, .int .u32 a1] w fun e w' => e = .returned (.bool true) ∧ Below w.heap.size w w' := by
  go_enter Try.func5, Try.ntmps5
  go_wp2_with fail
  refine (awake2_any _).mono ?_
  rintro e v1 ⟨rfl, hb⟩
  go_wp2_with (first | (go_at_call 20; refine (nan_any _ h0 h1 _).mono ?_; rintro e w1 ⟨rfl, rfl⟩) | (go_at_call 21; refine (inf_any _ h0 h1 _).mono ?_; rintro e w1 ⟨rfl, rfl⟩))
  go_ret
  exact ⟨rfl, hb⟩
set_option maxRecDepth 100000 in
set_option maxHeartbeats 8000000 in
theorem walk_lo_fin (a0 : Int) (a1 : Int) (h0 : 0 ≤ a1) (h1 : a1 < 4294967296) (n0 : a0 < -16777216) (hn : Flt.isNaN a1 = false) (hi : Flt.isInf a1 = false) (w : World) :
    Calls Try.prog 5 #[.int .i64 a0, .int .u32 a1] w fun e w' => e = .returned (.bool true) ∧ Below w.heap.size w w' := by
  obtain ⟨F, C, E, eF, eC, eE, ⟨F0, F1⟩, ⟨C0, C1⟩, ⟨E0, E1⟩, l1, l2, l3, l4, wF, wC, wE⟩ := wholes_law a1 h0 h1 ((Flt.fin_iff a1).1 ⟨hn, hi⟩)
  have CF := hide (fun w => cfloor_any a1 h0 h1 w)
  have CC := hide (fun w => cceil_any a1 h0 h1 w)
  have CE := hide (fun w => ceven_any a1 h0 h1 w)
  have CFF := hide (fun w => cfloor_any F F0 F1 w)
  have CCF := hide (fun w => cceil_any F F0 F1 w)
  have CEF := hide (fun w => ceven_any F F0 F1 w)
  have CFC := hide (fun w => cfloor_any C C0 C1 w)
  have CEC := hide (fun w => ceven_any C C0 C1 w)
  have CCE := hide (fun w => cceil_any E E0 E1 w)
  rw [eF] at CF; rw [eC] at CC; rw [eE] at CE
  rw [wF] at CFF CCF CEF; rw [wC] at CFC CEC; rw [wE] at CCE
  clear eF eC eE wF wC wE
  generalize hb1 : Flt.equalF F a1 = B1 at l3
  have hb2 := l3.symm
  clear l3
  rcases l4 with l4 | ⟨l4, l5⟩
  · go_enter Try.func5, Try.ntmps5
    go_wp2_with fail
    refine (awake2_any _).mono ?_
    rintro e v1 ⟨rfl, hb⟩
    go_wp2_with (first | (go_at_call 20; refine (nan_any _ h0 h1 _).mono ?_; rintro e w1 ⟨rfl, rfl⟩) | (go_at_call 21; refine (inf_any _ h0 h1 _).mono ?_; rintro e w1 ⟨rfl, rfl⟩) | (go_at_call 8; first | (refine (unhide CF _).mono ?_; rintro e w1 ⟨rfl, hb1⟩; replace hb := bl_tr hb hb1; clear hb1) | (refine (unhide CFF _).mono ?_; rintro e w1 ⟨rfl, hb1⟩; replace hb := bl_tr hb hb1; clear hb1) | (refine (unhide CFC _).mono ?_; rintro e w1 ⟨rfl, hb1⟩; replace hb := bl_tr hb hb1; clear hb1)) | (go_at_call 10; first | (refine (unhide CC _).mono ?_; rintro e w1 ⟨rfl, hb1⟩; replace hb := bl_tr hb hb1; clear hb1) | (refine (unhide CCF _).mono ?_; rintro e w1 ⟨rfl, hb1⟩; replace hb := bl_tr hb hb1; clear hb1) | (refine (unhide CCE _).mono ?_; rintro e w1 ⟨rfl, hb1⟩; replace hb := bl_tr hb hb1; clear hb1)) | (go_at_call 11; first | (refine (unhide CE _).mono ?_; rintro e w1 ⟨rfl, hb1⟩; replace hb := bl_tr hb hb1; clear hb1) | (refine (unhide CEF _).mono ?_; rintro e w1 ⟨rfl, hb1⟩; replace hb := bl_tr hb hb1; clear hb1) | (refine (unhide CEC _).mono ?_; rintro e w1 ⟨rfl, hb1⟩; replace hb := bl_tr hb hb1; clear hb1)) | (go_at_call 22; refine (less_any _ _ (by assumption) (by assumption) (by assumption) (by assumption) _).mono ?_; rintro e w1 ⟨rfl, rfl⟩) | (go_at_call 23; refine (equal_any _ _ (by assumption) (by assumption) (by assumption) (by assumption) _).mono ?_; rintro e w1 ⟨rfl, rfl⟩))
    go_ret
    exact ⟨rfl, hb⟩
  · go_enter Try.func5, Try.ntmps5
    go_wp2_with fail
    refine (awake2_any _).mono ?_
    rintro e v1 ⟨rfl, hb⟩
    go_wp2_with (first | (go_at_call 20; refine (nan_any _ h0 h1 _).mono ?_; rintro e w1 ⟨rfl, rfl⟩) | (go_at_call 21; refine (inf_any _ h0 h1 _).mono ?_; rintro e w1 ⟨rfl, rfl⟩) | (go_at_call 8; first | (refine (unhide CF _).mono ?_; rintro e w1 ⟨rfl, hb1⟩; replace hb := bl_tr hb hb1; clear hb1) | (refine (unhide CFF _).mono ?_; rintro e w1 ⟨rfl, hb1⟩; replace hb := bl_tr hb hb1; clear hb1) | (refine (unhide CFC _).mono ?_; rintro e w1 ⟨rfl, hb1⟩; replace hb := bl_tr hb hb1; clear hb1)) | (go_at_call 10; first | (refine (unhide CC _).mono ?_; rintro e w1 ⟨rfl, hb1⟩; replace hb := bl_tr hb hb1; clear hb1) | (refine (unhide CCF _).mono ?_; rintro e w1 ⟨rfl, hb1⟩; replace hb := bl_tr hb hb1; clear hb1) | (refine (unhide CCE _).mono ?_; rintro e w1 ⟨rfl, hb1⟩; replace hb := bl_tr hb hb1; clear hb1)) | (go_at_call 11; first | (refine (unhide CE _).mono ?_; rintro e w1 ⟨rfl, hb1⟩; replace hb := bl_tr hb hb1; clear hb1) | (refine (unhide CEF _).mono ?_; rintro e w1 ⟨rfl, hb1⟩; replace hb := bl_tr hb hb1; clear hb1) | (refine (unhide CEC _).mono ?_; rintro e w1 ⟨rfl, hb1⟩; replace hb := bl_tr hb hb1; clear hb1)) | (go_at_call 22; refine (less_any _ _ (by assumption) (by assumption) (by assumption) (by assumption) _).mono ?_; rintro e w1 ⟨rfl, rfl⟩) | (go_at_call 23; refine (equal_any _ _ (by assumption) (by assumption) (by assumption) (by assumption) _).mono ?_; rintro e w1 ⟨rfl, rfl⟩))
    go_ret
    exact ⟨rfl, hb⟩
set_option maxRecDepth 100000 in
set_option maxHeartbeats 8000000 in
theorem walk_hi_nan (a0 : Int) (a1 : Int) (h0 : 0 ≤ a1) (h1 : a1 < 4294967296) (n0 : 16777216 < a0) (hn : Flt.isNaN a1 = true) (w : World) :
    Calls Try.prog 5 #[.int .i64 a0, .int .u32 a1] w fun e w' => e = .returned (.bool true) ∧ Below w.heap.size w w' := by
  go_enter Try.func5, Try.ntmps5
  go_wp2_with fail
  refine (awake2_any _).mono ?_
  rintro e v1 ⟨rfl, hb⟩
  go_wp2_with (first | (go_at_call 20; refine (nan_any _ h0 h1 _).mono ?_; rintro e w1 ⟨rfl, rfl⟩))
  go_ret
  exact ⟨rfl, hb⟩
set_option maxRecDepth 100000 in
set_option maxHeartbeats 8000000 in
theorem walk_hi_inf (a0 : Int) (a1 : Int) (h0 : 0 ≤ a1) (h1 : a1 < 4294967296) (n0 : 16777216 < a0) (hn : Flt.isNaN a1 = false) (hi : Flt.isInf a1 = true) (w : World) :
    Calls Try.prog 5 #[.int .i64 a0, .int .u32 a1] w fun e w' => e = .returned (.bool true) ∧ Below w.heap.size w w' := by
  go_enter Try.func5, Try.ntmps5
  go_wp2_with fail
  refine (awake2_any _).mono ?_
  rintro e v1 ⟨rfl, hb⟩
  go_wp2_with (first | (go_at_call 20; refine (nan_any _ h0 h1 _).mono ?_; rintro e w1 ⟨rfl, rfl⟩) | (go_at_call 21; refine (inf_any _ h0 h1 _).mono ?_; rintro e w1 ⟨rfl, rfl⟩))
  go_ret
  exact ⟨rfl, hb⟩
set_option maxRecDepth 100000 in
set_option maxHeartbeats 8000000 in
theorem walk_hi_fin (a0 : Int) (a1 : Int) (h0 : 0 ≤ a1) (h1 : a1 < 4294967296) (n0 : 16777216 < a0) (hn : Flt.isNaN a1 = false) (hi : Flt.isInf a1 = false) (w : World) :
    Calls Try.prog 5 #[.int .i64 a0, .int .u32 a1] w fun e w' => e = .returned (.bool true) ∧ Below w.heap.size w w' := by
  obtain ⟨F, C, E, eF, eC, eE, ⟨F0, F1⟩, ⟨C0, C1⟩, ⟨E0, E1⟩, l1, l2, l3, l4, wF, wC, wE⟩ := wholes_law a1 h0 h1 ((Flt.fin_iff a1).1 ⟨hn, hi⟩)
  have CF := hide (fun w => cfloor_any a1 h0 h1 w)
  have CC := hide (fun w => cceil_any a1 h0 h1 w)
  have CE := hide (fun w => ceven_any a1 h0 h1 w)
  have CFF := hide (fun w => cfloor_any F F0 F1 w)
  have CCF := hide (fun w => cceil_any F F0 F1 w)
  have CEF := hide (fun w => ceven_any F F0 F1 w)
  have CFC := hide (fun w => cfloor_any C C0 C1 w)
  have CEC := hide (fun w => ceven_any C C0 C1 w)
  have CCE := hide (fun w => cceil_any E E0 E1 w)
  rw [eF] at CF; rw [eC] at CC; rw [eE] at CE
  rw [wF] at CFF CCF CEF; rw [wC] at CFC CEC; rw [wE] at CCE
  clear eF eC eE wF wC wE
  generalize hb1 : Flt.equalF F a1 = B1 at l3
  have hb2 := l3.symm
  clear l3
  rcases l4 with l4 | ⟨l4, l5⟩
  · go_enter Try.func5, Try.ntmps5
    go_wp2_with fail
    refine (awake2_any _).mono ?_
    rintro e v1 ⟨rfl, hb⟩
    go_wp2_with (first | (go_at_call 20; refine (nan_any _ h0 h1 _).mono ?_; rintro e w1 ⟨rfl, rfl⟩) | (go_at_call 21; refine (inf_any _ h0 h1 _).mono ?_; rintro e w1 ⟨rfl, rfl⟩) | (go_at_call 8; first | (refine (unhide CF _).mono ?_; rintro e w1 ⟨rfl, hb1⟩; replace hb := bl_tr hb hb1; clear hb1) | (refine (unhide CFF _).mono ?_; rintro e w1 ⟨rfl, hb1⟩; replace hb := bl_tr hb hb1; clear hb1) | (refine (unhide CFC _).mono ?_; rintro e w1 ⟨rfl, hb1⟩; replace hb := bl_tr hb hb1; clear hb1)) | (go_at_call 10; first | (refine (unhide CC _).mono ?_; rintro e w1 ⟨rfl, hb1⟩; replace hb := bl_tr hb hb1; clear hb1) | (refine (unhide CCF _).mono ?_; rintro e w1 ⟨rfl, hb1⟩; replace hb := bl_tr hb hb1; clear hb1) | (refine (unhide CCE _).mono ?_; rintro e w1 ⟨rfl, hb1⟩; replace hb := bl_tr hb hb1; clear hb1)) | (go_at_call 11; first | (refine (unhide CE _).mono ?_; rintro e w1 ⟨rfl, hb1⟩; replace hb := bl_tr hb hb1; clear hb1) | (refine (unhide CEF _).mono ?_; rintro e w1 ⟨rfl, hb1⟩; replace hb := bl_tr hb hb1; clear hb1) | (refine (unhide CEC _).mono ?_; rintro e w1 ⟨rfl, hb1⟩; replace hb := bl_tr hb hb1; clear hb1)) | (go_at_call 22; refine (less_any _ _ (by assumption) (by assumption) (by assumption) (by assumption) _).mono ?_; rintro e w1 ⟨rfl, rfl⟩) | (go_at_call 23; refine (equal_any _ _ (by assumption) (by assumption) (by assumption) (by assumption) _).mono ?_; rintro e w1 ⟨rfl, rfl⟩))
    go_ret
    exact ⟨rfl, hb⟩
  · go_enter Try.func5, Try.ntmps5
    go_wp2_with fail
    refine (awake2_any _).mono ?_
    rintro e v1 ⟨rfl, hb⟩
    go_wp2_with (first | (go_at_call 20; refine (nan_any _ h0 h1 _).mono ?_; rintro e w1 ⟨rfl, rfl⟩) | (go_at_call 21; refine (inf_any _ h0 h1 _).mono ?_; rintro e w1 ⟨rfl, rfl⟩) | (go_at_call 8; first | (refine (unhide CF _).mono ?_; rintro e w1 ⟨rfl, hb1⟩; replace hb := bl_tr hb hb1; clear hb1) | (refine (unhide CFF _).mono ?_; rintro e w1 ⟨rfl, hb1⟩; replace hb := bl_tr hb hb1; clear hb1) | (refine (unhide CFC _).mono ?_; rintro e w1 ⟨rfl, hb1⟩; replace hb := bl_tr hb hb1; clear hb1)) | (go_at_call 10; first | (refine (unhide CC _).mono ?_; rintro e w1 ⟨rfl, hb1⟩; replace hb := bl_tr hb hb1; clear hb1) | (refine (unhide CCF _).mono ?_; rintro e w1 ⟨rfl, hb1⟩; replace hb := bl_tr hb hb1; clear hb1) | (refine (unhide CCE _).mono ?_; rintro e w1 ⟨rfl, hb1⟩; replace hb := bl_tr hb hb1; clear hb1)) | (go_at_call 11; first | (refine (unhide CE _).mono ?_; rintro e w1 ⟨rfl, hb1⟩; replace hb := bl_tr hb hb1; clear hb1) | (refine (unhide CEF _).mono ?_; rintro e w1 ⟨rfl, hb1⟩; replace hb := bl_tr hb hb1; clear hb1) | (refine (unhide CEC _).mono ?_; rintro e w1 ⟨rfl, hb1⟩; replace hb := bl_tr hb hb1; clear hb1)) | (go_at_call 22; refine (less_any _ _ (by assumption) (by assumption) (by assumption) (by assumption) _).mono ?_; rintro e w1 ⟨rfl, rfl⟩) | (go_at_call 23; refine (equal_any _ _ (by assumption) (by assumption) (by assumption) (by assumption) _).mono ?_; rintro e w1 ⟨rfl, rfl⟩))
    go_ret
    exact ⟨rfl, hb⟩
theorem walk (a0 : Int) (a1 : Int) (w0 : (Lit.int .i64 a0).wf = true) (w1 : (Lit.int .u32 a1).wf = true) (w : World) :
    Calls Try.prog 5 #[.int .i64 a0, .int .u32 a1] w fun e w' => e = .returned (.bool true) ∧ Below w.heap.size w w' := by
  obtain ⟨h0, h1⟩ := wf_u32_iff w1
  rcases Int.lt_or_le a0 (-16777216) with g | g
  · cases hn : Flt.isNaN a1
    · cases hi : Flt.isInf a1
      · exact walk_lo_fin a0 a1 h0 h1 g hn hi w
      · exact walk_lo_inf a0 a1 h0 h1 g hn hi w
    · exact walk_lo_nan a0 a1 h0 h1 g hn w
  · rcases Int.lt_or_le 16777216 a0 with k | k
    · cases hn : Flt.isNaN a1
      · cases hi : Flt.isInf a1
        · exact walk_hi_fin a0 a1 h0 h1 k hn hi w
        · exact walk_hi_inf a0 a1 h0 h1 k hn hi w
      · exact walk_hi_nan a0 a1 h0 h1 k hn w
    · cases hn : Flt.isNaN a1
      · cases hi : Flt.isInf a1
        · exact walk_in_fin a0 a1 h0 h1 g k hn hi w
        · exact walk_in_inf a0 a1 h0 h1 g k hn hi w
      · exact walk_in_nan a0 a1 h0 h1 g k hn w

set_option maxRecDepth 100000 in
theorem lifted (os : Os) (started : os.Started) (H : Type) (enc : TypeId × Value → H) :
    ReturnsInHanded {} Try.checked os 5 .any (Rows.roundBackSpec.pre6 enc Try.prog Try.f5 Rows.roundBackRow.domain false) (Rows.roundBackSpec.post enc Try.prog Try.f5 false true false false) := by
  refine returnsInHanded_of_change (C := Try.checked) own started (by kernel_rfl) Try.func5
    (ChangeSpec.witness6 (enc := enc) (C := Try.checked) false ⟨#[], #[.int .i64 0, .int .u32 0], []⟩ 8 (by kernel_rfl) (by kernel_rfl) (by kernel_rfl) (by kernel_rfl)) ?_
  intro W base args ds gs before hval0 hW hcnd _
  have hval : ∀ (j : Nat) t v, Try.f5.params[j]? = some t → args[j]? = some v → Value.okWide Try.prog W .any base t v := hval0
  have hW' := hW
  obtain ⟨p, q, hA0, hV, rfl, hfz, hnd⟩ := hW
  have hA : DataW.TrodAll enc Try.prog W 0 (fun _ => true) true Try.f5.params.toList args.toList ds p := hA0
  rw [Try.params5] at hA hval
  obtain ⟨v0, vs0, d0, ds0, p0, q0, hargs, rfl, rfl, h0, r0⟩ := trodAll_cons hA
  obtain ⟨v1, vs1, d1, ds1, p1, q1, rfl, rfl, rfl, h1, r1⟩ := trodAll_cons r0
  obtain ⟨rfl, rfl, rfl⟩ := trodAll_nil r1
  obtain rfl : args = #[v0, v1] := by cases args; simp_all
  obtain ⟨rfl, rfl⟩ := trodVars_none hV
  obtain ⟨a0, rfl, rfl, rfl, w0⟩ := open_int Try.underlying2 (hval 0 2 v0 rfl rfl) h0
  obtain ⟨a1, rfl, rfl, rfl, w1⟩ := open_int Try.underlying22 (hval 1 22 v1 rfl rfl) h1
  clear hA0 hval0
  simp only [List.append_nil] at hW'
  refine (walk a0 a1 w0 w1 W).mono fun e W' ⟨he, bel⟩ => ?_
  subst he
  exact ⟨_, rfl, _, _, _, [], _, [], hW', trodAll_mk1 (shut_bool Try.underlying4 _), (trodAll_cons_mk (shut_int Try.underlying2 w0) (trodAll_cons_mk (shut_int Try.underlying22 w1) trodAll_mk0)), rfl, bel.frame _, fun h => by cases h⟩

theorem over : Rows.roundBackRow.holds Try.pinned (OpenSpec.ofChange Rows.roundBackSpec) :=
  OpenClaim.holds_of_wide 5 Try.f5 rfl rfl rfl rfl rfl rfl rfl ⟨rfl, rfl, rfl, rfl, rfl⟩ rfl rfl rfl rfl rfl (by kernel_rfl) Try.func5 (by kernel_rfl)
    (of_decide_eq_true (by kernel_rfl)) (by unfold Func.isWrapper; first | (rw [if_pos (by decide +kernel)]; kernel_rfl) | (rw [if_neg (by decide +kernel)]; exact ⟨rfl, rfl⟩))
    (fun os started H enc _ => lifted os started H enc)

theorem proved : Rows.RoundBackSaid :=
  over
#print axioms proved
end Go.Proofs.Ytkbniebahledmaa.roundBack
