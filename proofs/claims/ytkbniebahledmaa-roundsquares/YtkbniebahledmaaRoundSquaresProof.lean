/-
  RoundSquares holds: the square of the lesser root is not above the number, that of the greater one not below it, and roots of squares of whole numbers up to 4096 are these. No condition.
-/
import Derived.Test.YtkbniebahledmaaRows
import Derived.WalkKit
import Derived.ProofKit
import Derived.OpenShut
import Derived.Below
import Derived.Test.YtkbniebahledmaaWkZi
import Derived.Test.YtkbniebahledmaaFltR
namespace Go.Proofs.Ytkbniebahledmaa.roundSquares
open Go.ChangeShapes Go.WideShapes Go.ChangeAt Go.RowKit
set_option linter.unusedVariables false      -- a walk need not use every 'w<i>' (that an integer argument fits its kind)

theorem own : ownKnob Try.prog.godebug = none := by kernel_rfl

theorem less_pos {x y : Nat} (hx : x ≤ 2139095040) (hy : y ≤ 2139095040) (h : y ≤ x) : Flt.lessF (x : Int) (y : Int) = false := by
  have := Flt.less_signed false x y hx hy
  simp only [Flt.signBit, Bool.false_eq_true, if_false, Int.zero_add] at this
  rw [this]; simp; omega
theorem sqrtAns_fin {way a r : Int} (ha : Flt.mg a < 2139095040) (hz : Flt.mg a ≠ 0) (hs : Flt.sgn a = false) (h : SqrtAns way a r) : ∃ v : Nat, r = (v : Int) ∧ Flt.RT way (Flt.A (Flt.mg a) * 2 ^ 149) v := by
  rcases h with ⟨hx, _⟩ | ⟨_, h⟩
  · exfalso
    rw [Flt.isNaN_iff, Flt.isInf_iff] at hx
    have : Flt.absF a = (Flt.mg a : Int) := by unfold Flt.absF Flt.mg; omega
    rcases hx with h | h | h | h
    · omega
    · omega
    · omega
    · rw [hs] at h; cases h
  · exact h
theorem root_square (a0 : Int) (h0 : 0 ≤ a0) (h1 : a0 ≤ 4096) :
    ∃ X M : Int, Flt.rnd 0 (decide (a0 < 0)) 0 (a0.natAbs : Int) false = X ∧ Flt.mulBy 0 X X = M ∧ (0 ≤ X ∧ X < 4294967296) ∧ (0 ≤ M ∧ M < 4294967296) ∧ (∀ r, SqrtAns 0 M r → r = X) := by
  obtain ⟨m, m2, e1, l1, e2, l2, e3, e4⟩ := Flt.square_rep a0 h0 h1
  refine ⟨_, _, e1, e2, ⟨by omega, by omega⟩, ⟨by omega, by omega⟩, fun r hr => ?_⟩
  have mm : Flt.mg (m2 : Int) = m2 := by unfold Flt.mg; omega
  have ms : Flt.sgn (m2 : Int) = false := by unfold Flt.sgn; simp; omega
  by_cases hz : m2 = 0
  · have := e4 hz
    subst hz this
    refine sqrtAns_one hr (.inl ⟨.inr (.inl (by decide)), by decide⟩)
  · obtain ⟨v, rfl, hv⟩ := sqrtAns_fin (by omega) (by omega) ms hr
    rw [mm, e3] at hv
    rw [Flt.RT_one hv (Flt.RT_sq m (by omega))]

/-- All that the law asks of the roots of a number above 0. -/
theorem roots_law (a l h : Int) (h0 : 0 ≤ a) (h1 : a < 4294967296) (ha : Flt.mg a < 2139095040) (hz : Flt.mg a ≠ 0) (hs : Flt.sgn a = false) (hl0 : SqrtAns 2 a l) (hh0 : SqrtAns 1 a h) :
    (0 ≤ l ∧ l < 4294967296) ∧ (0 ≤ h ∧ h < 4294967296) ∧ (0 ≤ Flt.mulBy 2 l l ∧ Flt.mulBy 2 l l < 4294967296) ∧ (0 ≤ Flt.mulBy 1 h h ∧ Flt.mulBy 1 h h < 4294967296) ∧
      Flt.lessF a (Flt.mulBy 2 l l) = false ∧ Flt.lessF (Flt.mulBy 1 h h) a = false ∧ Flt.lessF h l = false := by
  obtain ⟨l, rfl, hl⟩ := sqrtAns_fin ha hz hs hl0
  obtain ⟨h, rfl, hh⟩ := sqrtAns_fin ha hz hs hh0
  clear hl0 hh0
  obtain ⟨ml, il, el⟩ := hl
  obtain ⟨mh, ih, eh⟩ := hh
  have hml : l = ml := by rw [el]; unfold Flt.pickRt; rw [if_pos (.inr rfl)]
  have hmh : h ≤ mh + 1 := by rw [eh]; unfold Flt.pickRt; (repeat' split) <;> omega
  have fh := Flt.root_far ih.2.1 ha
  have fl := Flt.root_far il.2.1 ha
  have ea : a = (Flt.mg a : Int) := by
    have := Flt.signed_eq a h0 h1
    rw [hs] at this
    simpa [Flt.signBit] using this
  have mg_c : ∀ x : Nat, x < 2147483648 → Flt.mg (x : Int) = x := fun x hx => by unfold Flt.mg; omega
  have sg_c : ∀ x : Nat, x < 2147483648 → Flt.sgn (x : Int) = false := fun x hx => by unfold Flt.sgn; simp; omega
  obtain ⟨rb, b1, b2⟩ := Flt.mulBy_fin 2 (l : Int) (l : Int) (by omega) (by omega) (by rw [mg_c l (by omega)]; omega) (by rw [mg_c l (by omega)]; omega)
  obtain ⟨ra, a1, a2⟩ := Flt.mulBy_fin 1 (h : Int) (h : Int) (by omega) (by omega) (by rw [mg_c h (by omega)]; omega) (by rw [mg_c h (by omega)]; omega)
  rw [sg_c l (by omega), mg_c l (by omega)] at b2
  rw [sg_c h (by omega), mg_c h (by omega)] at a2
  rw [sg_c l (by omega)] at b1
  rw [sg_c h (by omega)] at a1
  have sb : Flt.signBit (false != false) = 0 := rfl
  rw [sb, Int.zero_add] at a1 b1
  have lb := Flt.RN_le b2
  have la := Flt.RN_le a2
  obtain ⟨x1, x2, x3⟩ := Flt.roots (Flt.mg a) l h rb ra ha ⟨ml, il, el⟩ ⟨mh, ih, eh⟩ b2 a2
  rw [a1, b1]
  refine ⟨⟨by omega, by omega⟩, ⟨by omega, by omega⟩, ⟨by omega, by omega⟩, ⟨by omega, by omega⟩, ?_, ?_, ?_⟩
  · rw [ea]; exact less_pos (by omega) lb x1
  · rw [ea]; exact less_pos la (by omega) x2
  · exact less_pos (by omega) (by omega) x3

set_option maxRecDepth 100000 in
set_option maxHeartbeats 8000000 in
theorem walk_in_not (a0 : Int) (a1 : Int) (h0 : 0 ≤ a0) (h1 : a0 < 4294967296) (n0 : 0 ≤ a1) (n1 : a1 ≤ 4096) (hl : Flt.lessF 0 a0 = false) (w : World) :
    Calls Try.prog 6 #[.int .u32 a0, .int .i64 a1] w fun e w' => e = .returned (.bool true) ∧ Below w.heap.size w w' := by
  obtain ⟨X, M, eX, eM, ⟨X0, X1⟩, ⟨M0, M1⟩, hS⟩ := root_square a1 n0 n1
  have CFI := hide (fun w => cfromInt_any a1 (by omega) (by omega) w)
  rw [eX] at CFI
  have CM := hide (fun w => mul_any X X X0 X1 X0 X1 w)
  rw [eM] at CM
  have CSQ : Hid (∀ w, Calls Try.prog 24 #[.int .u32 M] w fun e w' => e = .returned (.int .u32 X) ∧ Below w.heap.size w w') := hide fun w => by
    refine (csqrt_any M M0 M1 w).mono ?_
    rintro e w1 ⟨⟨r, rfl, hr⟩, hb⟩
    exact ⟨ret_int (hS r hr), hb⟩
  clear hS eX eM
  go_enter Try.func6, Try.ntmps6
  go_wp2_with fail
  refine (awake2_any _).mono ?_
  rintro e v1 ⟨rfl, hb⟩
  go_wp2_with (first | (go_at_call 18; refine (unhide CFI _).mono ?_; rintro e w1 ⟨rfl, rfl⟩) | (go_at_call 25; first | (refine (unhide CM _).mono ?_; rintro e w1 ⟨rfl, hb1⟩; replace hb := bl_tr hb hb1; clear hb1)) | (go_at_call 24; first | (refine (unhide CSQ _).mono ?_; rintro e w1 ⟨rfl, hb1⟩; replace hb := bl_tr hb hb1; clear hb1)) | (go_at_call 22; refine (less_any _ _ (by omega) (by omega) h0 h1 _).mono ?_; rintro e w1 ⟨rfl, rfl⟩) | (go_at_call 21; refine (inf_any _ h0 h1 _).mono ?_; rintro e w1 ⟨rfl, rfl⟩))
  go_ret
  exact ⟨rfl, hb⟩
set_option maxRecDepth 100000 in
set_option maxHeartbeats 8000000 in
theorem walk_in_inf (a0 : Int) (a1 : Int) (h0 : 0 ≤ a0) (h1 : a0 < 4294967296) (n0 : 0 ≤ a1) (n1 : a1 ≤ 4096) (hl : Flt.lessF 0 a0 = true) (hi : Flt.isInf a0 = true) (w : World) :
    Calls Try.prog 6 #[.int .u32 a0, .int .i64 a1] w fun e w' => e = .returned (.bool true) ∧ Below w.heap.size w w' := by
  obtain ⟨X, M, eX, eM, ⟨X0, X1⟩, ⟨M0, M1⟩, hS⟩ := root_square a1 n0 n1
  have CFI := hide (fun w => cfromInt_any a1 (by omega) (by omega) w)
  rw [eX] at CFI
  have CM := hide (fun w => mul_any X X X0 X1 X0 X1 w)
  rw [eM] at CM
  have CSQ : Hid (∀ w, Calls Try.prog 24 #[.int .u32 M] w fun e w' => e = .returned (.int .u32 X) ∧ Below w.heap.size w w') := hide fun w => by
    refine (csqrt_any M M0 M1 w).mono ?_
    rintro e w1 ⟨⟨r, rfl, hr⟩, hb⟩
    exact ⟨ret_int (hS r hr), hb⟩
  clear hS eX eM
  go_enter Try.func6, Try.ntmps6
  go_wp2_with fail
  refine (awake2_any _).mono ?_
  rintro e v1 ⟨rfl, hb⟩
  go_wp2_with (first | (go_at_call 18; refine (unhide CFI _).mono ?_; rintro e w1 ⟨rfl, rfl⟩) | (go_at_call 25; first | (refine (unhide CM _).mono ?_; rintro e w1 ⟨rfl, hb1⟩; replace hb := bl_tr hb hb1; clear hb1)) | (go_at_call 24; first | (refine (unhide CSQ _).mono ?_; rintro e w1 ⟨rfl, hb1⟩; replace hb := bl_tr hb hb1; clear hb1)) | (go_at_call 22; refine (less_any _ _ (by omega) (by omega) h0 h1 _).mono ?_; rintro e w1 ⟨rfl, rfl⟩) | (go_at_call 21; refine (inf_any _ h0 h1 _).mono ?_; rintro e w1 ⟨rfl, rfl⟩))
  go_ret
  exact ⟨rfl, hb⟩
set_option maxRecDepth 100000 in
set_option maxHeartbeats 8000000 in
theorem walk_in_fin (a0 : Int) (a1 : Int) (h0 : 0 ≤ a0) (h1 : a0 < 4294967296) (n0 : 0 ≤ a1) (n1 : a1 ≤ 4096) (hl : Flt.lessF 0 a0 = true) (hi : Flt.isInf a0 = false) (fa : Flt.mg a0 < 2139095040) (fz : Flt.mg a0 ≠ 0) (fs : Flt.sgn a0 = false) (w : World) :
    Calls Try.prog 6 #[.int .u32 a0, .int .i64 a1] w fun e w' => e = .returned (.bool true) ∧ Below w.heap.size w w' := by
  have FA := hide fa
  have FZ := hide fz
  have FS := hide fs
  clear fa fz fs
  obtain ⟨X, M, eX, eM, ⟨X0, X1⟩, ⟨M0, M1⟩, hS⟩ := root_square a1 n0 n1
  have CFI := hide (fun w => cfromInt_any a1 (by omega) (by omega) w)
  rw [eX] at CFI
  have CM := hide (fun w => mul_any X X X0 X1 X0 X1 w)
  rw [eM] at CM
  have CSQ : Hid (∀ w, Calls Try.prog 24 #[.int .u32 M] w fun e w' => e = .returned (.int .u32 X) ∧ Below w.heap.size w w') := hide fun w => by
    refine (csqrt_any M M0 M1 w).mono ?_
    rintro e w1 ⟨⟨r, rfl, hr⟩, hb⟩
    exact ⟨ret_int (hS r hr), hb⟩
  clear hS eX eM
  go_enter Try.func6, Try.ntmps6
  go_wp2_with fail
  refine (awake2_any _).mono ?_
  rintro e v1 ⟨rfl, hb⟩
  go_wp2_with (first | (go_at_call 18; refine (unhide CFI _).mono ?_; rintro e w1 ⟨rfl, rfl⟩) | (go_at_call 25; first | (refine (unhide CM _).mono ?_; rintro e w1 ⟨rfl, hb1⟩; replace hb := bl_tr hb hb1; clear hb1)) | (go_at_call 24; first | (refine (unhide CSQ _).mono ?_; rintro e w1 ⟨rfl, hb1⟩; replace hb := bl_tr hb hb1; clear hb1)) | (go_at_call 22; refine (less_any _ _ (by omega) (by omega) h0 h1 _).mono ?_; rintro e w1 ⟨rfl, rfl⟩) | (go_at_call 21; refine (inf_any _ h0 h1 _).mono ?_; rintro e w1 ⟨rfl, rfl⟩))
  refine (csqrtBy_any 2 a0 h0 h1 _).mono ?_
  rintro e v2 ⟨⟨l, rfl, hl⟩, hb2⟩
  go_wp2_with fail
  refine (csqrtBy_any 1 a0 h0 h1 _).mono ?_
  rintro e v3 ⟨⟨h, rfl, hh⟩, hb3⟩
  obtain ⟨⟨l0, l1⟩, ⟨g0, g1⟩, ⟨b0, b1⟩, ⟨c0, c1⟩, q1, q2, q3⟩ := roots_law a0 l h h0 h1 (unhide FA) (unhide FZ) (unhide FS) hl hh
  clear hl hh
  go_wp2_with fail
  refine (mulBy_any 2 l l l0 l1 l0 l1 _).mono ?_
  rintro e v4 ⟨rfl, hb4⟩
  go_wp2_with fail
  refine (mulBy_any 1 h h g0 g1 g0 g1 _).mono ?_
  rintro e v5 ⟨rfl, hb5⟩
  generalize Flt.mulBy 2 l l = B at b0 b1 q1 ⊢
  generalize Flt.mulBy 1 h h = C at c0 c1 q2 ⊢
  go_wp2_with (first | (go_at_call 22; refine (less_any _ _ (by assumption) (by assumption) (by assumption) (by assumption) _).mono ?_; rintro e w1 ⟨rfl, rfl⟩))
  go_ret
  exact ⟨rfl, bl_tr (bl_tr (bl_tr (bl_tr hb hb2) hb3) hb4) hb5⟩
set_option maxRecDepth 100000 in
set_option maxHeartbeats 8000000 in
theorem walk_lo_not (a0 : Int) (a1 : Int) (h0 : 0 ≤ a0) (h1 : a0 < 4294967296) (n0 : a1 < 0) (hl : Flt.lessF 0 a0 = false) (w : World) :
    Calls Try.prog 6 #[.int .u32 a0, .int .i64 a1] w fun e w' => e = .returned (.bool true) ∧ Below w.heap.size w w' := by
  go_enter Try.func6, Try.ntmps6
  go_wp2_with fail
  refine (awake2_any _).mono ?_
  rintro e v1 ⟨rfl, hb⟩
  go_wp2_with (first | (go_at_call 22; refine (less_any _ _ (by omega) (by omega) h0 h1 _).mono ?_; rintro e w1 ⟨rfl, rfl⟩) | (go_at_call 21; refine (inf_any _ h0 h1 _).mono ?_; rintro e w1 ⟨rfl, rfl⟩))
  go_ret
  exact ⟨rfl, hb⟩
set_option maxRecDepth 100000 in
set_option maxHeartbeats 8000000 in
theorem walk_lo_inf (a0 : Int) (a1 : Int) (h0 : 0 ≤ a0) (h1 : a0 < 4294967296) (n0 : a1 < 0) (hl : Flt.lessF 0 a0 = true) (hi : Flt.isInf a0 = true) (w : World) :
    Calls Try.prog 6 #[.int .u32 a0, .int .i64 a1] w fun e w' => e = .returned (.bool true) ∧ Below w.heap.size w w' := by
  go_enter Try.func6, Try.ntmps6
  go_wp2_with fail
  refine (awake2_any _).mono ?_
  rintro e v1 ⟨rfl, hb⟩
  go_wp2_with (first | (go_at_call 22; refine (less_any _ _ (by omega) (by omega) h0 h1 _).mono ?_; rintro e w1 ⟨rfl, rfl⟩) | (go_at_call 21; refine (inf_any _ h0 h1 _).mono ?_; rintro e w1 ⟨rfl, rfl⟩))
  go_ret
  exact ⟨rfl, hb⟩
set_option maxRecDepth 100000 in
set_option maxHeartbeats 8000000 in
theorem walk_lo_fin (a0 : Int) (a1 : Int) (h0 : 0 ≤ a0) (h1 : a0 < 4294967296) (n0 : a1 < 0) (hl : Flt.lessF 0 a0 = true) (hi : Flt.isInf a0 = false) (fa : Flt.mg a0 < 2139095040) (fz : Flt.mg a0 ≠ 0) (fs : Flt.sgn a0 = false) (w : World) :
    Calls Try.prog 6 #[.int .u32 a0, .int .i64 a1] w fun e w' => e = .returned (.bool true) ∧ Below w.heap.size w w' := by
  have FA := hide fa
  have FZ := hide fz
  have FS := hide fs
  clear fa fz fs
  go_enter Try.func6, Try.ntmps6
  go_wp2_with fail
  refine (awake2_any _).mono ?_
  rintro e v1 ⟨rfl, hb⟩
  go_wp2_with (first | (go_at_call 22; refine (less_any _ _ (by omega) (by omega) h0 h1 _).mono ?_; rintro e w1 ⟨rfl, rfl⟩) | (go_at_call 21; refine (inf_any _ h0 h1 _).mono ?_; rintro e w1 ⟨rfl, rfl⟩))
  refine (csqrtBy_any 2 a0 h0 h1 _).mono ?_
  rintro e v2 ⟨⟨l, rfl, hl⟩, hb2⟩
  go_wp2_with fail
  refine (csqrtBy_any 1 a0 h0 h1 _).mono ?_
  rintro e v3 ⟨⟨h, rfl, hh⟩, hb3⟩
  obtain ⟨⟨l0, l1⟩, ⟨g0, g1⟩, ⟨b0, b1⟩, ⟨c0, c1⟩, q1, q2, q3⟩ := roots_law a0 l h h0 h1 (unhide FA) (unhide FZ) (unhide FS) hl hh
  clear hl hh
  go_wp2_with fail
  refine (mulBy_any 2 l l l0 l1 l0 l1 _).mono ?_
  rintro e v4 ⟨rfl, hb4⟩
  go_wp2_with fail
  refine (mulBy_any 1 h h g0 g1 g0 g1 _).mono ?_
  rintro e v5 ⟨rfl, hb5⟩
  generalize Flt.mulBy 2 l l = B at b0 b1 q1 ⊢
  generalize Flt.mulBy 1 h h = C at c0 c1 q2 ⊢
  go_wp2_with (first | (go_at_call 22; refine (less_any _ _ (by assumption) (by assumption) (by assumption) (by assumption) _).mono ?_; rintro e w1 ⟨rfl, rfl⟩))
  go_ret
  exact ⟨rfl, bl_tr (bl_tr (bl_tr (bl_tr hb hb2) hb3) hb4) hb5⟩
set_option maxRecDepth 100000 in
set_option maxHeartbeats 8000000 in
theorem walk_hi_not (a0 : Int) (a1 : Int) (h0 : 0 ≤ a0) (h1 : a0 < 4294967296) (n0 : 4096 < a1) (hl : Flt.lessF 0 a0 = false) (w : World) :
    Calls Try.prog 6 #[.int .u32 a0, .int .i64 a1] w fun e w' => e = .returned (.bool true) ∧ Below w.heap.size w w' := by
  go_enter Try.func6, Try.ntmps6
  go_wp2_with fail
  refine (awake2_any _).mono ?_
  rintro e v1 ⟨rfl, hb⟩
  go_wp2_with (first | (go_at_call 22; refine (less_any _ _ (by omega) (by omega) h0 h1 _).mono ?_; rintro e w1 ⟨rfl, rfl⟩) | (go_at_call 21; refine (inf_any _ h0 h1 _).mono ?_; rintro e w1 ⟨rfl, rfl⟩))
  go_ret
  exact ⟨rfl, hb⟩
set_option maxRecDepth 100000 in
set_option maxHeartbeats 8000000 in
theorem walk_hi_inf (a0 : Int) (a1 : Int) (h0 : 0 ≤ a0) (h1 : a0 < 4294967296) (n0 : 4096 < a1) (hl : Flt.lessF 0 a0 = true) (hi : Flt.isInf a0 = true) (w : World) :
    Calls Try.prog 6 #[.int .u32 a0, .int .i64 a1] w fun e w' => e = .returned (.bool true) ∧ Below w.heap.size w w' := by
  go_enter Try.func6, Try.ntmps6
  go_wp2_with fail
  refine (awake2_any _).mono ?_
  rintro e v1 ⟨rfl, hb⟩
  go_wp2_with (first | (go_at_call 22; refine (less_any _ _ (by omega) (by omega) h0 h1 _).mono ?_; rintro e w1 ⟨rfl, rfl⟩) | (go_at_call 21; refine (inf_any _ h0 h1 _).mono ?_; rintro e w1 ⟨rfl, rfl⟩))
  go_ret
  exact ⟨rfl, hb⟩
set_option maxRecDepth 100000 in
set_option maxHeartbeats 8000000 in
theorem walk_hi_fin (a0 : Int) (a1 : Int) (h0 : 0 ≤ a0) (h1 : a0 < 4294967296) (n0 : 4096 < a1) (hl : Flt.lessF 0 a0 = true) (hi : Flt.isInf a0 = false) (fa : Flt.mg a0 < 2139095040) (fz : Flt.mg a0 ≠ 0) (fs : Flt.sgn a0 = false) (w : World) :
    Calls Try.prog 6 #[.int .u32 a0, .int .i64 a1] w fun e w' => e = .returned (.bool true) ∧ Below w.heap.size w w' := by
  have FA := hide fa
  have FZ := hide fz
  have FS := hide fs
  clear fa fz fs
  go_enter Try.func6, Try.ntmps6
  go_wp2_with fail
  refine (awake2_any _).mono ?_
  rintro e v1 ⟨rfl, hb⟩
  go_wp2_with (first | (go_at_call 22; refine (less_any _ _ (by omega) (by omega) h0 h1 _).mono ?_; rintro e w1 ⟨rfl, rfl⟩) | (go_at_call 21; refine (inf_any _ h0 h1 _).mono ?_; rintro e w1 ⟨rfl, rfl⟩))
  refine (csqrtBy_any 2 a0 h0 h1 _).mono ?_
  rintro e v2 ⟨⟨l, rfl, hl⟩, hb2⟩
  go_wp2_with fail
  refine (csqrtBy_any 1 a0 h0 h1 _).mono ?_
  rintro e v3 ⟨⟨h, rfl, hh⟩, hb3⟩
  obtain ⟨⟨l0, l1⟩, ⟨g0, g1⟩, ⟨b0, b1⟩, ⟨c0, c1⟩, q1, q2, q3⟩ := roots_law a0 l h h0 h1 (unhide FA) (unhide FZ) (unhide FS) hl hh
  clear hl hh
  go_wp2_with fail
  refine (mulBy_any 2 l l l0 l1 l0 l1 _).mono ?_
  rintro e v4 ⟨rfl, hb4⟩
  go_wp2_with fail
  refine (mulBy_any 1 h h g0 g1 g0 g1 _).mono ?_
  rintro e v5 ⟨rfl, hb5⟩
  generalize Flt.mulBy 2 l l = B at b0 b1 q1 ⊢
  generalize Flt.mulBy 1 h h = C at c0 c1 q2 ⊢
  go_wp2_with (first | (go_at_call 22; refine (less_any _ _ (by assumption) (by assumption) (by assumption) (by assumption) _).mono ?_; rintro e w1 ⟨rfl, rfl⟩))
  go_ret
  exact ⟨rfl, bl_tr (bl_tr (bl_tr (bl_tr hb hb2) hb3) hb4) hb5⟩
theorem walk (a0 : Int) (a1 : Int) (w0 : (Lit.int .u32 a0).wf = true) (w1 : (Lit.int .i64 a1).wf = true) (w : World) :
    Calls Try.prog 6 #[.int .u32 a0, .int .i64 a1] w fun e w' => e = .returned (.bool true) ∧ Below w.heap.size w w' := by
  obtain ⟨h0, h1⟩ := wf_u32_iff w0
  have fin : Flt.lessF 0 a0 = true → Flt.isInf a0 = false → Flt.mg a0 < 2139095040 ∧ Flt.mg a0 ≠ 0 ∧ Flt.sgn a0 = false := by
    intro h hi
    unfold Flt.lessF at h
    simp only [Bool.and_eq_true, Bool.not_eq_true', decide_eq_true_eq] at h
    refine ⟨(Flt.fin_iff a0).1 ⟨h.1.2, hi⟩, ?_, ?_⟩
    · intro hz
      have := h.2
      unfold Flt.place at this; unfold Flt.mg at hz
      split at this <;> split at this <;> omega
    · have := h.2
      unfold Flt.sgn; simp
      unfold Flt.place at this
      split at this <;> split at this <;> omega
  rcases Int.lt_or_le a1 0 with g | g
  · cases hl : Flt.lessF 0 a0
    · exact walk_lo_not a0 a1 h0 h1 g hl w
    · cases hi : Flt.isInf a0
      · obtain ⟨f1, f2, f3⟩ := fin hl hi
        exact walk_lo_fin a0 a1 h0 h1 g hl hi f1 f2 f3 w
      · exact walk_lo_inf a0 a1 h0 h1 g hl hi w
  · rcases Int.lt_or_le 4096 a1 with k | k
    · cases hl : Flt.lessF 0 a0
      · exact walk_hi_not a0 a1 h0 h1 k hl w
      · cases hi : Flt.isInf a0
        · obtain ⟨f1, f2, f3⟩ := fin hl hi
          exact walk_hi_fin a0 a1 h0 h1 k hl hi f1 f2 f3 w
        · exact walk_hi_inf a0 a1 h0 h1 k hl hi w
    · cases hl : Flt.lessF 0 a0
      · exact walk_in_not a0 a1 h0 h1 g k hl w
      · cases hi : Flt.isInf a0
        · obtain ⟨f1, f2, f3⟩ := fin hl hi
          exact walk_in_fin a0 a1 h0 h1 g k hl hi f1 f2 f3 w
        · exact walk_in_inf a0 a1 h0 h1 g k hl hi w

set_option maxRecDepth 100000 in
theorem lifted (os : Os) (started : os.Started) (H : Type) (enc : TypeId × Value → H) :
    ReturnsInHanded {} Try.checked os 6 .any (Rows.roundSquaresSpec.pre6 enc Try.prog Try.f6 Rows.roundSquaresRow.domain false) (Rows.roundSquaresSpec.post enc Try.prog Try.f6 false true false false) := by
  refine returnsInHanded_of_change (C := Try.checked) own started (by kernel_rfl) Try.func6
    (ChangeSpec.witness6 (enc := enc) (C := Try.checked) false ⟨#[], #[.int .u32 0, .int .i64 0], []⟩ 8 (by kernel_rfl) (by kernel_rfl) (by kernel_rfl) (by kernel_rfl)) ?_
  intro W base args ds gs before hval0 hW hcnd _
  have hval : ∀ (j : Nat) t v, Try.f6.params[j]? = some t → args[j]? = some v → Value.okWide Try.prog W .any base t v := hval0
  have hW' := hW
  obtain ⟨p, q, hA0, hV, rfl, hfz, hnd⟩ := hW
  have hA : DataW.TrodAll enc Try.prog W 0 (fun _ => true) true Try.f6.params.toList args.toList ds p := hA0
  rw [Try.params6] at hA hval
  obtain ⟨v0, vs0, d0, ds0, p0, q0, hargs, rfl, rfl, h0, r0⟩ := trodAll_cons hA
  obtain ⟨v1, vs1, d1, ds1, p1, q1, rfl, rfl, rfl, h1, r1⟩ := trodAll_cons r0
  obtain ⟨rfl, rfl, rfl⟩ := trodAll_nil r1
  obtain rfl : args = #[v0, v1] := by cases args; simp_all
  obtain ⟨rfl, rfl⟩ := trodVars_none hV
  obtain ⟨a0, rfl, rfl, rfl, w0⟩ := open_int Try.underlying22 (hval 0 22 v0 rfl rfl) h0
  obtain ⟨a1, rfl, rfl, rfl, w1⟩ := open_int Try.underlying2 (hval 1 2 v1 rfl rfl) h1
  clear hA0 hval0
  simp only [List.append_nil] at hW'
  refine (walk a0 a1 w0 w1 W).mono fun e W' ⟨he, bel⟩ => ?_
  subst he
  exact ⟨_, rfl, _, _, _, [], _, [], hW', trodAll_mk1 (shut_bool Try.underlying4 _), (trodAll_cons_mk (shut_int Try.underlying22 w0) (trodAll_cons_mk (shut_int Try.underlying2 w1) trodAll_mk0)), rfl, bel.frame _, fun h => by cases h⟩

theorem over : Rows.roundSquaresRow.holds Try.pinned (OpenSpec.ofChange Rows.roundSquaresSpec) :=
  OpenClaim.holds_of_wide 6 Try.f6 rfl rfl rfl rfl rfl rfl rfl ⟨rfl, rfl, rfl, rfl, rfl⟩ rfl rfl rfl rfl rfl (by kernel_rfl) Try.func6 (by kernel_rfl)
    (of_decide_eq_true (by kernel_rfl)) (by unfold Func.isWrapper; first | (rw [if_pos (by decide +kernel)]; kernel_rfl) | (rw [if_neg (by decide +kernel)]; exact ⟨rfl, rfl⟩))
    (fun os started H enc _ => lifted os started H enc)

theorem proved : Rows.RoundSquaresSaid :=
  over
#print axioms proved
end Go.Proofs.Ytkbniebahledmaa.roundSquares
