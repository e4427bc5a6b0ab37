import Derived.Test.YtkbniebahledmabGI

/-
  Layer 3, its ground: ranges of what floats come to, and each function below it in one form: a letter that is told to be its answer.
-/
namespace Go.Proofs.Ytkbniebahledmab
open Go.RowKit
set_option linter.unusedVariables false

structure R (x : Int) : Prop where
  lo : 0 ≤ x
  hi : x < 4294967296

theorem R_good {x : Int} (h : Flt.Good x) : R x := ⟨h.1, h.2.1⟩
theorem R_mul {a b : Int} (ha : R a) (hb : R b) : R (Flt.mulBy 0 a b) := R_good (Flt.mulBy_good 0 a b ha.lo hb.lo)
theorem R_add {a b : Int} (ha : R a) (hb : R b) : R (Flt.addBy 0 a b) := R_good (Flt.addBy_good 0 a b ha.lo ha.hi hb.lo hb.hi)
theorem R_div {a b : Int} (ha : R a) (hb : R b) : R (Flt.divBy 0 a b) := R_good (Flt.divBy_good 0 a b ha.lo hb.lo)
theorem R_neg (a : Int) : R (Flt.negF a) := by unfold Flt.negF; exact ⟨by omega, by omega⟩
theorem R_abs (a : Int) : R (Flt.absF a) := by unfold Flt.absF; exact ⟨by omega, by omega⟩
theorem R_fma {a b c : Int} (ha : R a) (hb : R b) (hc : R c) : R (Flt.fmaC 0 a b c) := R_good (Flt.fma_good 0 a b c ha.lo hb.lo hc.lo hc.hi)
theorem R_min {a b : Int} (ha : R a) (hb : R b) : R (Flt.minF a b) := by
  unfold Flt.minF; (repeat' split) <;> first | assumption | exact ⟨by omega, by omega⟩
theorem R_max {a b : Int} (ha : R a) (hb : R b) : R (Flt.maxF a b) := by
  unfold Flt.maxF; (repeat' split) <;> first | assumption | exact ⟨by omega, by omega⟩

theorem rnd_clamp (way : Int) (neg : Bool) (exp s : Int) (more : Bool) :
    Flt.rnd way neg exp s more = Flt.rnd way neg (if exp < -1000 then -1000 else if 1000 < exp then 1000 else exp) s more := by
  unfold Flt.rnd
  congr 4
  (repeat' split) <;> omega
theorem rnd_good (way : Int) (neg : Bool) (exp : Int) (s : Nat) (h1 : s < 18446744073709551616) : Flt.Good (Flt.rnd way neg exp (s : Int) false) := by
  rcases Nat.eq_zero_or_pos s with hz | h0
  · subst hz
    have : Flt.rnd way neg exp ((0 : Nat) : Int) false = Flt.signBit neg + ((0 : Nat) : Int) := by simp [Flt.rnd]
    rw [this]; exact Flt.good_signed neg 0 (by omega)
  · rw [rnd_clamp]
    obtain ⟨E, hE⟩ : ∃ E : Int, (if exp < -1000 then -1000 else if 1000 < exp then 1000 else exp) = E := ⟨_, rfl⟩
    have hr : -1000 ≤ E ∧ E ≤ 1000 := by rw [← hE]; (repeat' split) <;> omega
    rw [hE]
    rcases Int.lt_or_le (E + 149) 0 with g | g
    · obtain ⟨r, r1, r2⟩ := Flt.rnd_RN way neg E s false s (2 ^ (-(E + 149)).toNat) (-(E + 149)).toNat 0 h0 h1 hr.1 hr.2 (Nat.two_pow_pos _) (by omega) (.inl ⟨rfl, by simp⟩)
      rw [r1]; exact Flt.good_signed neg r (Flt.RN_le r2)
    · obtain ⟨r, r1, r2⟩ := Flt.rnd_RN way neg E s false (s * 2 ^ (E + 149).toNat) 1 0 (E + 149).toNat h0 h1 hr.1 hr.2 (by omega) (by omega) (.inl ⟨rfl, by simp⟩)
      rw [r1]; exact Flt.good_signed neg r (Flt.RN_le r2)
theorem canon_ok {a : Int} (h : R a) : Flt.Good (Flt.canon a) := by
  unfold Flt.canon
  split
  · exact Flt.good_nan
  · rename_i hn; exact ⟨h.lo, h.hi, fun h => absurd h hn⟩
theorem even_good {a : Int} (h : R a) : Flt.Good (Flt.wholeC 0 a) := by
  by_cases hn : Flt.isNaN a = true
  · unfold Flt.wholeC; rw [if_pos hn]; exact Flt.good_nan
  · by_cases hf : Flt.mg a < 2139095040
    · obtain ⟨m, N, e, hm, _⟩ := Flt.wholeC_spec 0 a h.lo h.hi hf
      rw [e]; exact Flt.good_signed _ m (by omega)
    · have : 0 ≤ Flt.expo a := by
        unfold Flt.mg at hf; unfold Flt.expo; have := h.lo; split <;> omega
      unfold Flt.wholeC; rw [if_neg hn, if_pos this]
      exact ⟨h.lo, h.hi, fun h => absurd h hn⟩
theorem scale_good {a : Int} (h : R a) (k : Int) : Flt.Good (scaleC a k) := by
  unfold scaleC
  split
  · exact canon_ok h
  · obtain ⟨s0, s1⟩ := Flt.sig_range a
    obtain ⟨s, hs⟩ : ∃ s : Nat, Flt.sig a = (s : Int) := ⟨(Flt.sig a).toNat, by omega⟩
    rw [hs]
    exact rnd_good _ _ _ s (by omega)
def fromI (n : Int) : Int := Flt.rnd 0 (decide (n < 0)) 0 (n.natAbs : Int) false
theorem fromI_good (n : Int) (h0 : -9223372036854775808 ≤ n) (h1 : n < 9223372036854775808) : Flt.Good (fromI n) := rnd_good _ _ _ _ (by omega)
theorem toInt_range (a : Int) : -9223372036854775808 ≤ Flt.toIntV a ∧ Flt.toIntV a < 9223372036854775808 := by
  unfold Flt.toIntV
  split
  · omega
  · split
    · split <;> omega
    · have := Flt.cut_lt (Flt.mg a) (by omega)
      split <;> omega

/-- A row: each step rounded once. -/
def rowV (z y : Int) (cs : List Int) : Int := cs.foldl (fun p c => Flt.fmaC 0 z p c) y
theorem R_row {z : Int} (hz : R z) (cs : List Int) : ∀ {y : Int}, R y → (∀ c ∈ cs, R c) → R (rowV z y cs) := by
  induction cs with
  | nil => intro y hy _; exact hy
  | cons c cs ih => intro y hy h; exact ih (R_fma hz hy (h c (by simp))) (fun d hd => h d (by simp [hd]))

/-- Floats in a row of memory. -/
def CellsAt (w : World) (b : Nat) : Nat → List Int → Prop
  | _, [] => True
  | o, c :: cs => w.cell? ⟨b, o, none⟩ = some (.int .u32 c) ∧ CellsAt w b (o + 1) cs
theorem CellsAt.get {w : World} {b : Nat} : ∀ {cs : List Int} {o : Nat}, CellsAt w b o cs → ∀ i, i < cs.length → w.cell? ⟨b, o + i, none⟩ = some (.int .u32 (cs.getD i 0))
  | [], _, _, i, hi => absurd hi (by simp)
  | c :: cs, o, h, 0, _ => by simp; exact h.1
  | c :: cs, o, h, i + 1, hi => by
    have := CellsAt.get h.2 i (by simpa using hi)
    rw [show o + (i + 1) = o + 1 + i by omega]
    simpa using this
theorem CellsAt.below {w w' : World} {b : Nat} (hb : b < w.heap.size) (h : Below w.heap.size w w') : ∀ {cs : List Int} {o : Nat}, CellsAt w b o cs → CellsAt w' b o cs
  | [], _, _ => trivial
  | c :: cs, o, k => ⟨(h.cell (p := ⟨b, o, none⟩) hb).trans k.1, CellsAt.below hb h k.2⟩

theorem c_mul (a b : Int) (ha : R a) (hb : R b) (w : World) :
    Calls Try.prog 27 #[.int .u32 a, .int .u32 b] w fun e w' => ∃ k, e = .returned (.int .u32 k) ∧ Hid (k = Flt.mulBy 0 a b) ∧ R k ∧ Below w.heap.size w w' := by
  refine (mul_any a b ha.lo ha.hi hb.lo hb.hi w).mono ?_
  rintro e w1 ⟨rfl, hb1⟩
  exact ⟨_, rfl, hide rfl, R_mul ha hb, hb1⟩
theorem c_add (a b : Int) (ha : R a) (hb : R b) (w : World) :
    Calls Try.prog 26 #[.int .u32 a, .int .u32 b] w fun e w' => ∃ k, e = .returned (.int .u32 k) ∧ Hid (k = Flt.addBy 0 a b) ∧ R k ∧ Below w.heap.size w w' := by
  refine (add_any a b ha.lo ha.hi hb.lo hb.hi w).mono ?_
  rintro e w1 ⟨rfl, hb1⟩
  exact ⟨_, rfl, hide rfl, R_add ha hb, hb1⟩
theorem c_sub (a b : Int) (ha : R a) (hb : R b) (w : World) :
    Calls Try.prog 24 #[.int .u32 a, .int .u32 b] w fun e w' => ∃ k, e = .returned (.int .u32 k) ∧ Hid (k = Flt.addBy 0 a (Flt.negF b)) ∧ R k ∧ Below w.heap.size w w' := by
  refine (sub_any a b ha.lo ha.hi hb.lo hb.hi w).mono ?_
  rintro e w1 ⟨rfl, hb1⟩
  exact ⟨_, rfl, hide rfl, R_add ha (R_neg b), hb1⟩
theorem c_div (a b : Int) (ha : R a) (hb : R b) (w : World) :
    Calls Try.prog 25 #[.int .u32 a, .int .u32 b] w fun e w' => ∃ k, e = .returned (.int .u32 k) ∧ Hid (k = Flt.divBy 0 a b) ∧ R k ∧ Below w.heap.size w w' := by
  refine (div_any a b ha.lo ha.hi hb.lo hb.hi w).mono ?_
  rintro e w1 ⟨rfl, hb1⟩
  exact ⟨_, rfl, hide rfl, R_div ha hb, hb1⟩
theorem c_min (a b : Int) (ha : R a) (hb : R b) (w : World) :
    Calls Try.prog 52 #[.int .u32 a, .int .u32 b] w fun e w' => ∃ k, e = .returned (.int .u32 k) ∧ Hid (k = Flt.minF a b) ∧ R k ∧ Below w.heap.size w w' := by
  refine (min_any a b ha.lo ha.hi hb.lo hb.hi w).mono ?_
  rintro e w1 ⟨rfl, rfl⟩
  exact ⟨_, rfl, hide rfl, R_min ha hb, Below.refl _ _⟩
theorem c_max (a b : Int) (ha : R a) (hb : R b) (w : World) :
    Calls Try.prog 42 #[.int .u32 a, .int .u32 b] w fun e w' => ∃ k, e = .returned (.int .u32 k) ∧ Hid (k = Flt.maxF a b) ∧ R k ∧ Below w.heap.size w w' := by
  refine (max_any a b ha.lo ha.hi hb.lo hb.hi w).mono ?_
  rintro e w1 ⟨rfl, rfl⟩
  exact ⟨_, rfl, hide rfl, R_max ha hb, Below.refl _ _⟩
theorem c_neg (a : Int) (ha : R a) (w : World) :
    Calls Try.prog 34 #[.int .u32 a] w fun e w' => ∃ k, e = .returned (.int .u32 k) ∧ Hid (k = Flt.negF a) ∧ R k ∧ Below w.heap.size w w' := by
  refine (neg_any a ha.lo ha.hi w).mono ?_
  rintro e w1 ⟨rfl, rfl⟩
  exact ⟨_, rfl, hide rfl, R_neg a, Below.refl _ _⟩
theorem c_abs (a : Int) (ha : R a) (w : World) :
    Calls Try.prog 21 #[.int .u32 a] w fun e w' => ∃ k, e = .returned (.int .u32 k) ∧ Hid (k = Flt.absF a) ∧ R k ∧ Below w.heap.size w w' := by
  refine (abs_any a ha.lo ha.hi w).mono ?_
  rintro e w1 ⟨rfl, rfl⟩
  exact ⟨_, rfl, hide rfl, R_abs a, Below.refl _ _⟩
theorem c_fma (a b c : Int) (ha : R a) (hb : R b) (hc : R c) (w : World) :
    Calls Try.prog 32 #[.int .u32 a, .int .u32 b, .int .u32 c] w fun e w' => ∃ k, e = .returned (.int .u32 k) ∧ Hid (k = Flt.fmaC 0 a b c) ∧ R k ∧ Below w.heap.size w w' := by
  refine (cfma_any a b c ha.lo ha.hi hb.lo hb.hi hc.lo hc.hi w).mono ?_
  rintro e w1 ⟨rfl, hb1⟩
  exact ⟨_, rfl, hide rfl, R_fma ha hb hc, hb1⟩
theorem c_even (a : Int) (ha : R a) (w : World) :
    Calls Try.prog 36 #[.int .u32 a] w fun e w' => ∃ k, e = .returned (.int .u32 k) ∧ Hid (k = Flt.wholeC 0 a) ∧ R k ∧ Below w.heap.size w w' := by
  refine (ceven_any a ha.lo ha.hi w).mono ?_
  rintro e w1 ⟨rfl, hb1⟩
  exact ⟨_, rfl, hide rfl, R_good (even_good ha), hb1⟩
theorem c_scale (a n : Int) (ha : R a) (w : World) :
    Calls Try.prog 37 #[.int .u32 a, .int .i64 n] w fun e w' => ∃ k, e = .returned (.int .u32 k) ∧ Hid (k = scaleC a n) ∧ R k ∧ Below w.heap.size w w' := by
  refine (cscale_any a n ha.lo ha.hi w).mono ?_
  rintro e w1 ⟨rfl, hb1⟩
  exact ⟨_, rfl, hide rfl, R_good (scale_good ha n), hb1⟩
theorem c_fromInt (n : Int) (h0 : -9223372036854775808 ≤ n) (h1 : n < 9223372036854775808) (w : World) :
    Calls Try.prog 41 #[.int .i64 n] w fun e w' => ∃ k, e = .returned (.int .u32 k) ∧ Hid (k = fromI n) ∧ R k ∧ Below w.heap.size w w' := by
  refine (cfromInt_any n h0 h1 w).mono ?_
  rintro e w1 ⟨rfl, rfl⟩
  exact ⟨_, rfl, hide rfl, R_good (fromI_good n h0 h1), Below.refl _ _⟩
theorem cmpR_less (a b : Int) : ((!Flt.isNaN a && !Flt.isNaN b) && decide (cmpR a b < 0)) = Flt.lessF a b := by
  unfold Flt.lessF cmpR cmpF
  cases Flt.isNaN a <;> cases Flt.isNaN b <;> simp
  (repeat' split) <;> simp <;> omega
theorem cmpR_equal (a b : Int) : ((!Flt.isNaN a && !Flt.isNaN b) && (cmpR a b == 0)) = Flt.equalF a b := by
  unfold Flt.equalF cmpR cmpF
  cases Flt.isNaN a <;> cases Flt.isNaN b <;> simp
  rw [Bool.eq_iff_iff]
  (repeat' split) <;> simp <;> omega
set_option maxRecDepth 100000 in
theorem r_less (a b : Int) (ha : R a) (hb : R b) (w : World) :
    Calls Try.prog 11 #[.int .u32 a, .int .u32 b] w fun e w' => e = .returned (.bool (Flt.lessF a b)) ∧ w' = w := by
  have hl := cmpR_less a b
  generalize Flt.lessF a b = l at hl
  go_enter Try.func11, Try.ntmps11
  go_wp2_with fail
  refine (rcompared_any a b ha.lo ha.hi hb.lo hb.hi _).mono ?_
  rintro e w1 ⟨rfl, rfl⟩
  generalize (!Flt.isNaN a && !Flt.isNaN b) = ok at hl
  generalize cmpR a b = c at hl
  cases ok
  · rw [Bool.false_and] at hl
    subst hl
    go_wp2_with fail
    go_ret
    exact ⟨rfl, rfl⟩
  · rw [Bool.true_and] at hl
    go_wp2_with fail
    go_ret
    exact ⟨rfl, rfl⟩
theorem row_step (z y : Int) (cs : List Int) (k : Nat) (h : k < cs.length) : rowV z y (cs.take (k + 1)) = Flt.fmaC 0 z (rowV z y (cs.take k)) (cs.getD k 0) := by
  unfold rowV
  rw [List.take_add_one, List.foldl_append]
  simp [List.getElem?_eq_getElem h]
theorem R_getD {cs : List Int} (h : ∀ c ∈ cs, R c) (k : Nat) (hk : k < cs.length) : R (cs.getD k 0) := by
  have : cs.getD k 0 = cs[k] := by simp [List.getElem?_eq_getElem hk]
  rw [this]; exact h _ (List.getElem_mem hk)

set_option maxRecDepth 100000 in
set_option maxHeartbeats 1000000 in
/-- The code's row. -/
theorem c_row (z y : Int) (hz : R z) (hy : R y) (b o cap : Nat) (cs : List Int) (hcs : ∀ c ∈ cs, R c) (hlen : cs.length ≤ 100) (L : Nat) (hL : L = cs.length) (hcap : L ≤ cap) (w : World) (hb : b < w.heap.size) (hc : CellsAt w b o cs) :
    Calls Try.prog 33 #[.int .u32 z, .int .u32 y, .slice (some ⟨b, o, none⟩) L cap] w fun e w' => ∃ k, e = .returned (.int .u32 k) ∧ Hid (k = rowV z y cs) ∧ R k ∧ Below w.heap.size w w' := by
  subst hL
  have HC := hide hc
  have HCS := hide hcs
  clear hc hcs
  go_enter Try.func33, Try.ntmps33
  go_wp2_with fail
  go_loopw [7, 13] (fun yv i wr => ∃ n : Nat, ∃ p : Int, i = .int .i64 n ∧ yv = .int .u32 p ∧ n ≤ cs.length ∧ R p ∧ Hid (p = rowV z y (cs.take n)) ∧ Below w.heap.size w wr)
    (fun _ i _ => cs.length - (intOf i).toNat)
  case atStart => exact ⟨0, y, rfl, rfl, by omega, hy, hide (by simp [rowV]), Below.refl _ _⟩
  case round =>
    obtain ⟨n, p, rfl, rfl, hn, hp, HP, hbel⟩ := hrel
    by_cases hlt : n < cs.length
    · have hi : (n : Int) < (cs.length : Int) := by omega
      have hcell := CellsAt.get (CellsAt.below hb hbel (unhide HC)) n hlt
      have rc := R_getD (unhide HCS) n hlt
      have hst := row_step z y cs n hlt
      rw [← unhide HP] at hst
      generalize cs.getD n 0 = c at hcell rc hst
      have HST := hide hst
      clear hst
      go_wp2_with fail
      refine (c_fma z p c hz hp rc _).mono ?_
      rintro e w1 ⟨q, rfl, hq, rq, hb1⟩
      have hbel2 := bl_tr hbel hb1
      go_wp2_with fail
      go_roundw
      case rel => exact ⟨n + 1, q, by go_num, rfl, by omega, rq, hide (by rw [unhide HST]; exact unhide hq), hbel2⟩
      case measure => simp [intOf]; omega
    · have hi : ¬ (n : Int) < (cs.length : Int) := by omega
      have en : n = cs.length := by omega
      go_wp2_with fail
      go_ret
      refine ⟨p, rfl, hide ?_, hp, hbel⟩
      have := unhide HP
      rw [en, List.take_length] at this
      exact this

end Go.Proofs.Ytkbniebahledmab
