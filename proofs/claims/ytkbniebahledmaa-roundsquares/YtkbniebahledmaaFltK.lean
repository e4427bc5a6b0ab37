/-
  Sums of amounts in units of any size, rounded once; roots; whole numbers. No program is named here.
-/
import Derived.Test.YtkbniebahledmaaFltJ
namespace Go.Proofs.Ytkbniebahledmaa
namespace Flt

/-- The document's words for a sum of two amounts with signs, in units of 1 / q of the least float. -/
def SumQ (way : Int) (xn yn : Bool) (X Y q : Nat) (res : Int) : Prop :=
  (xn = yn → X + Y = 0 → res = signBit xn) ∧
  (xn = yn → 0 < X + Y → ∃ r : Nat, res = signBit xn + (r : Int) ∧ RN way xn (X + Y) q r) ∧
  (xn ≠ yn → X = Y → res = signBit (decide (way = 2))) ∧
  (xn ≠ yn → Y < X → ∃ r : Nat, res = signBit xn + (r : Int) ∧ RN way xn (X - Y) q r) ∧
  (xn ≠ yn → X < Y → ∃ r : Nat, res = signBit yn + (r : Int) ∧ RN way yn (Y - X) q r)

theorem SumQ_one {way : Int} {xn yn : Bool} {X Y q : Nat} {res res' : Int} (hq : 0 < q) (h : SumQ way xn yn X Y q res) (h' : SumQ way xn yn X Y q res') : res = res' := by
  obtain ⟨h1, h2, h3, h4, h5⟩ := h
  obtain ⟨g1, g2, g3, g4, g5⟩ := h'
  by_cases e : xn = yn
  · rcases Nat.eq_zero_or_pos (X + Y) with f | f
    · rw [h1 e f, g1 e f]
    · obtain ⟨r, a1, a2⟩ := h2 e f
      obtain ⟨r', b1, b2⟩ := g2 e f
      rw [a1, b1, RN_one hq a2 b2]
  · rcases Nat.lt_trichotomy X Y with f | f | f
    · obtain ⟨r, a1, a2⟩ := h5 e f
      obtain ⟨r', b1, b2⟩ := g5 e f
      rw [a1, b1, RN_one hq a2 b2]
    · rw [h3 e f, g3 e f]
    · obtain ⟨r, a1, a2⟩ := h4 e f
      obtain ⟨r', b1, b2⟩ := g4 e f
      rw [a1, b1, RN_one hq a2 b2]

theorem good_sumQ {way : Int} {xn yn : Bool} {X Y q : Nat} {res : Int} (h : SumQ way xn yn X Y q res) : Good res := by
  obtain ⟨h1, h2, h3, h4, h5⟩ := h
  have hs : ∀ n : Bool, Good (signBit n) := fun n => by have := good_signed n 0 (by omega); simpa using this
  by_cases e : xn = yn
  · rcases Nat.eq_zero_or_pos (X + Y) with f | f
    · rw [h1 e f]; exact hs _
    · obtain ⟨r, a1, a2⟩ := h2 e f
      rw [a1]; exact good_signed _ _ (RN_le a2)
  · rcases Nat.lt_trichotomy X Y with f | f | f
    · obtain ⟨r, a1, a2⟩ := h5 e f
      rw [a1]; exact good_signed _ _ (RN_le a2)
    · rw [h3 e f]; exact hs _
    · obtain ⟨r, a1, a2⟩ := h4 e f
      rw [a1]; exact good_signed _ _ (RN_le a2)

/-- What a number, made finer by a factor, is rounded to. -/
theorem IsFl_scale {p q m c : Nat} (hc : 0 < c) : IsFl (p * c) (q * c) m ↔ IsFl p q m := by
  unfold IsFl
  have e1 : ∀ x : Nat, x * (q * c) ≤ p * c ↔ x * q ≤ p := fun x => by
    rw [← Nat.mul_assoc]; exact ⟨fun h => Nat.le_of_mul_le_mul_right h hc, fun h => Nat.mul_le_mul_right c h⟩
  have e2 : ∀ x : Nat, p * c < x * (q * c) ↔ p < x * q := fun x => by
    rw [← Nat.mul_assoc]; exact ⟨fun h => Nat.lt_of_mul_lt_mul_right h, fun h => Nat.mul_lt_mul_of_pos_right h hc⟩
  rw [e1, e2]
theorem pick_scale (way : Int) (neg : Bool) (p q m c : Nat) (hc : 0 < c) : pick way neg (p * c) (q * c) m = pick way neg p q m := by
  unfold pick
  have e1 : A m * (q * c) = p * c ↔ A m * q = p := by
    rw [← Nat.mul_assoc]; exact ⟨fun h => Nat.eq_of_mul_eq_mul_right hc h, fun h => by rw [h]⟩
  have e2 : (A m + A (m + 1)) * (q * c) < 2 * (p * c) ↔ (A m + A (m + 1)) * q < 2 * p := by
    rw [← Nat.mul_assoc, ← Nat.mul_assoc]; exact ⟨fun h => Nat.lt_of_mul_lt_mul_right h, fun h => Nat.mul_lt_mul_of_pos_right h hc⟩
  have e3 : (A m + A (m + 1)) * (q * c) = 2 * (p * c) ↔ (A m + A (m + 1)) * q = 2 * p := by
    rw [← Nat.mul_assoc, ← Nat.mul_assoc]; exact ⟨fun h => Nat.eq_of_mul_eq_mul_right hc h, fun h => by rw [h]⟩
  simp only [e1, e2, e3]
/-- Rounding hangs on the value alone. -/
theorem RN_scale {way : Int} {neg : Bool} {p q r c : Nat} (hc : 0 < c) : RN way neg (p * c) (q * c) r ↔ RN way neg p q r := by
  unfold RN
  constructor
  · rintro ⟨m, h1, h2⟩
    exact ⟨m, (IsFl_scale hc).1 h1, by rw [h2, pick_scale way neg p q m c hc]⟩
  · rintro ⟨m, h1, h2⟩
    exact ⟨m, (IsFl_scale hc).2 h1, by rw [h2, pick_scale way neg p q m c hc]⟩

/-- A root: m the greatest whose amount's square is at most n. -/
def IsRt (n m : Nat) : Prop := m < 2139095040 ∧ A m * A m ≤ n ∧ n < A (m + 1) * A (m + 1)
theorem isRt_one {n m m' : Nat} (h : IsRt n m) (h' : IsRt n m') : m = m' := by
  have key : ∀ a b : Nat, IsRt n a → IsRt n b → ¬ a < b := by
    intro a b ha hb hlt
    have h1 := A_mono (show a + 1 ≤ b by omega)
    have h2 := Nat.mul_le_mul h1 h1
    have := ha.2.2; have := hb.2.1
    omega
  rcases Nat.lt_trichotomy m m' with h1 | h1 | h1
  · exact absurd h1 (key _ _ h h')
  · exact h1
  · exact absurd h1 (key _ _ h' h)
def pickRt (way : Int) (n m : Nat) : Nat :=
  if A m * A m = n ∨ way = 2 then m
  else if way = 1 then m + 1
  else if (A m + A (m + 1)) * (A m + A (m + 1)) < n * 4 ∨ ((A m + A (m + 1)) * (A m + A (m + 1)) = n * 4 ∧ m % 2 = 1) then m + 1 else m
/-- r: the float that the root of n is rounded to by a way. -/
def RT (way : Int) (n r : Nat) : Prop := ∃ m, IsRt n m ∧ r = pickRt way n m
theorem RT_one {way : Int} {n r r' : Nat} (h : RT way n r) (h' : RT way n r') : r = r' := by
  obtain ⟨m, h1, h2⟩ := h
  obtain ⟨m', g1, g2⟩ := h'
  have := isRt_one h1 g1
  subst this
  rw [h2, g2]
end Flt
end Go.Proofs.Ytkbniebahledmaa
