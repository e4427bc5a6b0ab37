/-
  What follows of sums, products and quotients: changed about, the three ways side by side, order kept, exact differences. No program is named here.
-/
import Derived.Test.YtkbniebahledmaaFltG
namespace Go.Proofs.Ytkbniebahledmaa
namespace Flt

/-- A result: 32 bits; if it is no number, the one. -/
def Good (r : Int) : Prop := 0 ≤ r ∧ r < 4294967296 ∧ (isNaN r = true → r = 2143289344)
theorem good_nan : Good 2143289344 := ⟨by omega, by omega, fun _ => rfl⟩
theorem good_signed (n : Bool) (r : Nat) (h : r ≤ 2139095040) : Good (signBit n + (r : Int)) := by
  obtain ⟨a, b⟩ := signed_range n r (by omega)
  refine ⟨a, b, fun h2 => ?_⟩
  rw [isNaN_iff, mg_signed n r (by omega)] at h2
  omega
theorem canon_good {r : Int} (h : Good r) : canon r = r := by
  unfold canon
  by_cases hn : isNaN r = true
  · rw [if_pos hn, h.2.2 hn]
  · rw [if_neg hn]

theorem good_sum {way : Int} {xn yn : Bool} {X Y : Nat} {res : Int} (h : SumSpec way xn yn X Y res) : Good res := by
  obtain ⟨h1, h2, h3, h4, h5⟩ := h
  have hs : ∀ n : Bool, Good (signBit n) := fun n => by have := good_signed n 0 (by omega); simpa using this
  by_cases e : xn = yn
  · rcases Nat.eq_zero_or_pos (X + Y) with f | f
    · rw [h1 e f]; exact hs _
    · obtain ⟨r, a1, a2⟩ := h2 e f
      rw [a1]; exact good_signed _ _ (RN_le a2)
  · rcases Nat.lt_trichotomy X Y with f | f | f
    · obtain ⟨r, a1, a2⟩ := h5 e f
      rw [a1]; exact good_signed _ _ (RN_le a2)
    · rw [h3 e f]; exact hs _
    · obtain ⟨r, a1, a2⟩ := h4 e f
      rw [a1]; exact good_signed _ _ (RN_le a2)

theorem addBy_good (way a b : Int) (h0 : 0 ≤ a) (h1 : a < 4294967296) (g0 : 0 ≤ b) (g1 : b < 4294967296) : Good (addBy way a b) := by
  by_cases hn : isNaN a = true ∨ isNaN b = true
  · have : addBy way a b = 2143289344 := by unfold addBy; rw [if_pos hn]
    rw [this]; exact good_nan
  · have na : isNaN a = false := by cases h : isNaN a <;> simp_all
    have nb : isNaN b = false := by cases h : isNaN b <;> simp_all
    by_cases hi : isInf a = false ∧ isInf b = false
    · exact good_sum (addBy_fin way a b h0 g0 ((fin_iff a).1 ⟨na, hi.1⟩) ((fin_iff b).1 ⟨nb, hi.2⟩))
    · unfold addBy
      rw [if_neg hn]
      split
      · exact good_nan
      · split
        · exact ⟨h0, h1, fun h => by rw [na] at h; cases h⟩
        · split
          · exact ⟨g0, g1, fun h => by rw [nb] at h; cases h⟩
          · exfalso; simp_all

theorem mulBy_good (way a b : Int) (h0 : 0 ≤ a) (g0 : 0 ≤ b) : Good (mulBy way a b) := by
  by_cases hf : mg a < 2139095040 ∧ mg b < 2139095040
  · obtain ⟨r, e1, e2⟩ := mulBy_fin way a b h0 g0 hf.1 hf.2
    rw [e1]; exact good_signed _ _ (RN_le e2)
  · have hf' : ¬ ((isNaN a = false ∧ isInf a = false) ∧ (isNaN b = false ∧ isInf b = false)) := by rw [fin_iff, fin_iff]; exact hf
    unfold mulBy
    split
    · exact good_nan
    · split
      · exact good_nan
      · split
        · exact good_signed _ 2139095040 (by omega)
        · exfalso; simp_all

theorem divBy_good (way a b : Int) (h0 : 0 ≤ a) (g0 : 0 ≤ b) : Good (divBy way a b) := by
  by_cases hf : (mg a < 2139095040 ∧ mg a ≠ 0) ∧ (mg b < 2139095040 ∧ mg b ≠ 0)
  · obtain ⟨r, e1, e2⟩ := divBy_fin way a b h0 g0 hf.1.1 hf.2.1 hf.1.2 hf.2.2
    rw [e1]; exact good_signed _ _ (RN_le e2)
  · have hf' : ¬ (((isNaN a = false ∧ isInf a = false) ∧ a % 2147483648 ≠ 0) ∧ ((isNaN b = false ∧ isInf b = false) ∧ b % 2147483648 ≠ 0)) := by
      rw [fin_iff, fin_iff]; unfold mg at hf ⊢; omega
    unfold divBy
    split
    · exact good_nan
    · split
      · exact good_nan
      · split
        · exact good_signed _ 2139095040 (by omega)
        · split
          · have := good_signed (sgn a != sgn b) 0 (by omega); simpa using this
          · exfalso; simp_all

theorem addBy_comm (way a b : Int) (h0 : 0 ≤ a) (g0 : 0 ≤ b) : addBy way a b = addBy way b a := by
  by_cases hn : isNaN a = true ∨ isNaN b = true
  · unfold addBy; rw [if_pos hn, if_pos (Or.symm hn)]
  · have na : isNaN a = false := by cases h : isNaN a <;> simp_all
    have nb : isNaN b = false := by cases h : isNaN b <;> simp_all
    by_cases hi : isInf a = false ∧ isInf b = false
    · exact RN_sum_one (addBy_fin way a b h0 g0 ((fin_iff a).1 ⟨na, hi.1⟩) ((fin_iff b).1 ⟨nb, hi.2⟩))
        (addBy_fin way b a g0 h0 ((fin_iff b).1 ⟨nb, hi.2⟩) ((fin_iff a).1 ⟨na, hi.1⟩)).swap
    · unfold addBy
      cases ia : isInf a <;> cases ib : isInf b
      · exact absurd ⟨ia, ib⟩ hi
      · simp [na, nb]
      · simp [na, nb]
      · by_cases e : a = b
        · subst e; rfl
        · have e' : ¬ b = a := fun h => e h.symm
          simp [na, nb, e, e']
theorem mulBy_comm (way a b : Int) : mulBy way a b = mulBy way b a := by
  unfold mulBy
  rw [Int.add_comm (expo b), Int.mul_comm (sig b), show (sgn b != sgn a) = (sgn a != sgn b) by cases sgn a <;> cases sgn b <;> rfl]
  cases isNaN a <;> cases isNaN b <;> cases isInf a <;> cases isInf b <;> first | (simp; done) | simp [or_comm]

theorem sgn_neg (a : Int) (h0 : 0 ≤ a) (h1 : a < 4294967296) : sgn (negF a) = !sgn a := by
  unfold negF sgn
  rw [Bool.eq_iff_iff]; simp; omega
theorem mg_neg (a : Int) : mg (negF a) = mg a := by unfold negF mg; omega
theorem sub_self (a : Int) (h0 : 0 ≤ a) (h1 : a < 4294967296) (ha : mg a < 2139095040) : addBy 0 a (negF a) = 0 := by
  have hn : 0 ≤ negF a := by unfold negF; omega
  obtain ⟨_, _, h3, _, _⟩ := addBy_fin 0 a (negF a) h0 hn ha (by rw [mg_neg]; exact ha)
  rw [mg_neg, sgn_neg a h0 h1] at h3
  have := h3 (by cases sgn a <;> simp) rfl
  rw [this]; simp [signBit]

/-- Side by side: by Down, by Nearest, by Up. -/
theorem RN_three {neg : Bool} {p q d n h : Nat} (hq : 0 < q) (hd : RN 2 neg p q d) (hn : RN 0 neg p q n) (hh : RN 1 neg p q h) :
    d ≤ 2139095040 ∧ n ≤ 2139095040 ∧ h ≤ 2139095040 ∧
    (neg = false → d ≤ n ∧ n ≤ h ∧ (h = d ∨ h = d + 1)) ∧ (neg = true → h ≤ n ∧ n ≤ d ∧ (d = h ∨ d = h + 1)) := by
  refine ⟨RN_le hd, RN_le hn, RN_le hh, ?_⟩
  obtain ⟨m, m1, rfl⟩ := hd
  obtain ⟨m', m2, rfl⟩ := hn
  obtain ⟨m'', m3, rfl⟩ := hh
  have e1 := isFl_one m1 m2 hq
  have e2 := isFl_one m1 m3 hq
  subst e1; subst e2
  have hm := m1.1
  cases neg
  · refine ⟨fun _ => ?_, fun h => (by cases h)⟩
    have i2 : inW 2 false = true := rfl
    have i0 : inW 0 false = false := rfl
    have i1 : inW 1 false = false := rfl
    have o2 : outW 2 false = false := rfl
    have o0 : outW 0 false = false := rfl
    have o1 : outW 1 false = true := rfl
    unfold pick
    rw [i2, i0, i1, o2, o0, o1]
    by_cases hI : m = 2139095040
    · simp [hI]
    · by_cases hx : A m * q = p
      · simp [hI, hx]
      · simp [hI, hx]; (repeat' split) <;> omega
  · refine ⟨fun h => (by cases h), fun _ => ?_⟩
    have i2 : inW 2 true = false := rfl
    have i0 : inW 0 true = false := rfl
    have i1 : inW 1 true = true := rfl
    have o2 : outW 2 true = true := rfl
    have o0 : outW 0 true = false := rfl
    have o1 : outW 1 true = false := rfl
    unfold pick
    rw [i2, i0, i1, o2, o0, o1]
    by_cases hI : m = 2139095040
    · simp [hI]
    · by_cases hx : A m * q = p
      · simp [hI, hx]
      · simp [hI, hx]; (repeat' split) <;> omega
end Flt
end Go.Proofs.Ytkbniebahledmaa
