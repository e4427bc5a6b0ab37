/-
  Roots as package round reckons them are the document's; powers of two. No program is named here.
-/
import Derived.Test.YtkbniebahledmaaFltO
namespace Go.Proofs.Ytkbniebahledmaa
namespace Flt

theorem lt_of_sq {x y : Nat} (h : x * x < y * y) : x < y := by
  rcases Nat.lt_or_ge x y with g | g
  · exact g
  · have := Nat.mul_le_mul g g; omega
theorem le_of_sq {x y : Nat} (h : x * x ≤ y * y) : x ≤ y := by
  rcases Nat.lt_or_ge y x with g | g
  · have := Nat.mul_lt_mul'' g g; omega
  · exact g

/-- A root that comes out even. -/
theorem RT_exact (way : Int) (n p r : Nat) (hn : n = p * p) (h : RN way false p 1 r) (hb : p < A 2139095040) : RT way n r := by
  obtain ⟨m, ⟨m1, m2, m3⟩, rfl⟩ := h
  rw [Nat.mul_one] at m2 m3
  have hm : m < 2139095040 := by
    rcases Nat.lt_or_ge m 2139095040 with h | h
    · exact h
    · have := A_mono h; omega
  have m4 := m3 hm
  refine ⟨m, ⟨hm, by rw [hn]; exact Nat.mul_le_mul m2 m2, by rw [hn]; exact Nat.mul_lt_mul'' m4 m4⟩, ?_⟩
  unfold pick pickRt
  rw [if_neg (by omega), Nat.mul_one, Nat.mul_one]
  have e1 : A m = p ↔ A m * A m = n := by
    rw [hn]; exact ⟨fun h => by rw [h], fun h => Nat.le_antisymm (le_of_sq (by omega)) (le_of_sq (by omega))⟩
  have e2 : (A m + A (m + 1)) < 2 * p ↔ (A m + A (m + 1)) * (A m + A (m + 1)) < n * 4 := by
    have : n * 4 = (2 * p) * (2 * p) := by rw [hn]; rw [Nat.mul_mul_mul_comm]; omega
    rw [this]
    exact ⟨fun h => Nat.mul_lt_mul'' h h, fun h => lt_of_sq h⟩
  have e3 : (A m + A (m + 1)) = 2 * p ↔ (A m + A (m + 1)) * (A m + A (m + 1)) = n * 4 := by
    have : n * 4 = (2 * p) * (2 * p) := by rw [hn]; rw [Nat.mul_mul_mul_comm]; omega
    rw [this]
    exact ⟨fun h => by rw [h], fun h => Nat.le_antisymm (le_of_sq (by omega)) (le_of_sq (by omega))⟩
  have i : inW way false = decide (way = 2) := by unfold inW; simp
  have o : outW way false = decide (way = 1) := by unfold outW; simp
  rw [i, o]
  simp only [decide_eq_true_eq, e1, e2, e3]

/-- Floats about a root are whole multiples of its last bit. -/
theorem A_dvd (m k : Nat) (h : 2 ^ 24 * 2 ^ k ≤ A (m + 1)) : 2 ^ k ∣ A m ∧ 2 ^ k ∣ A (m + 1) := by
  obtain ⟨f, t, e1, e2, e3, e4⟩ := A_split m
  have hm : A m = t * 2 ^ f := by rw [e1]; exact A_form f t (by omega) e3
  have hs : A (m + 1) = (t + 1) * 2 ^ f := by rw [A_succ, hm, ← e4, Nat.succ_mul]
  have hkf : k ≤ f := by
    rcases Nat.lt_or_ge f k with g | g
    · exfalso
      have h1 : (t + 1) * 2 ^ f ≤ 2 ^ 24 * 2 ^ f := Nat.mul_le_mul_right _ (by have : (2 : Nat) ^ 24 = 16777216 := by decide
                                                                               omega)
      have h2 : 2 ^ 24 * 2 ^ f < 2 ^ 24 * 2 ^ k := Nat.mul_lt_mul_of_pos_left (Nat.pow_lt_pow_right (by decide) g) (by decide)
      omega
    · exact g
  have hd : 2 ^ k ∣ 2 ^ f := Nat.pow_dvd_pow 2 hkf
  exact ⟨by rw [hm]; exact Nat.dvd_trans hd (Nat.dvd_mul_left _ _), by rw [hs]; exact Nat.dvd_trans hd (Nat.dvd_mul_left _ _)⟩

/-- A root between s and s + 1, of the unit 2^k. -/
theorem RT_more (way : Int) (n s k r : Nat) (hs : 2 ^ 30 ≤ s) (h1 : s * s * (2 ^ k * 2 ^ k) < n) (h2 : n < (s + 1) * (s + 1) * (2 ^ k * 2 ^ k)) (hb : (s + 1) * 2 ^ k < A 2139095040)
    (h : RN way false ((2 * s + 1) * 2 ^ k) 2 r) : RT way n r := by
  obtain ⟨m, ⟨m1, m2, m3⟩, rfl⟩ := h
  have pk := Nat.two_pow_pos k
  have x1 : (2 * s + 1) * 2 ^ k = 2 * (s * 2 ^ k) + 2 ^ k := by rw [Nat.add_mul, Nat.one_mul, Nat.mul_assoc]
  have x2 : (s + 1) * 2 ^ k = s * 2 ^ k + 2 ^ k := Nat.succ_mul _ _
  have hm : m < 2139095040 := by
    rcases Nat.lt_or_ge m 2139095040 with h | h
    · exact h
    · have := A_mono h; omega
  have m4 := m3 hm
  have hlow : s * 2 ^ k < A (m + 1) := by omega
  have h24 : 2 ^ 24 * 2 ^ k ≤ A (m + 1) := by
    have : 2 ^ 24 * 2 ^ k ≤ s * 2 ^ k := Nat.mul_le_mul_right _ (Nat.le_trans (by decide) hs)
    omega
  obtain ⟨⟨a, ha⟩, ⟨b, hb2⟩⟩ := A_dvd m k h24
  rw [Nat.mul_comm] at ha hb2
  -- what the next finer unit says of the middle
  have h25 : 2 ^ 24 * 2 ^ (k + 1) ≤ A (m + 1) := by
    have e : 2 ^ 24 * 2 ^ (k + 1) = 2 ^ 25 * 2 ^ k := by rw [← Nat.pow_add, ← Nat.pow_add]; congr 1; omega
    rw [e]
    have : 2 ^ 25 * 2 ^ k ≤ s * 2 ^ k := Nat.mul_le_mul_right _ (Nat.le_trans (by decide) hs)
    omega
  obtain ⟨⟨c, hc⟩, ⟨d, hd⟩⟩ := A_dvd m (k + 1) h25
  have hmid : A m + A (m + 1) = 2 * (c + d) * 2 ^ k := by
    rw [hc, hd, Nat.pow_succ, ← Nat.mul_add]; generalize 2 ^ k = u
    rw [Nat.mul_comm u 2, Nat.mul_comm (2 * u), Nat.mul_comm 2 u, Nat.mul_comm 2 (c + d), Nat.mul_assoc, Nat.mul_comm 2 u]
  have as : a ≤ s := by
    rw [ha] at m2
    rcases Nat.lt_or_ge s a with g | g
    · exfalso
      have : (s + 1) * 2 ^ k ≤ a * 2 ^ k := Nat.mul_le_mul_right _ g
      omega
    · exact g
  have bs : s + 1 ≤ b := by
    rw [hb2] at hlow
    rcases Nat.lt_or_ge b (s + 1) with g | g
    · exfalso
      have : b * 2 ^ k ≤ s * 2 ^ k := Nat.mul_le_mul_right _ (by omega)
      omega
    · exact g
  have sq : ∀ x y : Nat, (x * 2 ^ k) * (y * 2 ^ k) = x * y * (2 ^ k * 2 ^ k) := fun x y => by rw [Nat.mul_mul_mul_comm]
  have pkk : 0 < 2 ^ k * 2 ^ k := Nat.mul_pos pk pk
  have lowm : A m * A m ≤ s * s * (2 ^ k * 2 ^ k) := by
    rw [ha, sq]; exact Nat.mul_le_mul_right _ (Nat.mul_le_mul as as)
  have him : (s + 1) * (s + 1) * (2 ^ k * 2 ^ k) ≤ A (m + 1) * A (m + 1) := by
    rw [hb2, sq]; exact Nat.mul_le_mul_right _ (Nat.mul_le_mul bs bs)
  refine ⟨m, ⟨hm, by omega, by omega⟩, ?_⟩
  have ne1 : ¬ A m * 2 = (2 * s + 1) * 2 ^ k := by
    have : A m ≤ s * 2 ^ k := by rw [ha]; exact Nat.mul_le_mul_right _ as
    omega
  have ne2 : ¬ A m * A m = n := by omega
  have mid1 : (A m + A (m + 1)) * 2 < 2 * ((2 * s + 1) * 2 ^ k) ↔ c + d ≤ s := by
    rw [hmid]
    constructor
    · intro g
      rcases Nat.lt_or_ge s (c + d) with q | q
      · exfalso
        have : (2 * s + 2) * 2 ^ k ≤ 2 * (c + d) * 2 ^ k := Nat.mul_le_mul_right _ (by omega)
        have e : (2 * s + 2) * 2 ^ k = (2 * s + 1) * 2 ^ k + 2 ^ k := Nat.succ_mul _ _
        omega
      · exact q
    · intro q
      have : 2 * (c + d) * 2 ^ k ≤ (2 * s) * 2 ^ k := Nat.mul_le_mul_right _ (by omega)
      have e : (2 * s + 1) * 2 ^ k = 2 * s * 2 ^ k + 2 ^ k := Nat.succ_mul _ _
      omega
  have mid0 : ¬ (A m + A (m + 1)) * 2 = 2 * ((2 * s + 1) * 2 ^ k) := by
    rw [hmid]
    intro g
    have : 2 * (c + d) = 2 * s + 1 := Nat.eq_of_mul_eq_mul_right pk (by omega)
    omega
  have n4 : n * 4 < (2 * (s + 1)) * (2 * (s + 1)) * (2 ^ k * 2 ^ k) ∧ (2 * s) * (2 * s) * (2 ^ k * 2 ^ k) < n * 4 := by
    have e1 : (2 * (s + 1)) * (2 * (s + 1)) * (2 ^ k * 2 ^ k) = ((s + 1) * (s + 1) * (2 ^ k * 2 ^ k)) * 4 := by
      rw [Nat.mul_mul_mul_comm 2]; generalize (s + 1) * (s + 1) = q; generalize 2 ^ k * 2 ^ k = u
      rw [Nat.mul_assoc (2 * 2), Nat.mul_comm (2 * 2)]
    have e2 : (2 * s) * (2 * s) * (2 ^ k * 2 ^ k) = (s * s * (2 ^ k * 2 ^ k)) * 4 := by
      rw [Nat.mul_mul_mul_comm 2]; generalize s * s = q; generalize 2 ^ k * 2 ^ k = u
      rw [Nat.mul_assoc (2 * 2), Nat.mul_comm (2 * 2)]
    omega
  have mq : (A m + A (m + 1)) * (A m + A (m + 1)) = (2 * (c + d)) * (2 * (c + d)) * (2 ^ k * 2 ^ k) := by rw [hmid, sq]
  have mid2 : (A m + A (m + 1)) * (A m + A (m + 1)) < n * 4 ↔ c + d ≤ s := by
    rw [mq]
    constructor
    · intro g
      rcases Nat.lt_or_ge s (c + d) with q | q
      · exfalso
        have : (2 * (s + 1)) * (2 * (s + 1)) * (2 ^ k * 2 ^ k) ≤ (2 * (c + d)) * (2 * (c + d)) * (2 ^ k * 2 ^ k) := Nat.mul_le_mul_right _ (Nat.mul_le_mul (by omega) (by omega))
        omega
      · exact q
    · intro q
      have : (2 * (c + d)) * (2 * (c + d)) * (2 ^ k * 2 ^ k) ≤ (2 * s) * (2 * s) * (2 ^ k * 2 ^ k) := Nat.mul_le_mul_right _ (Nat.mul_le_mul (by omega) (by omega))
      omega
  have mid3 : ¬ (A m + A (m + 1)) * (A m + A (m + 1)) = n * 4 := by
    intro g
    rw [mq] at g
    rcases Nat.lt_or_ge s (c + d) with q | q
    · have : (2 * (s + 1)) * (2 * (s + 1)) * (2 ^ k * 2 ^ k) ≤ (2 * (c + d)) * (2 * (c + d)) * (2 ^ k * 2 ^ k) := Nat.mul_le_mul_right _ (Nat.mul_le_mul (by omega) (by omega))
      omega
    · have : (2 * (c + d)) * (2 * (c + d)) * (2 ^ k * 2 ^ k) ≤ (2 * s) * (2 * s) * (2 ^ k * 2 ^ k) := Nat.mul_le_mul_right _ (Nat.mul_le_mul (by omega) (by omega))
      omega
  have i : inW way false = decide (way = 2) := by unfold inW; simp
  have o : outW way false = decide (way = 1) := by unfold outW; simp
  unfold pick pickRt
  rw [if_neg (by omega), i, o]
  simp only [decide_eq_true_eq, ne1, ne2, mid0, mid1, mid2, mid3, false_and, or_false, false_or]

/-- Rounding of a whole root is the document's root. -/
theorem root_RT (way E : Int) (s e U N r k : Nat) (he : e ≤ 253) (hN : N = s * 2 ^ U) (N0 : 2 ^ 62 ≤ N) (N1 : N < 2 ^ 64) (hU : U ≤ 63)
    (hk : e + 149 = U + 2 * k) (hE : E = (k : Int) - 149) (hr1 : r * r ≤ N) (hr2 : N < (r + 1) * (r + 1)) :
    ∃ v : Nat, rnd way false E (r : Int) (decide (r * r ≠ N)) = signBit false + (v : Int) ∧ RT way (s * 2 ^ e * 2 ^ 149) v := by
  have hn : s * 2 ^ e * 2 ^ 149 = N * (2 ^ k * 2 ^ k) := by
    rw [hN, Nat.mul_assoc, Nat.mul_assoc, ← Nat.pow_add, ← Nat.pow_add, ← Nat.pow_add]; congr 2; omega
  have r31 : 2 ^ 31 ≤ r := by
    rcases Nat.lt_or_ge r (2 ^ 31) with g | g
    · exfalso
      have g1 : (r + 1) * (r + 1) ≤ 2 ^ 31 * 2 ^ 31 := Nat.mul_le_mul g g
      have g2 : (2 : Nat) ^ 31 * 2 ^ 31 = 2 ^ 62 := by decide
      omega
    · exact g
  have r32 : r < 2 ^ 32 := by
    refine lt_of_sq (Nat.lt_of_le_of_lt hr1 ?_)
    have : (2 : Nat) ^ 32 * 2 ^ 32 = 2 ^ 64 := by decide
    omega
  have n31 : (2 : Nat) ^ 31 = 2147483648 := by decide
  have n32 : (2 : Nat) ^ 32 = 4294967296 := by decide
  have hbd : (r + 1) * 2 ^ k < A 2139095040 := by
    have b1 : (r + 1) * 2 ^ k ≤ 2 ^ 32 * 2 ^ k := Nat.mul_le_mul_right _ r32
    have b2 : 2 ^ 32 * 2 ^ k ≤ 2 ^ 32 * 2 ^ 201 := Nat.mul_le_mul_left _ (Nat.pow_le_pow_right (by decide) (by omega))
    have b3 : (2 : Nat) ^ 32 * 2 ^ 201 < 8388608 * 2 ^ 254 := by decide
    rw [A_inf]; omega
  have hk1 : k ≤ 1100 := by omega
  by_cases hx : r * r = N
  · rw [show decide (r * r ≠ N) = false by simp [hx], hE]
    obtain ⟨v, v1, v2⟩ := rnd_exact way false k r (r * 2 ^ k) (by omega) (by omega) hk1 rfl
    have hlt : r * 2 ^ k < A 2139095040 := Nat.lt_of_le_of_lt (Nat.mul_le_mul_right _ (by omega)) hbd
    exact ⟨v, v1, RT_exact way _ (r * 2 ^ k) v (by rw [hn, ← hx, Nat.mul_mul_mul_comm]) v2 hlt⟩
  · rw [show decide (r * r ≠ N) = true by simp [hx], hE]
    have pk := Nat.two_pow_pos k
    have pkk : 0 < 2 ^ k * 2 ^ k := Nat.mul_pos pk pk
    obtain ⟨v, v1, v2⟩ := rnd_RN way false ((k : Int) - 149) r true ((2 * r + 1) * 2 ^ k) 2 0 k (by omega) (by omega) (by omega) (by omega) (by decide) (by omega)
      (.inr (.inl ⟨rfl, by omega, by rw [Nat.pow_zero, Nat.mul_one]; exact Nat.mul_lt_mul_of_pos_right (by omega) pk, by rw [Nat.pow_zero, Nat.mul_one]; exact Nat.mul_lt_mul_of_pos_right (by omega) pk⟩))
    refine ⟨v, v1, RT_more way _ r k v (Nat.le_trans (by decide) r31) ?_ ?_ hbd v2⟩
    · rw [hn]; exact Nat.mul_lt_mul_of_pos_right (by omega) pkk
    · rw [hn]; exact Nat.mul_lt_mul_of_pos_right hr2 pkk

theorem rnd_low2 (way : Int) (neg : Bool) (exp : Int) (s : Nat) (more : Bool) (h0 : 1 ≤ s) (h1 : s < 18446744073709551616) (he : exp ≤ -300) : rnd way neg exp (s : Int) more = rnd way neg (-300) (s : Int) more := by
  obtain ⟨L, hL, l1, l2, l3⟩ := lz_int s h0 h1
  rw [rnd_form way neg exp s more L h0 hL, rnd_form way neg (-300) s more L h0 hL,
    core_low way neg more (s * 2 ^ L) _ l2 l3 (by (repeat' split) <;> omega), core_low way neg more (s * 2 ^ L) _ l2 l3 (by (repeat' split) <;> omega)]
end Flt
end Go.Proofs.Ytkbniebahledmaa
