/-
  Sums of package soft are the document's: the very sum, rounded once. No program is named here.
-/
import Derived.Test.YtkbniebahledmaaFltE
namespace Go.Proofs.Ytkbniebahledmaa
namespace Flt

/-- The document's words for a sum of two amounts with signs. -/
def SumSpec (way : Int) (xn yn : Bool) (X Y : Nat) (res : Int) : Prop :=
  (xn = yn → X + Y = 0 → res = signBit xn) ∧
  (xn = yn → 0 < X + Y → ∃ r : Nat, res = signBit xn + (r : Int) ∧ RN way xn (X + Y) 1 r) ∧
  (xn ≠ yn → X = Y → res = signBit (decide (way = 2))) ∧
  (xn ≠ yn → Y < X → ∃ r : Nat, res = signBit xn + (r : Int) ∧ RN way xn (X - Y) 1 r) ∧
  (xn ≠ yn → X < Y → ∃ r : Nat, res = signBit yn + (r : Int) ∧ RN way yn (Y - X) 1 r)

theorem SumSpec.swap {way : Int} {xn yn : Bool} {X Y : Nat} {res : Int} (h : SumSpec way xn yn X Y res) : SumSpec way yn xn Y X res := by
  obtain ⟨h1, h2, h3, h4, h5⟩ := h
  refine ⟨?_, ?_, ?_, ?_, ?_⟩
  · intro e; subst e; rw [Nat.add_comm]; exact h1 rfl
  · intro e; subst e; rw [Nat.add_comm]; exact h2 rfl
  · intro e f; exact h3 (Ne.symm e) f.symm
  · intro e f; exact h5 (Ne.symm e) f
  · intro e f; exact h4 (Ne.symm e) f

theorem RN_sum_one {way : Int} {xn yn : Bool} {X Y : Nat} {res res' : Int} (h : SumSpec way xn yn X Y res) (h' : SumSpec way xn yn X Y res') : res = res' := by
  obtain ⟨h1, h2, h3, h4, h5⟩ := h
  obtain ⟨g1, g2, g3, g4, g5⟩ := h'
  by_cases e : xn = yn
  · rcases Nat.eq_zero_or_pos (X + Y) with f | f
    · rw [h1 e f, g1 e f]
    · obtain ⟨r, a1, a2⟩ := h2 e f
      obtain ⟨r', b1, b2⟩ := g2 e f
      rw [a1, b1, RN_one (by decide) a2 b2]
  · rcases Nat.lt_trichotomy X Y with f | f | f
    · obtain ⟨r, a1, a2⟩ := h5 e f
      obtain ⟨r', b1, b2⟩ := g5 e f
      rw [a1, b1, RN_one (by decide) a2 b2]
    · rw [h3 e f, g3 e f]
    · obtain ⟨r, a1, a2⟩ := h4 e f
      obtain ⟨r', b1, b2⟩ := g4 e f
      rw [a1, b1, RN_one (by decide) a2 b2]

theorem pow_cast (n : Nat) : (2 : Int) ^ n = ((2 ^ n : Nat) : Int) := (Int.natCast_pow 2 n).symm

theorem rnd_exact (way : Int) (neg : Bool) (e : Nat) (s p : Nat) (h0 : 1 ≤ s) (h1 : s < 18446744073709551616) (he : e ≤ 1100) (hp : p = s * 2 ^ e) :
    ∃ r : Nat, rnd way neg ((e : Int) - 149) (s : Int) false = signBit neg + (r : Int) ∧ RN way neg p 1 r :=
  rnd_RN way neg _ s false p 1 0 e h0 h1 (by omega) (by omega) (by decide) (by omega) (.inl ⟨rfl, by rw [hp]; simp⟩)

theorem rnd_more (way : Int) (neg : Bool) (e : Nat) (s p : Nat) (h0 : 16777216 ≤ s) (h1 : s < 18446744073709551616) (he : e ≤ 1100) (hp : s * 2 ^ e < p) (hp2 : p < (s + 1) * 2 ^ e) :
    ∃ r : Nat, rnd way neg ((e : Int) - 149) (s : Int) true = signBit neg + (r : Int) ∧ RN way neg p 1 r :=
  rnd_RN way neg _ s true p 1 0 e (by omega) h1 (by omega) (by omega) (by decide) (by omega) (.inr (.inl ⟨rfl, h0, by simpa using hp, by simpa using hp2⟩))

theorem sum_near_spec (way : Int) (xn yn : Bool) (ex xs ey ys : Nat) (hx : xs < 16777216) (hy : ys < 16777216) (ho : ey ≤ ex) (hg : ex - ey ≤ 39) (hey : ey ≤ 254) :
    SumSpec way xn yn (xs * 2 ^ ex) (ys * 2 ^ ey) (sumOrd way xn ((ex : Int) - 149) (xs : Int) yn ((ey : Int) - 149) (ys : Int)) := by
  have hgap : ((ex : Int) - 149 - ((ey : Int) - 149)).toNat = ex - ey := by omega
  have hB : (xs : Int) * 2 ^ (ex - ey) = ((xs * 2 ^ (ex - ey) : Nat) : Int) := by rw [pow_cast, ← Int.natCast_mul]
  have hX : xs * 2 ^ ex = (xs * 2 ^ (ex - ey)) * 2 ^ ey := by rw [Nat.mul_assoc, ← Nat.pow_add, show ex - ey + ey = ex by omega]
  have hBlt : xs * 2 ^ (ex - ey) < 16777216 * 2 ^ 39 := by
    have h1 : 2 ^ (ex - ey) ≤ 2 ^ 39 := Nat.pow_le_pow_right (by decide) hg
    have h2 : xs * 2 ^ (ex - ey) ≤ xs * 2 ^ 39 := Nat.mul_le_mul_left _ h1
    have h3 : xs * 2 ^ 39 < 16777216 * 2 ^ 39 := Nat.mul_lt_mul_of_pos_right hx (by decide)
    omega
  have e39 : (16777216 : Nat) * 2 ^ 39 = 9223372036854775808 := by decide
  unfold sumOrd
  rw [if_pos (by omega), hgap, hB, hX]
  generalize xs * 2 ^ (ex - ey) = B at *
  have pe := Nat.two_pow_pos ey
  have addm : B * 2 ^ ey + ys * 2 ^ ey = (B + ys) * 2 ^ ey := (Nat.add_mul _ _ _).symm
  have hlt : B * 2 ^ ey < ys * 2 ^ ey ↔ B < ys := ⟨fun h => Nat.lt_of_mul_lt_mul_right h, fun h => Nat.mul_lt_mul_of_pos_right h pe⟩
  have hgt : ys * 2 ^ ey < B * 2 ^ ey ↔ ys < B := ⟨fun h => Nat.lt_of_mul_lt_mul_right h, fun h => Nat.mul_lt_mul_of_pos_right h pe⟩
  refine ⟨?_, ?_, ?_, ?_, ?_⟩
  · intro e f
    rw [if_pos e]
    have : B + ys = 0 := by
      rw [addm] at f
      rcases Nat.mul_eq_zero.1 f with h | h <;> omega
    rw [← Int.natCast_add, this]; simp [rnd]
  · intro e f
    rw [if_pos e, ← Int.natCast_add]
    rw [addm] at f ⊢
    exact rnd_exact way xn ey (B + ys) _ (by rcases Nat.eq_zero_or_pos (B + ys) with h | h; (rw [h] at f; simp at f); exact h) (by omega) (by omega) rfl
  · intro e f
    have : B = ys := Nat.eq_of_mul_eq_mul_right pe f
    rw [if_neg e, if_neg (by omega), if_neg (by omega)]
  · intro e f
    have f' := hgt.1 f
    rw [if_neg e, if_pos (by omega), ← Int.natCast_sub (by omega)]
    exact rnd_exact way xn ey (B - ys) _ (by omega) (by omega) (by omega) (by rw [Nat.sub_mul])
  · intro e f
    have f' := hlt.1 f
    rw [if_neg e, if_neg (by omega), if_pos (by omega), ← Int.natCast_sub (by omega)]
    exact rnd_exact way yn ey (ys - B) _ (by omega) (by omega) (by omega) (by rw [Nat.sub_mul])

theorem sum_far_spec (way : Int) (xn yn : Bool) (ex xs ey ys : Nat) (hx : xs < 16777216) (hxb : 8388608 ≤ xs) (hy : ys < 16777216) (hg : 39 < ex - ey) (hex : ex ≤ 254) :
    SumSpec way xn yn (xs * 2 ^ ex) (ys * 2 ^ ey) (sumOrd way xn ((ex : Int) - 149) (xs : Int) yn ((ey : Int) - 149) (ys : Int)) := by
  obtain ⟨D, hD⟩ : ∃ D, ex = ey + 39 + D := ⟨ex - ey - 39, by omega⟩
  have hgap : ((ex : Int) - 149 - ((ey : Int) - 149) - 39).toNat = D := by omega
  have hQ : (ys : Int) / 2 ^ D = ((ys / 2 ^ D : Nat) : Int) := by rw [pow_cast, ← Int.natCast_ediv]
  have hT : ((ys / 2 ^ D : Nat) : Int) * 2 ^ D = ((ys / 2 ^ D * 2 ^ D : Nat) : Int) := by rw [pow_cast, ← Int.natCast_mul]
  have he : ((ex : Int) - 149) - 39 = ((ey + D : Nat) : Int) - 149 := by omega
  unfold sumOrd
  rw [if_neg (by omega), hgap, hQ, hT, he]
  have pD := Nat.two_pow_pos D
  have pE := Nat.two_pow_pos ey
  have pED := Nat.two_pow_pos (ey + D)
  have hQ1 : ys / 2 ^ D * 2 ^ D ≤ ys := Nat.div_mul_le_self _ _
  have hQ2 : ys < (ys / 2 ^ D + 1) * 2 ^ D := by
    have := Nat.lt_div_mul_add (a := ys) pD
    rw [Nat.add_mul]; omega
  have hQ3 : ys / 2 ^ D ≤ ys := Nat.div_le_self _ _
  have hX : xs * 2 ^ ex = (xs * 549755813888) * 2 ^ (ey + D) := by
    rw [hD, show ey + 39 + D = 39 + (ey + D) by omega, Nat.pow_add, ← Nat.mul_assoc]
  have hYs : ∀ z : Nat, z * 2 ^ D * 2 ^ ey = z * 2 ^ (ey + D) := by
    intro z; rw [Nat.pow_add]; ac_rfl
  rw [hX]
  generalize ys / 2 ^ D = Q at *
  have y1 : Q * 2 ^ (ey + D) ≤ ys * 2 ^ ey := by rw [← hYs]; exact Nat.mul_le_mul_right _ hQ1
  have y2 : ys * 2 ^ ey < (Q + 1) * 2 ^ (ey + D) := by rw [← hYs]; exact Nat.mul_lt_mul_of_pos_right hQ2 pE
  have hbig : (Q + 1) * 2 ^ (ey + D) ≤ xs * 549755813888 * 2 ^ (ey + D) := Nat.mul_le_mul_right _ (by omega)
  have c1 : ((xs : Int) * 549755813888 + (Q : Int)) = ((xs * 549755813888 + Q : Nat) : Int) := by omega
  have c2 : ((xs : Int) * 549755813888 - ((Q : Int) + 1)) = ((xs * 549755813888 - (Q + 1) : Nat) : Int) := by omega
  have c3 : ((xs : Int) * 549755813888 - (Q : Int)) = ((xs * 549755813888 - Q : Nat) : Int) := by omega
  rw [c1, c2, c3]
  by_cases hx2 : Q * 2 ^ D = ys
  · have n1 : decide (((Q * 2 ^ D : Nat) : Int) ≠ (ys : Int)) = false := by simp [hx2]
    have n2 : ¬ ((Q * 2 ^ D : Nat) : Int) ≠ (ys : Int) := by simp [hx2]
    have yq : ys * 2 ^ ey = Q * 2 ^ (ey + D) := by rw [← hYs, hx2]
    rw [n1, yq]
    refine ⟨?_, ?_, ?_, ?_, ?_⟩
    · intro e f
      exfalso
      have : 0 < xs * 549755813888 * 2 ^ (ey + D) := Nat.mul_pos (by omega) pED
      omega
    · intro e f
      rw [if_pos e, ← Nat.add_mul]
      exact rnd_exact way xn (ey + D) _ _ (by omega) (by omega) (by omega) rfl
    · intro e f; exfalso; omega
    · intro e f
      rw [if_neg e, if_neg n2]
      exact rnd_exact way xn (ey + D) _ _ (by omega) (by omega) (by omega) (by rw [Nat.sub_mul])
    · intro e f; exfalso; omega
  · have n1 : decide (((Q * 2 ^ D : Nat) : Int) ≠ (ys : Int)) = true := by
      rw [decide_eq_true_eq]; intro h; exact hx2 (Int.ofNat.inj h)
    have n2 : ((Q * 2 ^ D : Nat) : Int) ≠ (ys : Int) := by intro h; exact hx2 (Int.ofNat.inj h)
    have y3 : Q * 2 ^ (ey + D) < ys * 2 ^ ey := by rw [← hYs]; exact Nat.mul_lt_mul_of_pos_right (by omega) pE
    rw [n1]
    refine ⟨?_, ?_, ?_, ?_, ?_⟩
    · intro e f
      exfalso
      have : 0 < xs * 549755813888 * 2 ^ (ey + D) := Nat.mul_pos (by omega) pED
      omega
    · intro e f
      rw [if_pos e]
      refine rnd_more way xn (ey + D) _ _ (by omega) (by omega) (by omega) ?_ ?_
      · rw [Nat.add_mul]; omega
      · rw [show xs * 549755813888 + Q + 1 = xs * 549755813888 + (Q + 1) by omega, Nat.add_mul]; omega
    · intro e f; exfalso; omega
    · intro e f
      rw [if_neg e, if_pos n2]
      refine rnd_more way xn (ey + D) _ _ (by omega) (by omega) (by omega) ?_ ?_
      · rw [Nat.sub_mul]; omega
      · rw [show xs * 549755813888 - (Q + 1) + 1 = xs * 549755813888 - Q by omega, Nat.sub_mul]; omega
    · intro e f; exfalso; omega
end Flt
end Go.Proofs.Ytkbniebahledmaa
