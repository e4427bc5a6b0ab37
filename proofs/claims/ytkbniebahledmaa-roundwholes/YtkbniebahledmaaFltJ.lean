/-
  Round at exponents far out, and the values that the document's answer rounds. No program is named here.
-/
import Derived.Test.YtkbniebahledmaaFltI
namespace Go.Proofs.Ytkbniebahledmaa
namespace Flt

/-- What lies below half of the least float. -/
theorem RN_tiny (way : Int) (neg : Bool) (p q : Nat) (h0 : 0 < p) (h1 : 2 * p < q) : RN way neg p q (if outW way neg = true then 1 else 0) := by
  have a1 : A 1 = 1 := by have := A_form 0 1 (by omega) (by omega); simpa using this
  refine ⟨0, ⟨by omega, by rw [A_zero]; omega, fun _ => by rw [a1]; omega⟩, ?_⟩
  symm
  unfold pick
  rw [if_neg (by omega), A_zero, a1]
  by_cases hi : inW way neg = true
  · have ho : outW way neg = false := by
      unfold inW at hi; unfold outW
      cases neg <;> simp at hi ⊢ <;> omega
    rw [if_pos (.inr hi), ho]; simp
  · rw [if_neg (fun h => h.elim (fun h => by omega) hi)]
    by_cases ho : outW way neg = true
    · rw [if_pos ho, if_pos ho]
    · rw [if_neg ho, if_neg ho, if_neg (by omega)]

theorem core_low (way : Int) (neg more : Bool) (S : Nat) (F : Int) (h0 : 9223372036854775808 ≤ S) (h1 : S < 18446744073709551616) (hF : F ≤ -24) :
    core way neg (S : Int) F more = ((if outW way neg = true then 1 else 0 : Nat) : Int) := by
  obtain ⟨D, hD⟩ : ∃ D : Nat, (D : Int) = 41 - F := ⟨(41 - F).toNat, by omega⟩
  unfold core
  rw [if_neg (by omega), if_pos (by omega), ← hD, Int.toNat_natCast]
  have hp : 2 ^ 64 ≤ 2 ^ (D - 1) := Nat.pow_le_pow_right (by decide) (by omega)
  have hp2 := pow_split D (by omega)
  have hz : (S : Int) / 2 ^ D = 0 := by
    rw [pow_cast, ← Int.natCast_ediv, Nat.div_eq_of_lt (by omega)]; rfl
  have hm : S % 2 ^ D = S := Nat.mod_eq_of_lt (by omega)
  have hg := goesOn_iff way neg S D more (by omega) h1 (by omega)
  rw [hm] at hg
  have hiff : goesOn way neg (S : Int) (D : Int) more = true ↔ outW way neg = true := by
    rw [hg]
    have n0 : S ≠ 0 := by omega
    have n1 : S ≠ 2 ^ (D - 1) := by omega
    have n2 : ¬ 2 ^ (D - 1) < S := by omega
    unfold outW
    cases neg <;> simp [n0, n1, n2]
  rw [hz]
  by_cases ho : outW way neg = true
  · rw [if_pos (hiff.2 ho), if_pos ho]; rfl
  · rw [if_neg (fun h => ho (hiff.1 h)), if_neg ho]; rfl

theorem lz_int (s : Nat) (h0 : 1 ≤ s) (h1 : s < 18446744073709551616) : ∃ L : Nat, lz (s : Int) = (L : Int) ∧ L ≤ 63 ∧ 9223372036854775808 ≤ s * 2 ^ L ∧ s * 2 ^ L < 18446744073709551616 := by
  obtain ⟨L, a, b, c, d, _⟩ := lz_nat s h0 h1
  exact ⟨L, a, b, c, d⟩

theorem rnd_form (way : Int) (neg : Bool) (exp : Int) (s : Nat) (more : Bool) (L : Nat) (h0 : 1 ≤ s) (hL : lz (s : Int) = (L : Int)) :
    rnd way neg exp (s : Int) more = signBit neg + core way neg ((s * 2 ^ L : Nat) : Int) ((if exp < -1000 then -1000 else if 1000 < exp then 1000 else exp) - L + 190) more := by
  have hS : (s : Int) * 2 ^ L = ((s * 2 ^ L : Nat) : Int) := by rw [Int.natCast_mul, Int.natCast_pow]; rfl
  unfold rnd
  rw [if_neg (by omega), hL, Int.toNat_natCast, hS]

theorem rnd_high (way : Int) (neg : Bool) (exp : Int) (s : Nat) (more : Bool) (h0 : 1 ≤ s) (h1 : s < 18446744073709551616) (he : 300 ≤ exp) : rnd way neg exp (s : Int) more = rnd way neg 300 (s : Int) more := by
  obtain ⟨L, hL, l1, _, _⟩ := lz_int s h0 h1
  rw [rnd_form way neg exp s more L h0 hL, rnd_form way neg 300 s more L h0 hL]
  congr 1
  unfold core
  rw [if_pos (by (repeat' split) <;> omega), if_pos (by (repeat' split) <;> omega)]
theorem rnd_low (way : Int) (neg : Bool) (exp : Int) (s : Nat) (more : Bool) (h0 : 1 ≤ s) (h1 : s < 18446744073709551616) (he : exp ≤ -700) : rnd way neg exp (s : Int) more = rnd way neg (-700) (s : Int) more := by
  obtain ⟨L, hL, l1, l2, l3⟩ := lz_int s h0 h1
  rw [rnd_form way neg exp s more L h0 hL, rnd_form way neg (-700) s more L h0 hL,
    core_low way neg more (s * 2 ^ L) _ l2 l3 (by (repeat' split) <;> omega), core_low way neg more (s * 2 ^ L) _ l2 l3 (by (repeat' split) <;> omega)]

theorem rnd_none (way : Int) (neg : Bool) (exp : Int) (k : Nat) (hk : 2 ≤ k) : ∃ r : Nat, rnd way neg exp 0 true = signBit neg + (r : Int) ∧ RN way neg 1 (1 * 2 ^ k) r := by
  refine ⟨_, ?_, RN_tiny way neg 1 (1 * 2 ^ k) (by omega) ?_⟩
  · unfold rnd
    rw [if_pos rfl, if_pos rfl]
    have := core_low way neg true 9223372036854775808 (-873) (by omega) (by omega) (by omega)
    rw [← this]; rfl
  · have : 2 ^ 2 ≤ 2 ^ k := Nat.pow_le_pow_right (by decide) hk
    omega

/-- The values that the document's answer rounds. -/
theorem rnd_up (way : Int) (neg : Bool) (e s : Nat) (h0 : 1 ≤ s) (h1 : s < 18446744073709551616) (he : e ≤ 449) :
    ∃ r : Nat, rnd way neg ((e : Int) - 149) (s : Int) false = signBit neg + (r : Int) ∧ RN way neg (s * 2 ^ e) 1 r := rnd_exact way neg e s _ h0 h1 (by omega) rfl
theorem rnd_down (way : Int) (neg : Bool) (k s : Nat) (h0 : 1 ≤ s) (h1 : s < 18446744073709551616) (hk : k ≤ 551) :
    ∃ r : Nat, rnd way neg (-149 - (k : Int)) (s : Int) false = signBit neg + (r : Int) ∧ RN way neg s (1 * 2 ^ k) r :=
  rnd_RN way neg _ s false s (1 * 2 ^ k) k 0 h0 h1 (by omega) (by omega) (by have := Nat.two_pow_pos k; omega) (by omega) (.inl ⟨rfl, by simp⟩)
theorem more_ineq (s X : Nat) (hX : 0 < X) : (s * 2 ^ 80 + 1) * X * 2 ^ 63 < (s * 2 ^ 63 + 1) * 2 ^ 80 * X := by
  have e1 : (s * 2 ^ 80 + 1) * X * 2 ^ 63 = ((s * 2 ^ 80 + 1) * 2 ^ 63) * X := by ac_rfl
  rw [e1]
  refine Nat.mul_lt_mul_of_pos_right ?_ hX
  have e2 : (s * 2 ^ 80 + 1) * 2 ^ 63 = s * 2 ^ 143 + 2 ^ 63 := by rw [Nat.add_mul, Nat.mul_assoc, ← Nat.pow_add, Nat.one_mul]
  have e3 : (s * 2 ^ 63 + 1) * 2 ^ 80 = s * 2 ^ 143 + 2 ^ 80 := by rw [Nat.add_mul, Nat.mul_assoc, ← Nat.pow_add, Nat.one_mul]
  have : 2 ^ 63 < 2 ^ 80 := by decide
  omega
theorem rnd_up_more (way : Int) (neg : Bool) (e s : Nat) (h0 : 1 ≤ s) (h1 : s < 18446744073709551616) (he : e ≤ 449) :
    ∃ r : Nat, rnd way neg ((e : Int) - 149) (s : Int) true = signBit neg + (r : Int) ∧ RN way neg ((s * 2 ^ 80 + 1) * 2 ^ e) (1 * 2 ^ 80) r := by
  refine rnd_RN way neg _ s true _ (1 * 2 ^ 80) 0 e h0 h1 (by omega) (by omega) (by decide) (by omega) (.inr (.inr ⟨rfl, ?_, ?_⟩))
  · rw [Nat.one_mul, Nat.pow_zero, Nat.mul_one]
    exact Nat.mul_lt_mul_of_pos_right (by omega) (Nat.two_pow_pos e)
  · rw [Nat.one_mul, Nat.pow_zero, Nat.mul_one]
    exact more_ineq s (2 ^ e) (Nat.two_pow_pos e)
theorem rnd_down_more (way : Int) (neg : Bool) (k s : Nat) (h0 : 1 ≤ s) (h1 : s < 18446744073709551616) (hk : k ≤ 551) :
    ∃ r : Nat, rnd way neg (-149 - (k : Int)) (s : Int) true = signBit neg + (r : Int) ∧ RN way neg (s * 2 ^ 80 + 1) (1 * 2 ^ 80 * 2 ^ k) r := by
  have hk0 := Nat.two_pow_pos k
  refine rnd_RN way neg _ s true _ (1 * 2 ^ 80 * 2 ^ k) k 0 h0 h1 (by omega) (by omega) (Nat.mul_pos (by decide) hk0) (by omega) (.inr (.inr ⟨rfl, ?_, ?_⟩))
  · rw [Nat.one_mul, Nat.pow_zero, Nat.mul_one, ← Nat.mul_assoc]
    exact Nat.mul_lt_mul_of_pos_right (by omega) hk0
  · rw [Nat.one_mul, Nat.pow_zero, Nat.mul_one, ← Nat.mul_assoc (s * 2 ^ 63 + 1)]
    exact more_ineq s (2 ^ k) hk0
end Flt
end Go.Proofs.Ytkbniebahledmaa
