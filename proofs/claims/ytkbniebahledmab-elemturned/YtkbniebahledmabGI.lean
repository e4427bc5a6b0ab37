import Derived.Test.YtkbniebahledmabGH
import Derived.Test.YtkbniebahledmabGE
import Derived.Test.YtkbniebahledmabGA

/-
  The document's answers of layer 2 are what package round's functions come to: fused products and sums, roots, whole numbers.
-/
namespace Go.Proofs.Ytkbniebahledmab
open Go.RowKit
set_option linter.unusedVariables false

end Go.Proofs.Ytkbniebahledmab

/-
  The document's powers of two and whole numbers of floats are what package round's functions come to.
-/
namespace Go.Proofs.Ytkbniebahledmab
open Go.RowKit
set_option linter.unusedVariables false

theorem scale_up (neg : Bool) (e s j v : Nat) (E : Int) (h0 : 1 ≤ s) (h1 : s < 18446744073709551616) (he : e ≤ 253) (hj : j ≤ 700) (hE : E = (e : Int) - 149 + j) (hv : Flt.RN 0 neg (s * 2 ^ e * 2 ^ j) ((1 : Int).toNat) v) :
    Flt.rnd 0 neg E (s : Int) false = Flt.signBit neg + (v : Int) := by
  obtain ⟨r, r1, r2⟩ := Flt.rnd_exact 0 neg (e + j) s (s * 2 ^ e * 2 ^ j) h0 h1 (by omega) (by rw [Nat.pow_add, Nat.mul_assoc])
  have e1 : ((e + j : Nat) : Int) - 149 = E := by omega
  rw [e1] at r1
  rw [r1]
  have := Flt.RN_one (show 0 < ((1 : Int).toNat) by decide) hv r2
  rw [this]
theorem scale_down (neg : Bool) (e s j v : Nat) (E : Int) (h0 : 1 ≤ s) (h1 : s < 18446744073709551616) (he : e ≤ 253) (hj : j ≤ 700) (hE : E = (e : Int) - 149 - j) (hv : Flt.RN 0 neg (s * 2 ^ e) ((1 : Int).toNat * 2 ^ j) v) :
    Flt.rnd 0 neg E (s : Int) false = Flt.signBit neg + (v : Int) := by
  have o : ((1 : Int).toNat) = 1 := rfl
  rw [o, Nat.one_mul] at hv
  obtain ⟨r, r1, r2⟩ := Flt.rnd_RN 0 neg E s false (s * 2 ^ e) (2 ^ j) j e h0 h1 (by omega) (by omega) (Nat.two_pow_pos _) (by omega) (.inl ⟨rfl, by rw [Nat.mul_right_comm]⟩)
  rw [r1, Flt.RN_one (Nat.two_pow_pos _) hv r2]

end Go.Proofs.Ytkbniebahledmab

/-
  The walk of the document's answer to Floor, Ceil and Even.
-/
namespace Go.Proofs.Ytkbniebahledmab
open Go.RowKit
set_option linter.unusedVariables false

theorem mod_of {ni : Int} {n : Nat} (h : ni = (n : Int)) : ni % 2 = ((n % 2 : Nat) : Int) := by omega
theorem two_of {ni : Int} {n : Nat} (h : ni = (n : Int)) : (2 * ni + 1).toNat = 2 * n + 1 := by omega
theorem odd_of (n : Nat) (h : ((n % 2 : Nat) : Int) = 1) : n % 2 = 1 := by omega
theorem lt_of_cmp {x y : Nat} {d : Int} (h : d ≤ 0 ↔ x ≤ y) (hd : 0 < d) : y < x := by
  rcases Nat.lt_or_ge y x with g | g
  · exact g
  · have := h.2 g; omega
theorem cmp_neg {x y : Nat} {d : Int} (h : d ≤ 0 ↔ x ≤ y) (hz : d = 0 ↔ x = y) (hd : x < y) : d < 0 := by
  have a := h.2 (Nat.le_of_lt hd)
  have b : d ≠ 0 := fun e => by have := hz.1 e; omega
  omega
theorem ne_neg {d : Int} (h : d < 0) : (d == 0) = false := by rw [beq_eq_false_iff_ne]; omega
theorem gt_neg {d : Int} (h : d < 0) : decide (0 < d) = false := by rw [decide_eq_false_iff_not]; omega
theorem mod_val {ni : Int} {n b : Nat} (h : ni = (n : Int)) (hb : n % 2 = b) : ni % 2 = (b : Int) := by omega
theorem cmp_of_lt {x y : Nat} {d : Int} (h : d ≤ 0 ↔ x ≤ y) (hd : y < x) : 0 < d := by
  rcases Int.lt_or_le 0 d with g | g
  · exact g
  · have := h.1 g; omega

end Go.Proofs.Ytkbniebahledmab

/-
  The walk of the document's answer to Even, where it is below the middle.
-/
namespace Go.Proofs.Ytkbniebahledmab
open Go.RowKit
set_option linter.unusedVariables false

end Go.Proofs.Ytkbniebahledmab

/-
  The document's answer to Floor, Ceil and Even is what package round's functions come to.
-/
namespace Go.Proofs.Ytkbniebahledmab
open Go.RowKit
set_option linter.unusedVariables false

theorem even_gt (V K : Nat) : (2 * (V / K) + 1) * K < V * 2 ↔ K < 2 * (V % K) := by
  have h := Nat.div_add_mod V K
  have e : (2 * (V / K) + 1) * K = 2 * (K * (V / K)) + K := by rw [Nat.add_mul, Nat.one_mul, Nat.mul_assoc, Nat.mul_comm (V / K) K]
  rw [e]; omega
theorem even_eq (V K : Nat) : V * 2 = (2 * (V / K) + 1) * K ↔ 2 * (V % K) = K := by
  have h := Nat.div_add_mod V K
  have e : (2 * (V / K) + 1) * K = 2 * (K * (V / K)) + K := by rw [Nat.add_mul, Nat.one_mul, Nat.mul_assoc, Nat.mul_comm (V / K) K]
  rw [e]; omega
theorem exact_iff (V K : Nat) : V / K * K = V ↔ V % K = 0 := by
  have h := Nat.div_add_mod V K
  rw [Nat.mul_comm]; omega

end Go.Proofs.Ytkbniebahledmab
