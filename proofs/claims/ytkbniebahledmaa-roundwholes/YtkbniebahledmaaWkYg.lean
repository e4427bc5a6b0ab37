/-
  The document's powers of two and whole numbers of floats are what package round's functions come to.
-/
import Derived.Test.YtkbniebahledmaaWkYf
namespace Go.Proofs.Ytkbniebahledmaa
open Go.RowKit
set_option linter.unusedVariables false

theorem scale_up (neg : Bool) (e s j v : Nat) (E : Int) (h0 : 1 ≤ s) (h1 : s < 18446744073709551616) (he : e ≤ 253) (hj : j ≤ 700) (hE : E = (e : Int) - 149 + j) (hv : Flt.RN 0 neg (s * 2 ^ e * 2 ^ j) ((1 : Int).toNat) v) :
    Flt.rnd 0 neg E (s : Int) false = Flt.signBit neg + (v : Int) := by
  obtain ⟨r, r1, r2⟩ := Flt.rnd_exact 0 neg (e + j) s (s * 2 ^ e * 2 ^ j) h0 h1 (by omega) (by rw [Nat.pow_add, Nat.mul_assoc])
  have e1 : ((e + j : Nat) : Int) - 149 = E := by omega
  rw [e1] at r1
  rw [r1]
  have := Flt.RN_one (show 0 < ((1 : Int).toNat) by decide) hv r2
  rw [this]
theorem scale_down (neg : Bool) (e s j v : Nat) (E : Int) (h0 : 1 ≤ s) (h1 : s < 18446744073709551616) (he : e ≤ 253) (hj : j ≤ 700) (hE : E = (e : Int) - 149 - j) (hv : Flt.RN 0 neg (s * 2 ^ e) ((1 : Int).toNat * 2 ^ j) v) :
    Flt.rnd 0 neg E (s : Int) false = Flt.signBit neg + (v : Int) := by
  have o : ((1 : Int).toNat) = 1 := rfl
  rw [o, Nat.one_mul] at hv
  obtain ⟨r, r1, r2⟩ := Flt.rnd_RN 0 neg E s false (s * 2 ^ e) (2 ^ j) j e h0 h1 (by omega) (by omega) (Nat.two_pow_pos _) (by omega) (.inl ⟨rfl, by rw [Nat.mul_right_comm]⟩)
  rw [r1, Flt.RN_one (Nat.two_pow_pos _) hv r2]

end Go.Proofs.Ytkbniebahledmaa
