import Derived.Test.YtkbniebahledmabGC
import Derived.Test.YtkbniebahledmabGA

/-
  Walks of the document's answers to sums, products and quotients.
-/
namespace Go.Proofs.Ytkbniebahledmab
open Go.RowKit
set_option linter.unusedVariables false

theorem Num.len_zero {w : World} {v : Value} {N K : Nat} (h : Num w v N K) : ∃ b o n cap, v = .slice (some ⟨b, o, none⟩) n cap ∧ n ≤ K ∧ (n = 0 ↔ N = 0) := by
  obtain ⟨b, o, ds, cap, rfl, h2, h3, h4, h5, h6, h7⟩ := h
  refine ⟨b, o, ds.length, cap, rfl, h3, ?_, ?_⟩
  · intro h
    have e : ds = [] := List.length_eq_zero_iff.1 h
    rw [← h5, e]; rfl
  · intro h
    rcases Nat.eq_zero_or_pos ds.length with h0 | h0
    · exact h0
    · have := Dg.norm_ge ds h6 h0
      have p : 0 < 4294967296 ^ (ds.length - 1) := Nat.pow_pos (by decide)
      omega

theorem mg_cast (a : Int) (h0 : 0 ≤ a) : Flt.absF a = ((Flt.mg a : Nat) : Int) := by unfold Flt.absF Flt.mg; omega

end Go.Proofs.Ytkbniebahledmab

/-
  Walks of the document's answers to products and quotients, and to Round.
-/
namespace Go.Proofs.Ytkbniebahledmab
open Go.RowKit
set_option linter.unusedVariables false

end Go.Proofs.Ytkbniebahledmab

/-
  Walks of the document's answers to quotients, and to Round.
-/
namespace Go.Proofs.Ytkbniebahledmab
open Go.RowKit
set_option linter.unusedVariables false

theorem div_special (way a b : Int) (Na Nb Ia Ib Za Zb : Bool) (na : Flt.isNaN a = Na) (nb : Flt.isNaN b = Nb) (ia : Flt.isInf a = Ia) (ib : Flt.isInf b = Ib) (za : decide (a % 2147483648 = 0) = Za) (zb : decide (b % 2147483648 = 0) = Zb)
    (hsp : (Na || Nb || Ia || Ib || Za || Zb) = true) :
    Flt.divBy way a b = if (Na || Nb || (Ia && Ib) || (Za && Zb)) = true then 2143289344 else if (Ia || Zb) = true then Flt.signBit (Flt.sgn a != Flt.sgn b) + 2139095040 else Flt.signBit (Flt.sgn a != Flt.sgn b) := by
  subst na nb ia ib za zb
  unfold Flt.divBy
  cases n1 : Flt.isNaN a <;> cases n2 : Flt.isNaN b <;> cases n3 : Flt.isInf a <;> cases n4 : Flt.isInf b <;> by_cases z1 : a % 2147483648 = 0 <;> by_cases z2 : b % 2147483648 = 0 <;> simp_all

end Go.Proofs.Ytkbniebahledmab
