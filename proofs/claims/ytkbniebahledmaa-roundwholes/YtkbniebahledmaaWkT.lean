/-
  Walks of the document's answers to sums, products and quotients.
-/
import Derived.Test.YtkbniebahledmaaWkS
namespace Go.Proofs.Ytkbniebahledmaa
open Go.RowKit
set_option linter.unusedVariables false

theorem Num.len_zero {w : World} {v : Value} {N K : Nat} (h : Num w v N K) : ∃ b o n cap, v = .slice (some ⟨b, o, none⟩) n cap ∧ n ≤ K ∧ (n = 0 ↔ N = 0) := by
  obtain ⟨b, o, ds, cap, rfl, h2, h3, h4, h5, h6, h7⟩ := h
  refine ⟨b, o, ds.length, cap, rfl, h3, ?_, ?_⟩
  · intro h
    have e : ds = [] := List.length_eq_zero_iff.1 h
    rw [← h5, e]; rfl
  · intro h
    rcases Nat.eq_zero_or_pos ds.length with h0 | h0
    · exact h0
    · have := Dg.norm_ge ds h6 h0
      have p : 0 < 4294967296 ^ (ds.length - 1) := Nat.pow_pos (by decide)
      omega

theorem mg_cast (a : Int) (h0 : 0 ≤ a) : Flt.absF a = ((Flt.mg a : Nat) : Int) := by unfold Flt.absF Flt.mg; omega

end Go.Proofs.Ytkbniebahledmaa
