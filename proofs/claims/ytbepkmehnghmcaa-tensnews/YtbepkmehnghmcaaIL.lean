import Derived.Test.YtbepkmehnghmcaaIK

/-
  Layer 5: the document's Pick: its loop.
-/
namespace Go.Proofs.Ytbepkmehnghmcaa
open Go.RowKit
set_option linter.unusedVariables false

theorem pick_bad {T : Ten} {ds at' : List Int} (hc : checkV T = 0) (hn : (sizeV ds).2 = 0) (hl : (at'.length : Int) = (sizeV ds).1) (hb : ∃ a ∈ at', a < -1 ∨ (haveN T : Int) ≤ a) : pickE T ds at' = 2 ∧ pickV T ds at' = noTen := by
  have e0 := newE_of (ds := ds) hc
  have e1 : pickE T ds at' = 2 := by unfold pickE; rw [if_neg (by rw [hc]; simp), if_neg (by rw [e0, hn]; simp), if_neg (by rw [hl]; simp), if_pos hb]
  exact ⟨e1, by unfold pickV; rw [if_neg (by rw [e1]; decide)]⟩
theorem pick_good {T : Ten} {ds at' : List Int} (hc : checkV T = 0) (hn : (sizeV ds).2 = 0) (hl : (at'.length : Int) = (sizeV ds).1) (hb : ¬ ∃ a ∈ at', a < -1 ∨ (haveN T : Int) ≤ a) : pickE T ds at' = 0 ∧ pickV T ds at' = pickT T ds at' := by
  have e0 := newE_of (ds := ds) hc
  have e1 : pickE T ds at' = 0 := by unfold pickE; rw [if_neg (by rw [hc]; simp), if_neg (by rw [e0, hn]; simp), if_neg (by rw [hl]; simp), if_neg hb]
  exact ⟨e1, by unfold pickV; rw [if_pos e1]⟩
theorem getD_mem5 {ds : List Int} {n : Nat} (h : n < ds.length) : ds.getD n 0 ∈ ds := by
  have : ds.getD n 0 = ds[n] := by simp [List.getElem?_eq_getElem h]
  rw [this]; exact List.getElem_mem h
theorem Box.set5 {w : World} {g : Nat} {a b c d e : Value} {t : TypeId} (h : Box w g #[a, b, c, d, e] t) (u0 u1 u2 u3 u4 : Value) :
    Box (((((w.setCell ⟨g, 0, none⟩ u0).setCell ⟨g, 1, none⟩ u1).setCell ⟨g, 2, none⟩ u2).setCell ⟨g, 3, none⟩ u3).setCell ⟨g, 4, none⟩ u4) g #[u0, u1, u2, u3, u4] t :=
  ((((h.same 0 u0).same 1 u1).same 2 u2).same 3 u3).same 4 u4
theorem bset5 {B : Nat} {a w : World} (h : Below B a w) {g : Nat} (hg : B ≤ g) (u0 u1 u2 u3 u4 : Value) :
    Below B a (((((w.setCell ⟨g, 0, none⟩ u0).setCell ⟨g, 1, none⟩ u1).setCell ⟨g, 2, none⟩ u2).setCell ⟨g, 3, none⟩ u3).setCell ⟨g, 4, none⟩ u4) :=
  ((((h.setCell hg u0).setCell hg u1).setCell hg u2).setCell hg u3).setCell hg u4
theorem Mid.set5 {lo hi : Nat} {a w : World} (h : Mid lo hi a w) {g : Nat} (h1 : lo ≤ g) (h2 : g < hi) (u0 u1 u2 u3 u4 : Value) :
    Mid lo hi a (((((w.setCell ⟨g, 0, none⟩ u0).setCell ⟨g, 1, none⟩ u1).setCell ⟨g, 2, none⟩ u2).setCell ⟨g, 3, none⟩ u3).setCell ⟨g, 4, none⟩ u4) :=
  ((((h.setCell h1 h2 u0).setCell h1 h2 u1).setCell h1 h2 u2).setCell h1 h2 u3).setCell h1 h2 u4
end Go.Proofs.Ytbepkmehnghmcaa
