import Derived.Test.YtbepkmehnghmcaaIV

/-
  Layer 5: small things that its statements want.
-/
namespace Go.Proofs.Ytbepkmehnghmcaa
open Go.RowKit
set_option linter.unusedVariables false

/-- A new row without an element. -/
theorem own_fresh {α : Type} {f : α → Value} (w : World) (t : TypeId) : OwnG t f w (w.alloc (.cells #[] t)) (.slice (some ⟨w.heap.size, 0, none⟩) 0 0) [] := by
  refine ⟨⟨by simp, .inr ⟨w.heap.size, 0, #[], rfl, Nat.le_refl _, ?_, Nat.le_refl _, by simp, by simp, by simp⟩⟩, (Below.refl _ _).alloc (Nat.le_refl _) _⟩
  show (w.heap.push (Obj.cells #[] t))[w.heap.size]? = _
  simp
theorem TenOwn.kept {B : Nat} {w w' : World} {T T' : Ten} {A A' : TA} (h : TenOwn B w T A) (k : KeptOff T' A' w w') (ho : ∀ b, B ≤ b → Off T' A' b) : TenOwn B w' T A := by
  obtain ⟨⟨g0, g1, g2, g3, g4⟩, h1, h2, h3, h4, h5⟩ := h
  have a1 : ∀ b o, A.pd = some ⟨b, o, none⟩ → 0 < T.2.1.length → Off T' A' b := fun b o e hp => ho b (h1 b o e hp).1
  have a2 : ∀ b o, A.pf = some ⟨b, o, none⟩ → 0 < T.2.2.1.length → Off T' A' b := fun b o e hp => ho b (h2 b o e hp).1
  have a3 : ∀ b o, A.pi = some ⟨b, o, none⟩ → 0 < T.2.2.2.1.length → Off T' A' b := fun b o e hp => ho b (h3 b o e hp).1
  have a4 : ∀ b o, A.pb = some ⟨b, o, none⟩ → 0 < T.2.2.2.2.length → Off T' A' b := fun b o e hp => ho b (h4 b o e hp).1
  exact ⟨⟨g0, (g1.ls.kept k a1).ints g1.2.2.1, (g2.ls.kept k a2).ints g2.2.2.1, (g3.ls.kept k a3).ints g3.2.2.1, g4.kept k a4⟩, h1.kept g1.ls rfl k a1, h2.kept g2.ls rfl k a2, h3.kept g3.ls rfl k a3, h4.kept g4 rfl k a4, h5⟩
theorem Box.kept {w w' : World} {g : Nat} {cs : Array Value} {t : TypeId} {T : Ten} {A : TA} (h : Box w g cs t) (k : KeptOff T A w w') (ho : Off T A g) : Box w' g cs t := (k.2 g h.lt ho).trans h
end Go.Proofs.Ytbepkmehnghmcaa
