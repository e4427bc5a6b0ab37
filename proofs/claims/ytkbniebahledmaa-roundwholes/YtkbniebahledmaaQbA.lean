/-
  A region that draws its order and whose callees make new memory: one walk in the order of the text, in every world that keeps what there was. No program is named here.
-/
import Derived.Below
import Derived.BigQuiet
import Derived.RowKit
namespace Go.Proofs.Ytkbniebahledmaa
open Go.RowKit

/-- Worlds that keep what w holds, under a letter of their own. -/
theorem wp_region_below {P : Program} {id : Nat} {Q : Exit → Act → World → Prop} {a : Act} {w : World} {l : List Oper} (hm : P.follows .mixedOrders = true) (hB : Region.lexB .any l.toArray = true)
    (h : ∀ (T : Type) (f : T → World), Nonempty T → (∀ x, Below w.heap.size w (f x)) → (∀ w', Below w.heap.size w w' → ∃ x, w' = f x) →
      wpQuiet P l.toArray (fun w' => ∃ x, w' = f x) (fun a' => ∀ x, Q .normal a' (f x)) l a) : (Code.region id l.toArray true).wp P Q a w := by
  have h2 := h { w' : World // Below w.heap.size w w' } Subtype.val ⟨⟨w, Below.refl _ _⟩⟩ (fun x => x.2) (fun w' hw => ⟨⟨w', hw⟩, rfl⟩)
  refine wp_region_quiet (C := fun w' => ∃ x : { w' : World // Below w.heap.size w w' }, w' = x.1) hm hB ⟨⟨w.drew, (Below.refl _ _).drew⟩, rfl⟩ ?_
  have e : (fun a' => ∀ w', (∃ x : { w' : World // Below w.heap.size w w' }, w' = x.1) → Q .normal a' w') = (fun a' => ∀ x : { w' : World // Below w.heap.size w w' }, Q .normal a' x.1) := by
    funext a'
    exact propext ⟨fun g x => g x.1 ⟨x, rfl⟩, fun g w' ⟨x, hx⟩ => hx ▸ g x⟩
  rw [e]
  exact h2

theorem calls_qb {P : Program} {g : FuncId} {args : Array Value} {v : Value} {T : Type} {f : T → World} {W : World} (hfb : ∀ x, Below W.heap.size W (f x)) (hfc : ∀ w', Below W.heap.size W w' → ∃ x, w' = f x) {x : T}
    (h : Calls P g args (f x) fun e w' => e = .returned v ∧ Below (f x).heap.size (f x) w') : Calls P g args (f x) fun e w'' => e = .returned v ∧ ∃ y, w'' = f y :=
  h.mono fun _ _ ⟨he, hb⟩ => ⟨he, hfc _ ((hfb x).trans (hb.mono (hfb x).size))⟩
theorem calls_qs {P : Program} {g : FuncId} {args : Array Value} {v : Value} {T : Type} {f : T → World} {x : T}
    (h : Calls P g args (f x) fun e w' => e = .returned v ∧ w' = f x) : Calls P g args (f x) fun e w'' => e = .returned v ∧ ∃ y, w'' = f y :=
  h.mono fun _ _ ⟨he, hb⟩ => ⟨he, x, hb⟩
theorem qcell {T : Type} {f : T → World} {W : World} (hfb : ∀ x, Below W.heap.size W (f x)) {b o : Nat} {v : Value} (hb : b < W.heap.size) (hc : W.cell? ⟨b, o, none⟩ = some v) (x : T) : (f x).cell? ⟨b, o, none⟩ = some v :=
  ((hfb x).cell (p := ⟨b, o, none⟩) hb).trans hc
end Go.Proofs.Ytkbniebahledmaa
