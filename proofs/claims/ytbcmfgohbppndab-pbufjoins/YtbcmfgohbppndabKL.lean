import Derived.Test.YtbcmfgohbppndabKK

/-
  Layer 6: the document's Read.
-/
namespace Go.Proofs.Ytbcmfgohbppndab
open Go.RowKit
set_option linter.unusedVariables false

theorem fa_alloc2 (w : World) (o : Obj) (f : FA) (t : TypeId) : ∀ j u, (faCells f)[j]? = some u → ((w.alloc o).alloc (.cells #[.int .i64 f.n, .int .i64 f.wr, .int .u64 f.x, .slice f.q f.d.length f.c] t)).cell? ((⟨w.heap.size + 1, 0, none⟩ : Addr).add j) = some u := by
  have := fa_alloc (w.alloc o) f t
  rw [alloc_size6] at this
  exact this
theorem read_step {b : List Int} {n : Nat} {L : List Fld} (hn : n < b.length) (h : readL b = (readL (b.drop n)).map (L ++ ·)) : readL b = match oneL (b.drop n) with
    | none => none
    | some y => (readL (b.drop (n + y.2))).map ((L ++ [y.1]) ++ ·) := by
  rw [h, readL_step (by simp; omega)]
  cases oneL (b.drop n) with
  | none => rfl
  | some y =>
    simp only [List.drop_drop]
    cases readL (b.drop (n + y.2)) <;> simp
end Go.Proofs.Ytbcmfgohbppndab
