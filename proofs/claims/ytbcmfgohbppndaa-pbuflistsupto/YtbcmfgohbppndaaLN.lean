/-
  Layer 6: what the statements' walks lean on.
-/
import Derived.Test.YtbcmfgohbppndaaLM
import Derived.Test.YtbcmfgohbppndaaLL
import Derived.Test.YtbcmfgohbppndaaKN
import Derived.Test.YtbcmfgohbppndaaKO
namespace Go.Proofs.Ytbcmfgohbppndaa
open Go.RowKit
set_option linter.unusedVariables false

theorem msg_isB : ∀ {l : List Fld}, (∀ f ∈ l, mayF f ∧ okF f ∧ f.2.2.2.length < 18446744073709551616) → isB (msgB l)
  | [], _ => fun c hc => by simp [msgB] at hc
  | f :: r, h => by
    have e : msgB (f :: r) = fieldB f ++ msgB r := by simp [msgB]
    rw [e]
    obtain ⟨h1, h2, h3⟩ := h f (by simp)
    exact isB_append (fieldB_isB h1 h2 h3) (msg_isB (fun g hg => h g (by simp [hg])))
theorem write_isB {l : List Fld} (h : ∀ f ∈ l, okF f ∧ f.2.2.2.length < 18446744073709551616) : isB (writeV l).1 := by
  unfold writeV
  by_cases hm : l.all mayB = false
  · rw [if_pos hm]; exact fun c hc => by cases hc
  · rw [if_neg hm]
    split
    · exact fun c hc => by cases hc
    · refine msg_isB (fun f hf => ⟨?_, h f hf⟩)
      have hm2 : l.all mayB = true := by simpa using hm
      exact (mayB_iff f).1 (List.all_eq_true.1 hm2 f hf)
end Go.Proofs.Ytbcmfgohbppndaa
