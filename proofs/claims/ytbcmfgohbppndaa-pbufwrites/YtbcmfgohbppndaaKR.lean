/-
  Layer 6: how much a list of fields that came in may hold.
-/
import Derived.Test.YtbcmfgohbppndaaKP
namespace Go.Proofs.Ytbcmfgohbppndaa
open Go.RowKit
set_option linter.unusedVariables false

theorem weights_mem_all {H : Type} {P : Program} {e : TypeId} {d : DataW H} : ∀ {l : List (DataW H)}, d ∈ l → ∀ m ∈ d.weights P e, m ∈ DataW.weightsAll P e l
  | x :: r, hd, m, hm => by
    rw [DataW.weightsAll, List.mem_append]
    rcases List.mem_cons.1 hd with h | h
    · subst h; exact .inl hm
    · exact .inr (weights_mem_all h m hm)
theorem fa_weight {H : Type} {a : FA} {d : DataW H} (h : FaData a d) (hc : a.d.length ≤ a.c) (hw : ∀ m ∈ d.weights Try.prog 40, m ≤ reachBytes) : a.d.length ≤ 140737488351232 := by
  obtain ⟨d3, rfl, h3 | ⟨sp, rfl, e⟩⟩ := h
  · have := h3.2; omega
  · have h1 := hw (((Go.ChangeShapes.lits (H := H) .u8 a.d).length + (Go.ChangeShapes.lits (H := H) .u8 sp).length) * Try.prog.bytesOf 5) (by
      rw [DataW.weights, Try.underlying40]
      refine DataW.weights_mem_each (j := 3) (t := 24) rfl rfl _ ?_
      rw [DataW.weights, Try.underlying24]
      exact List.mem_cons_self)
    rw [show Try.prog.bytesOf 5 = 1 by kernel_rfl] at h1
    simp only [Go.ChangeShapes.lits, List.length_map, reachBytes] at h1
    omega
theorem flds_sized {H : Type} {L : List FA} {cap : Nat} {d : DataW H} (hd : d = .nil ∧ cap = 0 ∨ ∃ D : Nat → DataW H, d = .slice ((List.range L.length).map D) ((List.range (cap - L.length)).map fun j => D (L.length + j)) ∧ ∀ i, i < L.length → FaData (L.getD i noFA) (D i))
    (hl : L.length ≤ cap) (hc : ∀ a ∈ L, a.d.length ≤ a.c) (hw : ∀ m ∈ d.weights Try.prog 32, m ≤ reachBytes) : cap * 48 ≤ 140737488351232 ∧ ∀ a ∈ L, a.d.length ≤ 140737488351232 := by
  rcases hd with ⟨_, h0⟩ | ⟨D, rfl, hD⟩
  · have : L = [] := List.eq_nil_of_length_eq_zero (by omega)
    subst this
    exact ⟨by omega, fun a ha => by cases ha⟩
  · rw [DataW.weights, Try.underlying32] at hw
    refine ⟨?_, fun a ha => ?_⟩
    · have h1 := hw _ List.mem_cons_self
      rw [show Try.prog.bytesOf 40 = 48 by kernel_rfl] at h1
      simp only [List.length_map, List.length_range, reachBytes] at h1
      omega
    · obtain ⟨i, hi, rfl⟩ := List.getElem_of_mem ha
      have hF := hD i hi
      have e : L.getD i noFA = L[i] := by simp [List.getD_eq_getElem?_getD, List.getElem?_eq_getElem hi]
      rw [e] at hF
      refine fa_weight hF (hc _ ha) (fun m hm => hw m (List.mem_cons_of_mem _ (List.mem_append_left _ ?_)))
      exact weights_mem_all (List.mem_map.2 ⟨i, List.mem_range.2 hi, rfl⟩) m hm
end Go.Proofs.Ytbcmfgohbppndaa
