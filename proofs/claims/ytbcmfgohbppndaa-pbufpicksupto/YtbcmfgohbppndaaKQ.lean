import Derived.Test.YtbcmfgohbppndaaRows
import Derived.Test.YtbcmfgohbppndaaKP

/-
  Layer 6: how much a list of fields holds, by its bulk.
-/
namespace Go.Proofs.Ytbcmfgohbppndaa
open Go.RowKit
set_option linter.unusedVariables false

theorem bulk_lits6 {H : Type} (k : IntKind) : ∀ l : List Int, l.length ≤ Rows.uptoBulkAll (H := H) (Go.ChangeShapes.lits k l)
  | [] => by simp
  | x :: r => by
    have := bulk_lits6 (H := H) k r
    simp only [Go.ChangeShapes.lits, List.map_cons, Rows.uptoBulkAll, Rows.uptoBulk, List.length_cons] at *
    omega
theorem bulk_fa {H : Type} {a : FA} {d : DataW H} (h : FaData a d) (hc : a.d.length ≤ a.c) : a.d.length + 1 ≤ Rows.uptoBulk d ∧ a.c ≤ Rows.uptoBulk d := by
  obtain ⟨d3, rfl, h3⟩ := h
  have key : a.c ≤ Rows.uptoBulk d3 := by
    rcases h3 with ⟨_, e⟩ | ⟨sp, rfl, e⟩
    · omega
    · have h1 := bulk_lits6 (H := H) .u8 a.d
      have h2 := bulk_lits6 (H := H) .u8 sp
      simp only [Rows.uptoBulk]
      omega
  simp only [Rows.uptoBulk, Rows.uptoBulkAll]
  omega
theorem bulk_fas {H : Type} : ∀ (l : List FA) (ds : List (DataW H)), l.length = ds.length → (∀ a ∈ l, a.d.length ≤ a.c) → (∀ i, i < l.length → FaData (l.getD i noFA) (ds.getD i .nil)) → sumD l + l.length ≤ Rows.uptoBulkAll ds
  | [], ds, _, _, _ => by simp [sumD]
  | a :: l, [], h, _, _ => by simp at h
  | a :: l, d :: ds, h, hc, hf => by
    have ih := bulk_fas l ds (by simpa using h) (fun x hx => hc x (by simp [hx])) (fun i hi => by
      have := hf (i + 1) (by simp; omega)
      simpa using this)
    have h0 := (bulk_fa (by simpa using hf 0 (by simp)) (hc a (by simp))).1
    have e : sumD (a :: l) = a.d.length + sumD l := by simp [sumD]
    simp only [Rows.uptoBulkAll, List.length_cons]
    omega
theorem bulk_more {H : Type} : ∀ (l m : List (DataW H)), Rows.uptoBulkAll (l ++ m) = Rows.uptoBulkAll l + Rows.uptoBulkAll m
  | [], m => by simp [Rows.uptoBulkAll]
  | x :: l, m => by simp only [List.cons_append, Rows.uptoBulkAll, bulk_more l m]; omega
/-- A list of fields whose bulk is small. -/
theorem bulk_flds {H : Type} {W : World} {p : Option Addr} {cap : Nat} {L : List FA} {d : DataW H} (hL : Fls W p cap L)
    (h : d = .nil ∧ cap = 0 ∨ ∃ D : Nat → DataW H, d = .slice ((List.range L.length).map D) ((List.range (cap - L.length)).map fun j => D (L.length + j)) ∧ ∀ i, i < L.length → FaData (L.getD i noFA) (D i)) : sumD L + L.length ≤ Rows.uptoBulk d := by
  rcases h with ⟨_, e⟩ | ⟨D, rfl, hD⟩
  · have : L.length = 0 := by have := hL.1.1; omega
    have : L = [] := List.eq_nil_of_length_eq_zero this
    subst this
    simp [sumD]
  · have := bulk_fas L ((List.range L.length).map D) (by simp) (fun a ha => (hL.2 a ha).2.2.2.1) (fun i hi => by
      have e : ((List.range L.length).map D).getD i .nil = D i := by rw [List.getD_eq_getElem?_getD, List.getElem?_map, List.getElem?_range hi]; rfl
      rw [e]
      exact hD i hi)
    simp only [Rows.uptoBulk]
    omega
end Go.Proofs.Ytbcmfgohbppndaa
