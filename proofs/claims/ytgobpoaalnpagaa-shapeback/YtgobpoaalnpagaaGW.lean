import Derived.Test.YtgobpoaalnpagaaGU
import Derived.Laws.AppendOwnNone

/-
  The lists that layer 4's statements lend, with marks behind them.
-/
namespace Go.Proofs.Ytgobpoaalnpagaa
open Go.RowKit
set_option linter.unusedVariables false

/-- A lent list: its numbers, two marks behind them. -/
def Lent (w : World) (g cap : Nat) (xs : List Int) : Prop :=
  Ints .i64 w (some ⟨g, 0, none⟩) cap xs ∧ xs.length + 2 ≤ cap ∧ g < w.heap.size ∧ w.cell? ⟨g, xs.length, none⟩ = some (.int .i64 991) ∧ w.cell? ⟨g, xs.length + 1, none⟩ = some (.int .i64 992)
theorem Lent.below {w w' : World} {g cap : Nat} {xs : List Int} (h : Lent w g cap xs) (hb : Below w.heap.size w w') : Lent w' g cap xs := by
  obtain ⟨h1, h2, h3, h4, h5⟩ := h
  exact ⟨h1.below hb, h2, Nat.lt_of_lt_of_le h3 hb.size, (hb.cell (p := ⟨g, xs.length, none⟩) h3).trans h4, (hb.cell (p := ⟨g, xs.length + 1, none⟩) h3).trans h5⟩

theorem marks_cells (w : World) : ∀ j u, (vals [991, 992])[j]? = some u → (w.alloc (.cells #[.int .i64 991, .int .i64 992] 3)).cell? ((⟨w.heap.size, 0, none⟩ : Addr).add j) = some u := by
  intro j u hj
  match j, hj with
  | 0, hj => simp [vals] at hj; subst hj; simp [Addr.add]
  | 1, hj => simp [vals] at hj; subst hj; simp [Addr.add]
  | j + 2, hj => simp [vals] at hj

theorem marks_cells1 (w : World) : ∀ j u, (vals [991, 992])[j]? = some u → ((w.alloc (.cells #[] 3)).alloc (.cells #[.int .i64 991, .int .i64 992] 3)).cell? ((⟨w.heap.size + 1, 0, none⟩ : Addr).add j) = some u := by
  have h := marks_cells (w.alloc (.cells #[] 3))
  rw [show (w.alloc (.cells #[] 3)).heap.size = w.heap.size + 1 by simp] at h
  exact h
theorem lent_step {w w1 : World} {v1 : Value} {xs : List Int} (h : OwnI w (w.alloc (.cells #[] 3)) (.slice (some ⟨w.heap.size, 0, none⟩) 0 0) []) (hw : ∀ d ∈ xs, (Lit.int .i64 d).wf = true)
    (hown : w1.ownsRow w.heap.size 3 1 v1 (0 + xs.length) ([] ++ vals xs)) (hg : (w.alloc (.cells #[] 3)).grownBy w1 (Value.slice (some ⟨w.heap.size, 0, none⟩) 0 0).ownBlock) : OwnI w w1 v1 xs := by
  have := OwnI.more h (Below.refl _ _) rfl rfl hw hown hg
  rw [List.nil_append] at this; exact this
theorem lent_step2 {w w1 w2 : World} {v1 v2 : Value} {xs : List Int} (h : OwnI w w1 v1 xs)
    (hown : w2.ownsRow w.heap.size 3 1 v2 (xs.length + 2) (vals xs ++ vals [991, 992])) (hg : (w1.alloc (.cells #[.int .i64 991, .int .i64 992] 3)).grownBy w2 v1.ownBlock) : OwnI w w2 v2 (xs ++ [991, 992]) :=
  OwnI.more h ((Below.refl _ _).alloc (Nat.le_refl _) _) rfl rfl (by intro d hd; simp at hd; rcases hd with rfl | rfl <;> decide) hown hg

set_option maxRecDepth 100000 in
set_option maxHeartbeats 2000000 in
theorem lent_any (p : Option Addr) (cap : Nat) (xs : List Int) (w : World) (h : Ints .i64 w p cap xs) (hs : xs.length * 8 ≤ 140737488351232) :
    Calls Try.prog 8 #[.slice p xs.length cap] w fun e w' => (∃ g c, e = .returned (.slice (some ⟨g, 0, none⟩) xs.length c) ∧ Lent w' g c xs) ∧ Below w.heap.size w w' := by
  obtain ⟨i0, hi, hz0, hz1, hz2⟩ := info_parts Try.infoInt
  have hwf := h.2.2.1
  have hlen0 : (0 : Int) ≤ (xs.length : Int) := by omega
  have fin : ∀ (W : World) (v : Value), OwnI w W v (xs ++ [991, 992]) → (∃ g c, v = .slice (some ⟨g, 0, none⟩) (xs.length + 2) c ∧ xs.length + 2 ≤ c ∧ Lent W g c xs) := by
    intro W v hO
    obtain ⟨p', c, rfl, hI⟩ := hO.form
    have hl : (xs ++ [991, 992]).length = xs.length + 2 := by simp
    obtain ⟨g, o, rfl, hg, hc⟩ := hI.lies (by omega)
    have ho : o = 0 := by
      obtain ⟨⟨_, h1⟩, _⟩ := hO
      rcases h1 with ⟨h1, _⟩ | ⟨g', cap', cur, h1, _⟩
      · cases h1
      · simp only [Value.slice.injEq, Option.some.injEq, Addr.mk.injEq] at h1; exact h1.1.2.1
    subst ho
    refine ⟨g, c, by rw [hl], by rw [← hl]; exact hI.1, ⟨by have := hI.1; omega, hI.2.1, hwf, fun hp => ⟨g, 0, rfl, hg, fun i hi => ?_⟩, fun h => by cases h⟩, by have := hI.1; omega, hg, ?_, ?_⟩
    · rw [hc i (by omega)]; congr 2
      rw [List.getD_eq_getElem?_getD, List.getD_eq_getElem?_getD, List.getElem?_append_left hi]
    · have := hc xs.length (by omega)
      rw [Nat.zero_add] at this
      rw [this]; congr 2
      rw [List.getD_eq_getElem?_getD, List.getElem?_append_right (Nat.le_refl _)]; simp
    · have := hc (xs.length + 1) (by omega)
      rw [Nat.zero_add] at this
      rw [this]; congr 2
      rw [List.getD_eq_getElem?_getD, List.getElem?_append_right (by omega)]; simp
  have FIN := hide fin
  have HWF := hide hwf
  clear fin hwf
  have F0 := OwnI.fresh w
  have hown0 : (w.alloc (.cells #[] 3)).ownsRow w.heap.size 3 1 (.slice (some ⟨w.heap.size, 0, none⟩) 0 0) 0 [] := F0.1
  have HF0 := hide F0
  cases p with
  | none =>
    have hx0 : xs = [] := by
      rcases Nat.eq_zero_or_pos xs.length with g | g
      · exact List.eq_nil_of_length_eq_zero g
      · obtain ⟨b, o, e, _⟩ := h.lies g; cases e
    subst hx0
    have hc0 : cap = 0 := h.2.2.2.2 rfl
    subst hc0
    clear h F0
    go_enter Try.func8, Try.ntmps8
    go_wp2_with (first | (at_builtin; refine wpList_append_own_none rfl _ _ 22 rfl w.heap.size 3 i0 1 Try.underlying22 hi _ _ _ rfl hown0 rfl ?_; have hown2 := (unhide HF0).1.alloc (.cells #[.int .i64 991, .int .i64 992] 3); clear hown0) | (at_builtin; refine wpList_append_own _ rfl _ _ 22 rfl w.heap.size 3 i0 (.int .i64 0) 1 8 Try.underlying22 hi hz0 hz1 hz2 rfl (by decide) _ _ _ rfl hown2 ⟨w.heap.size + 1, 0, none⟩ 2 2 (vals [991, 992]) rfl rfl (marks_cells1 _) (vals_ok _) (by unfold maxLen; omega) (by omega) (by simp <;> omega) ?_; intro v2 w2 hown3 hgrow2 _; have O2 := lent_step2 (unhide HF0) hown3 hgrow2; obtain ⟨g, c, rfl, hgc, hL⟩ := unhide FIN w2 v2 O2; have HL := hide hL; have HB := hide O2.2.1; clear O2 hown3 hgrow2 hown2 hL FIN HWF))
    go_ret
    exact ⟨⟨_, _, rfl, unhide HL⟩, unhide HB⟩
  | some a =>
    have hcells : ∀ j u, (vals xs)[j]? = some u → (w.alloc (.cells #[] 3)).cell? (a.add j) = some u := by
      rcases Nat.eq_zero_or_pos xs.length with g | g
      · have : xs = [] := List.eq_nil_of_length_eq_zero g
        subst this; exact vals_none
      · obtain ⟨b, o, e, hb, hc⟩ := (h.below ((Below.refl _ _).alloc (Nat.le_refl _) _)).lies g
        simp only [Option.some.injEq] at e
        subst e; exact vals_cells hc
    clear h F0
    go_enter Try.func8, Try.ntmps8
    go_wp2_with (first | (at_builtin; refine wpList_append_own _ rfl _ _ 22 rfl w.heap.size 3 i0 (.int .i64 0) 1 8 Try.underlying22 hi hz0 hz1 hz2 rfl (by decide) _ _ _ rfl hown0 a xs.length cap (vals xs) rfl (by rw [vals_length]; omega) hcells (vals_ok xs) (by unfold maxLen; omega) (by omega) (by simp) ?_; intro v1 w1 hown1 hgrow1 _; have HO1 := hide (lent_step (unhide HF0) (unhide HWF) hown1 hgrow1); have hown2 := (unhide HO1).1.alloc (.cells #[.int .i64 991, .int .i64 992] 3); have hsz : w.heap.size ≤ w1.heap.size := (unhide HO1).2.1.size; clear hown1 hgrow1 hcells hown0 HF0) | (at_builtin; refine wpList_append_own _ rfl _ _ 22 rfl w.heap.size 3 i0 (.int .i64 0) 1 8 Try.underlying22 hi hz0 hz1 hz2 rfl (by decide) _ _ _ rfl hown2 ⟨w1.heap.size, 0, none⟩ 2 2 (vals [991, 992]) rfl rfl (marks_cells _) (vals_ok _) (by unfold maxLen; omega) (by omega) (by simp; omega) ?_; intro v2 w2 hown3 hgrow2 _; have O2 := lent_step2 (unhide HO1) hown3 hgrow2; obtain ⟨g, c, rfl, hgc, hL⟩ := unhide FIN w2 v2 O2; have HL := hide hL; have HB := hide O2.2.1; clear O2 hown3 hgrow2 HO1 hown2 hL FIN HWF))
    go_ret
    exact ⟨⟨_, _, rfl, unhide HL⟩, unhide HB⟩

set_option maxRecDepth 100000 in
set_option maxHeartbeats 1000000 in
/-- What was lent is whole. -/
theorem whole_any (g c : Nat) (p : Option Addr) (cap : Nat) (xs ys : List Int) (w : World) (h1 : Lent w g c xs) (h2 : Ints .i64 w p cap ys) (he : xs = ys) :
    Calls Try.prog 18 #[.slice (some ⟨g, 0, none⟩) xs.length c, .slice p ys.length cap] w fun e w' => e = .returned (.bool true) ∧ Below w.heap.size w w' := by
  subst he
  have hc := h1.2.1
  have hl := h1.1.len
  have hcm := h1.1.2.1
  have HS := hide (rsame_true (some ⟨g, 0, none⟩) p c cap xs xs w h1.1 h2 rfl)
  have HL := hide h1
  clear h1 h2
  go_enter Try.func18, Try.ntmps18
  go_wp2_with fail
  refine (unhide HS).mono ?_
  rintro e w1 ⟨rfl, hb⟩
  have hL := (unhide HL).below hb
  have c1 := hL.2.2.2.1
  have c2 := hL.2.2.2.2
  clear HS HL hL
  go_wp2_with fail
  go_ret
  exact ⟨rfl, hb⟩
end Go.Proofs.Ytgobpoaalnpagaa
