import Derived.Test.YtbcmfgohbppndaaKL

/-
  Layer 6: the bytes that the statements lend, with marks behind them.
-/
namespace Go.Proofs.Ytbcmfgohbppndaa
open Go.RowKit
set_option linter.unusedVariables false

def Lent6 (w : World) (g cap : Nat) (xs : List Int) : Prop :=
  Ints .u8 w (some ⟨g, 0, none⟩) cap xs ∧ xs.length + 2 ≤ cap ∧ g < w.heap.size ∧ w.cell? ⟨g, xs.length, none⟩ = some (.int .u8 201) ∧ w.cell? ⟨g, xs.length + 1, none⟩ = some (.int .u8 202)
theorem Lent6.below {w w' : World} {g cap : Nat} {xs : List Int} (h : Lent6 w g cap xs) (hb : Below w.heap.size w w') : Lent6 w' g cap xs := by
  obtain ⟨h1, h2, h3, h4, h5⟩ := h
  exact ⟨h1.below hb, h2, Nat.lt_of_lt_of_le h3 hb.size, (hb.cell (p := ⟨g, xs.length, none⟩) h3).trans h4, (hb.cell (p := ⟨g, xs.length + 1, none⟩) h3).trans h5⟩
theorem OwnG.empty {α : Type} {f : α → Value} (t : TypeId) (w : World) : OwnG t f w (w.alloc (.cells #[] t)) (.slice (some ⟨w.heap.size, 0, none⟩) 0 0) [] :=
  ⟨World.ownsRow_made w #[] 0 (Nat.le_refl _) (by unfold maxLen; omega) (by simp), al1p _ _⟩
theorem ls_two {f : Int → Value} (w : World) (x y : Int) (t : TypeId) : Ls f (w.alloc (.cells #[f x, f y] t)) (some ⟨w.heap.size, 0, none⟩) 2 [x, y] := by
  refine ⟨Nat.le_refl _, by omega, fun _ => ⟨w.heap.size, 0, rfl, by simp, fun i hi => ?_⟩, fun h => by cases h⟩
  have : i = 0 ∨ i = 1 := by simp at hi; omega
  rcases this with rfl | rfl <;> simp
theorem OwnG.lent {w W : World} {v : Value} {xs : List Int} (hw : ∀ x ∈ xs, (Lit.int .u8 x).wf = true) (hO : OwnG 5 (Value.int .u8) w W v (xs ++ [201, 202])) : ∃ g c, v = .slice (some ⟨g, 0, none⟩) (xs.length + 2) c ∧ xs.length + 2 ≤ c ∧ Lent6 W g c xs ∧ w.heap.size ≤ g := by
  obtain ⟨p', c, rfl, hI, hF⟩ := hO.form
  have hl : (xs ++ [201, 202]).length = xs.length + 2 := by simp
  obtain ⟨g, o, rfl, hg, hc⟩ := hI.lies (by omega)
  have ho : o = 0 := by
    rcases hO.1.2 with ⟨h1, _⟩ | ⟨g', cap', cur, h1, _⟩
    · cases h1
    · simp only [Value.slice.injEq, Option.some.injEq, Addr.mk.injEq] at h1; exact h1.1.2.1
  subst ho
  refine ⟨g, c, by rw [hl], by rw [← hl]; exact hI.1, ⟨⟨by have := hI.1; omega, hI.2.1, hw, fun hp => ⟨g, 0, rfl, hg, fun i hi => ?_⟩, fun h => by cases h⟩, by have := hI.1; omega, hg, ?_, ?_⟩, (hF g 0 rfl (by omega)).1⟩
  · rw [hc i (by omega)]; congr 2
    show (xs ++ [201, 202]).getD i 0 = xs.getD i 0
    rw [List.getD_eq_getElem?_getD, List.getD_eq_getElem?_getD, List.getElem?_append_left hi]
  · have := hc xs.length (by omega)
    rw [Nat.zero_add] at this
    rw [this]; congr 2
    show (xs ++ [201, 202]).getD xs.length 0 = 201
    rw [List.getD_eq_getElem?_getD, List.getElem?_append_right (Nat.le_refl _)]; simp
  · have := hc (xs.length + 1) (by omega)
    rw [Nat.zero_add] at this
    rw [this]; congr 2
    show (xs ++ [201, 202]).getD (xs.length + 1) 0 = 202
    rw [List.getD_eq_getElem?_getD, List.getElem?_append_right (by omega)]; simp
set_option maxRecDepth 100000 in
set_option maxHeartbeats 1000000 in
theorem lent6_any (p : Option Addr) (cap : Nat) (xs : List Int) (w : World) (h : Ints .u8 w p cap xs) (hs : xs.length ≤ 140737488351232) :
    Calls Try.prog 11 #[.slice p xs.length cap] w fun e w' => (∃ g c, e = .returned (.slice (some ⟨g, 0, none⟩) xs.length c) ∧ Lent6 w' g c xs ∧ w.heap.size ≤ g) ∧ Below w.heap.size w w' := by
  obtain ⟨i1, hi1, y1, z1, b1⟩ := info_parts Try.infoU8
  have A1 := hide h
  have WF := hide h.2.2.1
  have O0 := hide (OwnG.empty (f := Value.int .u8) 5 w)
  clear h
  go_enter Try.func11, Try.ntmps11
  go_wp2_with (first
    | (at_builtin; (refine wpList_append_ls rfl (.tmp 4) (.tmp 5) 24 rfl w 5 i1 (.int .u8 0) 1 Try.underlying24 hi1 y1 z1 b1 rfl (int_one .u8) _ [] rfl (unhide O0) p cap xs rfl ((unhide A1).below (al1p _ _)).ls (by unfold maxLen; simp <;> omega) (by simp <;> omega) ?_; intro v1 w1 Q1; have O1 := hide (own_eq6 Q1 (List.nil_append _)); clear Q1))
    | (at_builtin; (refine wpList_append_ls rfl (.tmp 7) (.tmp 8) 24 rfl w 5 i1 (.int .u8 0) 1 Try.underlying24 hi1 y1 z1 b1 rfl (int_one .u8) _ xs rfl ((unhide O1).below (al1p _ _)) (some ⟨_, 0, none⟩) 2 [201, 202] rfl (ls_two _ _ _ _) (by unfold maxLen; simp <;> omega) (by simp <;> omega) ?_; intro v2 w2 Q2; have B2 := hide Q2.2; obtain ⟨g, c, hv, hgc, hL, hg⟩ := OwnG.lent (unhide WF) Q2; subst hv; have HL := hide hL; clear Q2 hL)))
  go_ret
  exact ⟨⟨_, _, rfl, unhide HL, hg⟩, unhide B2⟩
set_option maxRecDepth 100000 in
set_option maxHeartbeats 1000000 in
/-- What was lent is whole. -/
theorem whole6_any (g c : Nat) (p : Option Addr) (cap : Nat) (xs : List Int) (w : World) (h1 : Lent6 w g c xs) (h2 : Ints .u8 w p cap xs) :
    Calls Try.prog 16 #[.slice (some ⟨g, 0, none⟩) xs.length c, .slice p xs.length cap] w fun e w' => e = .returned (.bool true) ∧ Below w.heap.size w w' := by
  have hc := h1.2.1
  have hl := h1.1.len
  have hcm := h1.1.2.1
  have HS := hide (rsameb_any (some ⟨g, 0, none⟩) p c cap xs xs w h1.1 h2)
  rw [decide_eq_true rfl] at HS
  have HL := hide h1
  clear h1 h2
  go_enter Try.func16, Try.ntmps16
  go_wp2_with fail
  refine (unhide HS).mono ?_
  rintro e w1 ⟨rfl, hb⟩
  have hL := (unhide HL).below hb
  have c1 := hL.2.2.2.1
  have c2 := hL.2.2.2.2
  clear HS HL hL
  go_wp2_with fail
  go_ret
  exact ⟨rfl, hb⟩
end Go.Proofs.Ytbcmfgohbppndaa
