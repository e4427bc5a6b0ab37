import Derived.Test.YtgobpoaalnpagaaHI

/-
  Layer 4: the head of its statements.
-/
namespace Go.Proofs.Ytgobpoaalnpagaa
open Go.RowKit
set_option linter.unusedVariables false

theorem alloc_size (w : World) (o : Obj) : (w.alloc o).heap.size = w.heap.size + 1 := by simp
theorem al1 (w : World) (o : Obj) : Below w.heap.size w (w.alloc o) := (Below.refl _ _).alloc (Nat.le_refl _) _
theorem al2 (w : World) (o u : Obj) : Below w.heap.size w ((w.alloc o).alloc u) := bl_tr (al1 w o) (al1 _ u)
theorem lit2b (w : World) (o : Obj) (x y : Int) (hx : (Lit.int .i64 x).wf = true) (hy : (Lit.int .i64 y).wf = true) : Ints .i64 ((w.alloc o).alloc (.cells #[.int .i64 x, .int .i64 y] 3)) (some ⟨w.heap.size + 1, 0, none⟩) 2 [x, y] := by
  have := lit2 (w.alloc o) x y hx hy
  rw [alloc_size] at this; exact this
theorem lit3b (w : World) (o : Obj) (x y z : Int) (hx : (Lit.int .i64 x).wf = true) (hy : (Lit.int .i64 y).wf = true) (hz : (Lit.int .i64 z).wf = true) : Ints .i64 ((w.alloc o).alloc (.cells #[.int .i64 x, .int .i64 y, .int .i64 z] 3)) (some ⟨w.heap.size + 1, 0, none⟩) 3 [x, y, z] := by
  have := lit3 (w.alloc o) x y z hx hy hz
  rw [alloc_size] at this; exact this

set_option maxRecDepth 100000 in
set_option maxHeartbeats 8000000 in
theorem awake4_any (w : World) :
    Calls Try.prog 7 #[] w fun e w' => e = .returned (.bool true) ∧ Below w.heap.size w w' := by
  go_enter Try.func7, Try.ntmps7
  go_wp2_with fail
  refine (aw_size _ _ _ (lit2 _ 2 3 (by decide) (by decide))).mono ?_
  rintro e w1 ⟨rfl, hw1⟩
  have B1 : Hid (Below w.heap.size w w1) := hide (by rw [hw1]; exact al1 _ _)
  clear hw1
  go_wp2_with fail
  refine (aw_strides _ _ _ (lit3 _ 2 3 4 (by decide) (by decide) (by decide))).mono ?_
  rintro e w2 ⟨⟨q2, c2, rfl, I2⟩, hb⟩
  have B2 := hide (bl_tr (unhide B1) (bl_tr (al1 _ _) hb))
  have HS := hide I2
  clear I2 hb B1
  go_wp2_with fail
  refine (aw_index _ _ _ (lit2 _ 2 3 (by decide) (by decide))).mono ?_
  rintro e w3 ⟨⟨q3, c3, rfl, I3⟩, hb⟩
  have B23 := bl_tr (al1 _ _) hb
  have B3 := hide (bl_tr (unhide B2) B23)
  replace HS := hide ((unhide HS).below B23)
  have HX := hide I3
  clear I3 hb B2 B23
  go_wp2_with fail
  refine (aw_offset _ _ _ _ _ ((lit2 _ 2 3 (by decide) (by decide)).below (al1 _ _)) (lit2b _ _ 1 1 (by decide) (by decide))).mono ?_
  rintro e w4 ⟨rfl, hb⟩
  have B34 := bl_tr (al2 _ _ _) hb
  have B4 := hide (bl_tr (unhide B3) B34)
  replace HS := hide ((unhide HS).below B34)
  replace HX := hide ((unhide HX).below B34)
  clear hb B3 B34
  go_wp2_with fail
  refine (aw_broad _ _ _ _ _ ((lit2 _ 3 1 (by decide) (by decide)).below (al1 _ _)) (lit3b _ _ 2 1 4 (by decide) (by decide) (by decide))).mono ?_
  rintro e w5 ⟨⟨q5, c5, rfl, I5⟩, hb⟩
  have B45 := bl_tr (al2 _ _ _) hb
  have B5 := hide (bl_tr (unhide B4) B45)
  replace HS := hide ((unhide HS).below B45)
  replace HX := hide ((unhide HX).below B45)
  have HL := hide I5
  clear hb B4 B45 I5
  go_wp2_with fail
  refine (aw_from _ _ _ _ _ ((lit2 _ 3 1 (by decide) (by decide)).below (al1 _ _)) (lit3b _ _ 2 3 4 (by decide) (by decide) (by decide))).mono ?_
  rintro e w6 ⟨rfl, hb⟩
  have B56 := bl_tr (al2 _ _ _) hb
  have B6 := hide (bl_tr (unhide B5) B56)
  replace HS := hide ((unhide HS).below B56)
  replace HX := hide ((unhide HX).below B56)
  replace HL := hide ((unhide HL).below B56)
  clear hb B5 B56
  go_wp2_with fail
  refine (caxis_neg _ _ _ (by omega) (by omega) (by omega) (by omega)).mono ?_
  rintro e w7 ⟨rfl, rfl⟩
  go_wp2_with fail
  refine (aw_axes _ _ _ (lit2 _ 0 (-1) (by decide) (by decide))).mono ?_
  rintro e w8 ⟨⟨g, rfl, g0, g1, g2, g3⟩, hb⟩
  have B78 := bl_tr (al1 _ _) hb
  have B8 := hide (bl_tr (unhide B6) B78)
  replace HS := hide ((unhide HS).below B78)
  replace HX := hide ((unhide HX).below B78)
  replace HL := hide ((unhide HL).below B78)
  have G0 := hide g0
  have G1 := hide g1
  have G2 := hide g2
  have G3 := hide g3
  clear hb B6 B78 g0 g1 g2 g3
  go_wp2_with fail
  refine (aw_size2 _ _ _ (lit2 _ 64 65 (by decide) (by decide))).mono ?_
  rintro e w9 ⟨rfl, hw9⟩
  have B89 : Below w8.heap.size w8 w9 := by rw [hw9]; exact al1 _ _
  have B9 := hide (bl_tr (unhide B8) B89)
  replace HS := hide ((unhide HS).below B89)
  replace HX := hide ((unhide HX).below B89)
  replace HL := hide ((unhide HL).below B89)
  replace G1 := hide ((B89.cell (p := ⟨g, 0, none⟩) (unhide G0)).trans (unhide G1))
  replace G2 := hide ((B89.cell (p := ⟨g, 1, none⟩) (unhide G0)).trans (unhide G2))
  replace G3 := hide ((B89.cell (p := ⟨g, 2, none⟩) (unhide G0)).trans (unhide G3))
  replace G0 := hide (Nat.lt_of_lt_of_le (unhide G0) B89.size)
  clear hw9 B8 B89
  go_wp2_with fail
  refine (aw_same3 _ _ _ _ 12 4 1 _ ((unhide HS).below (al1 _ _)) (lit3 _ 12 4 1 (by decide) (by decide) (by decide))).mono ?_
  rintro e wa ⟨rfl, hb⟩
  have B9a := bl_tr (al1 _ _) hb
  have Ba := hide (bl_tr (unhide B9) B9a)
  replace HX := hide ((unhide HX).below B9a)
  replace HL := hide ((unhide HL).below B9a)
  replace G1 := hide ((B9a.cell (p := ⟨g, 0, none⟩) (unhide G0)).trans (unhide G1))
  replace G2 := hide ((B9a.cell (p := ⟨g, 1, none⟩) (unhide G0)).trans (unhide G2))
  replace G3 := hide ((B9a.cell (p := ⟨g, 2, none⟩) (unhide G0)).trans (unhide G3))
  replace G0 := hide (Nat.lt_of_lt_of_le (unhide G0) B9a.size)
  clear hb B9 B9a HS
  go_wp2_with fail
  refine (aw_same2 _ _ _ _ 1 1 _ ((unhide HX).below (al1 _ _)) (lit2 _ 1 1 (by decide) (by decide))).mono ?_
  rintro e wb ⟨rfl, hb⟩
  have Bab := bl_tr (al1 _ _) hb
  have Bb := hide (bl_tr (unhide Ba) Bab)
  replace HL := hide ((unhide HL).below Bab)
  replace G1 := hide ((Bab.cell (p := ⟨g, 0, none⟩) (unhide G0)).trans (unhide G1))
  replace G2 := hide ((Bab.cell (p := ⟨g, 1, none⟩) (unhide G0)).trans (unhide G2))
  replace G3 := hide ((Bab.cell (p := ⟨g, 2, none⟩) (unhide G0)).trans (unhide G3))
  replace G0 := hide (Nat.lt_of_lt_of_le (unhide G0) Bab.size)
  clear hb Ba Bab HX
  go_wp2_with fail
  refine (aw_same3 _ _ _ _ 2 3 4 _ ((unhide HL).below (al1 _ _)) (lit3 _ 2 3 4 (by decide) (by decide) (by decide))).mono ?_
  rintro e wc ⟨rfl, hb⟩
  have Bbc := bl_tr (al1 _ _) hb
  have Bc := hide (bl_tr (unhide Bb) Bbc)
  have g1 := (Bbc.cell (p := ⟨g, 0, none⟩) (unhide G0)).trans (unhide G1)
  have g2 := (Bbc.cell (p := ⟨g, 1, none⟩) (unhide G0)).trans (unhide G2)
  have g3 := (Bbc.cell (p := ⟨g, 2, none⟩) (unhide G0)).trans (unhide G3)
  clear hb Bb Bbc HL G0 G1 G2 G3
  go_wp2_with fail
  go_ret
  exact ⟨rfl, unhide Bc⟩
end Go.Proofs.Ytgobpoaalnpagaa
