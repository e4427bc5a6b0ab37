import Derived.Test.YtbepkmehnghmcaaIU

/-
  Layer 5: the head of its statements.
-/
namespace Go.Proofs.Ytbepkmehnghmcaa
open Go.RowKit
set_option linter.unusedVariables false

theorem al4 (w : World) (a b c d : Obj) : Below w.heap.size w ((((w.alloc a).alloc b).alloc c).alloc d) := bl_tr (al3 w a b c) (al1 _ _)
theorem lit_at (k : IntKind) (w : World) (t : TypeId) (xs : List Int) (g : Nat) (hg : w.heap.size = g) (hl : xs.length ≤ 9223372036854775807) (hw : ∀ x ∈ xs, (Lit.int k x).wf = true) : Ints k (w.alloc (.cells ⟨xs.map (Value.int k)⟩ t)) (some ⟨g, 0, none⟩) xs.length xs := by
  subst hg; exact lit_ints k w t xs hl hw
theorem box_at (w : World) (cs : Array Value) (t : TypeId) (g : Nat) (hg : w.heap.size = g) : Box (w.alloc (.cells cs t)) g cs t := by subst hg; exact Box.new w cs t
theorem ten57_in (w : World) : TenIn ((w.alloc (.cells #[.int .i64 2] 3)).alloc (.cells #[.int .i64 5, .int .i64 7] 2)) t57 ⟨some ⟨w.heap.size, 0, none⟩, 1, none, 0, some ⟨w.heap.size + 1, 0, none⟩, 2, none, 0⟩ :=
  ⟨rfl, (lit_ints .i64 w 3 [2] (by decide) (by decide)).below (al1 _ _), nilInts _ _, lit_at .i64 (w.alloc _) 2 [5, 7] _ (by simp) (by decide) (by decide), Ls.nil _⟩
set_option maxRecDepth 100000 in
set_option maxHeartbeats 8000000 in
theorem awake5_any (w : World) :
    Calls Try.prog 9 #[] w fun e w' => e = .returned (.bool true) ∧ Below w.heap.size w w' := by
  go_enter Try.func9, Try.ntmps9
  go_wp2_with fail
  have P1 := fun w' h h2 h3 => tpick_any t57 ⟨some ⟨w.heap.size, 0, none⟩, 1, none, 0, some ⟨w.heap.size + 1, 0, none⟩, 2, none, 0⟩ (some ⟨w.heap.size + 1 + 1 + 1, 0, none⟩) (some ⟨w.heap.size + 1 + 1 + 1 + 1, 0, none⟩) 1 3 [3] [1, -1, 0] w' h h2 h3
  rw [aw5a.1, aw5a.2] at P1
  refine (P1 _ ((ten57_in w).below (al3 _ _ _ _)) ((lit_at .i64 _ 3 [3] _ (by simp) (by decide) (by decide)).below (al1 _ _)) (lit_at .i64 _ 3 [1, -1, 0] _ (by simp) (by decide) (by decide))).mono ?_
  rintro e w1 ⟨⟨C, rfl, hO⟩, hb⟩
  obtain ⟨qd, ed, qf, ef, qi, ei, qb, eb⟩ := C
  have HT := hide ((ten57_in w).below (bl_tr (al3 _ _ _ _) hb))
  have XT := hide (Box.below (Box.alloc (Box.alloc (box_at _ #[.int .i64 7, .slice (some ⟨w.heap.size, 0, none⟩) 1 1, .slice none 0 0, .slice (some ⟨w.heap.size + 1, 0, none⟩) 2 2, .slice none 0 0] 27 (w.heap.size + 1 + 1) (by simp)) _) _) hb)
  have B1 := hide (bl_tr (bl_tr (al2 _ _ _) (al3 _ _ _ _)) hb)
  have HP := hide hO.1
  unfold tenV tenCells
  simp only [List.length_cons, List.length_nil, Nat.zero_add, Nat.reduceAdd]
  have xt := (unhide XT).cell
  have zt := (unhide XT).lt
  clear hb hO P1
  go_wp2_with fail
  have P2 := fun w' p2 p3 h h2 h3 => tpick_any t57 ⟨some ⟨w.heap.size, 0, none⟩, 1, none, 0, some ⟨w.heap.size + 1, 0, none⟩, 2, none, 0⟩ p2 p3 1 1 [1] [2] w' h h2 h3
  rw [aw5b.1, aw5b.2] at P2
  refine (P2 _ _ _ ((unhide HT).below (al3 _ _ _ _)) ((lit_at .i64 _ 3 [1] _ (by simp) (by decide) (by decide)).below (al1 _ _)) (lit_at .i64 _ 3 [2] _ (by simp) (by decide) (by decide))).mono ?_
  rintro e w2 ⟨⟨C2, rfl, hO⟩, hb⟩
  obtain ⟨rd, d1, rf, d2, ri, d3, rb, d4⟩ := C2
  have bb := bl_tr (al3 _ _ _ _) hb
  have XP := hide (Box.below (Box.alloc (Box.alloc (Box.new w1 #[.int .i64 7, .slice qd 1 ed, .slice qf 0 ef, .slice qi 3 ei, .slice qb 0 eb] 27) _) _) hb)
  replace HT := hide ((unhide HT).below bb)
  replace XT := hide ((unhide XT).below bb)
  replace HP := hide ((unhide HP).below bb)
  replace B1 := hide (bl_tr (unhide B1) bb)
  unfold tenV tenCells noTen
  simp only [List.length_nil]
  clear xt zt bb hb hO P2
  have xt := (unhide XT).cell
  have zt := (unhide XT).lt
  go_wp2_with fail
  have P3 := fun w' h => tints_any t57 ⟨some ⟨w.heap.size, 0, none⟩, 1, none, 0, some ⟨w.heap.size + 1, 0, none⟩, 2, none, 0⟩ w' h
  rw [aw5c.1, aw5c.2] at P3
  refine (P3 _ ((unhide HT).below (al1 _ _))).mono ?_
  rintro e w3 ⟨⟨ql, cl, rfl, hI, _⟩, hb⟩
  have bb := bl_tr (al1 _ _) hb
  have HL := hide hI
  replace HT := hide ((unhide HT).below bb)
  replace XT := hide ((unhide XT).below bb)
  replace HP := hide ((unhide HP).below bb)
  replace XP := hide ((unhide XP).below bb)
  replace B1 := hide (bl_tr (unhide B1) bb)
  clear xt zt bb hb hI P3
  have xt := (unhide XT).cell
  have zt := (unhide XT).lt
  simp only [List.length_cons, List.length_nil, Nat.zero_add, Nat.reduceAdd]
  go_wp2_with fail
  have P4 := fun w' h => tbytes_any t57 ⟨some ⟨w.heap.size, 0, none⟩, 1, none, 0, some ⟨w.heap.size + 1, 0, none⟩, 2, none, 0⟩ w' h
  rw [aw5d, aw5e] at P4
  refine (P4 _ (unhide HT)).mono ?_
  rintro e w4 ⟨⟨qy, cy, rfl, hI⟩, bb⟩
  have HY := hide hI
  replace HL := hide ((unhide HL).below bb)
  replace HP := hide ((unhide HP).below bb)
  replace XP := hide ((unhide XP).below bb)
  replace B1 := hide (bl_tr (unhide B1) bb)
  clear xt zt bb hI P4 HT XT
  simp only [List.length_cons, List.length_nil, Nat.zero_add, Nat.reduceAdd]
  go_wp2_with fail
  have P5 := fun w' p2 p3 h2 h3 => tfromb_any 9 p2 p3 1 2 [2] [1, 2] w' rfl h2 h3
  rw [aw5f.1, aw5f.2] at P5
  refine (P5 _ _ _ ((lit_at .i64 _ 3 [2] _ rfl (by decide) (by decide)).below (al1 _ _)) (lit_at .u8 _ 5 [1, 2] _ (by simp) (by decide) (by decide))).mono ?_
  rintro e w5 ⟨⟨C5, rfl, hO⟩, hb⟩
  obtain ⟨sd, g1, sf, g2, si, g3, sb, g4⟩ := C5
  have bb := bl_tr (al2 _ _ _) hb
  replace HL := hide ((unhide HL).below bb)
  replace HY := hide ((unhide HY).below bb)
  replace HP := hide ((unhide HP).below bb)
  replace XP := hide ((unhide XP).below bb)
  replace B1 := hide (bl_tr (unhide B1) bb)
  unfold tenV tenCells noTen
  simp only [List.length_nil]
  clear bb hb hO P5
  go_wp2_with fail
  have P6 := fun w' p h => tcanon_any (0, [], [2139095041], [], []) ⟨none, 0, p, 1, none, 0, none, 0⟩ w' h (by unfold okLen; simp)
  rw [aw5g] at P6
  refine (P6 _ _ ⟨rfl, nilInts _ _, lit_at .u32 _ 52 [2139095041] _ (by simp) (by decide) (by decide), nilInts _ _, Ls.nil _⟩).mono ?_
  rintro e w6 ⟨⟨C6, rfl, hO⟩, hb⟩
  obtain ⟨ad, a1, af, a2, ai, a3, ab, a4⟩ := C6
  have bb := bl_tr (al2 _ _ _) hb
  have HC := hide hO.1
  replace HL := hide ((unhide HL).below bb)
  replace HY := hide ((unhide HY).below bb)
  replace HP := hide ((unhide HP).below bb)
  replace XP := hide ((unhide XP).below bb)
  replace B1 := hide (bl_tr (unhide B1) bb)
  unfold tenV tenCells
  simp only [List.length_cons, List.length_nil, Nat.zero_add]
  clear bb hb hO P6
  go_wp2_with fail
  have P7 := fun w' p q h => tcheck_any (1, [2], [1], [], []) ⟨p, 1, q, 1, none, 0, none, 0⟩ w' h
  rw [aw5h] at P7
  refine (P7 _ _ _ ⟨rfl, (lit_at .i64 _ 3 [2] _ (by simp) (by decide) (by decide)).below (al1 _ _), lit_at .u32 _ 52 [1] _ (by simp) (by decide) (by decide), nilInts _ _, Ls.nil _⟩).mono ?_
  rintro e w7 ⟨rfl, hb⟩
  have bb := bl_tr (bl_tr (al3 _ _ _ _) (al3 _ _ _ _)) hb
  have XC := hide (Box.below (Box.alloc (Box.alloc (Box.alloc (Box.alloc (Box.alloc (Box.new w6 #[.int .i64 0, .slice ad 0 a1, .slice af 1 a2, .slice ai 0 a3, .slice ab 0 a4] 27) _) _) _) _) _) hb)
  have XW := hide (Box.below (Box.alloc (Box.alloc (box_at _ #[.int .i64 7, .slice (some ⟨w6.heap.size + 1, 0, none⟩) 1 1, .slice none 0 0, .slice (some ⟨w6.heap.size + 1 + 1, 0, none⟩) 3 3, .slice none 0 0] 27 (w6.heap.size + 1 + 1 + 1) (by simp)) _) _) hb)
  have HW : Hid (TenIn w7 (7, [3], [], [7, 0, 5], []) ⟨some ⟨w6.heap.size + 1, 0, none⟩, 1, none, 0, some ⟨w6.heap.size + 1 + 1, 0, none⟩, 3, none, 0⟩) := hide ⟨rfl, (lit_at .i64 _ 3 [3] _ (by simp) (by decide) (by decide)).below (bl_tr (al4 _ _ _ _ _) hb), nilInts _ _, (lit_at .i64 _ 2 [7, 0, 5] _ (by simp) (by decide) (by decide)).below (bl_tr (al3 _ _ _ _) hb), Ls.nil _⟩
  replace HC := hide ((unhide HC).below bb)
  replace HL := hide ((unhide HL).below bb)
  replace HY := hide ((unhide HY).below bb)
  replace HP := hide ((unhide HP).below bb)
  replace XP := hide ((unhide XP).below bb)
  replace B1 := hide (bl_tr (unhide B1) bb)
  have xc := (unhide XC).cell
  have xw := (unhide XW).cell
  have xp := (unhide XP).cell
  clear bb hb P7
  go_wp2_with fail
  have P8 := fun w' h k => rten_same (7, [3], [], [7, 0, 5], []) (7, [3], [], [7, 0, 5], []) ⟨qd, ed, qf, ef, qi, ei, qb, eb⟩ ⟨some ⟨w6.heap.size + 1, 0, none⟩, 1, none, 0, some ⟨w6.heap.size + 1 + 1, 0, none⟩, 3, none, 0⟩ w' h k
  rw [decide_eq_true rfl] at P8
  refine (P8 _ (unhide HP) (unhide HW)).mono ?_
  rintro e w8 ⟨rfl, bb⟩
  replace XC := hide ((unhide XC).below bb)
  replace HC := hide ((unhide HC).below bb)
  replace HL := hide ((unhide HL).below bb)
  replace HY := hide ((unhide HY).below bb)
  replace B1 := hide (bl_tr (unhide B1) bb)
  clear bb P8 HP XP HW XW xc xw xp
  go_wp2_with fail
  refine (rsame_true _ _ _ _ [5, 7] [5, 7] _ ((unhide HL).below (al1 _ _)) (lit_at .i64 _ 3 [5, 7] _ rfl (by decide) (by decide)) rfl).mono ?_
  rintro e w9 ⟨rfl, hb⟩
  have bb := bl_tr (al1 _ _) hb
  replace XC := hide ((unhide XC).below bb)
  replace HC := hide ((unhide HC).below bb)
  replace HY := hide ((unhide HY).below bb)
  replace B1 := hide (bl_tr (unhide B1) bb)
  have xc := (unhide XC).cell
  obtain ⟨b1, o1, rfl, hb1, hc1⟩ := (unhide HY).lies (by decide)
  have k1 := hc1 8 (by decide)
  obtain ⟨b2, o2, hq2, hb2, hc2⟩ := (unhide HC).2.2.1.lies (show 0 < [2143289344].length by decide)
  simp only at hq2
  subst hq2
  have k2 := hc2 0 (by decide)
  simp only [Nat.add_zero] at k2
  have k1' : w9.cell? ⟨b1, o1 + 8, none⟩ = some (.int .u8 7) := k1
  have k2' : w9.cell? ⟨b2, o2, none⟩ = some (.int .u32 2143289344) := k2
  clear bb hb hc1 hc2 k1 k2 HL
  go_wp2_with fail
  go_ret
  exact ⟨rfl, unhide B1⟩
end Go.Proofs.Ytbepkmehnghmcaa
