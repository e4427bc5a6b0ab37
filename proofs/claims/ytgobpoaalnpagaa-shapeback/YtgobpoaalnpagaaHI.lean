import Derived.Test.YtgobpoaalnpagaaHH
import Derived.Test.YtgobpoaalnpagaaGW

/-
  Layer 4: the document's examples, as the statements ask them first.
-/
namespace Go.Proofs.Ytgobpoaalnpagaa
open Go.RowKit
set_option linter.unusedVariables false

/-- A list that was written out. -/
theorem lit2 (w : World) (x y : Int) (hx : (Lit.int .i64 x).wf = true) (hy : (Lit.int .i64 y).wf = true) : Ints .i64 (w.alloc (.cells #[.int .i64 x, .int .i64 y] 3)) (some ⟨w.heap.size, 0, none⟩) 2 [x, y] := by
  refine ⟨Nat.le_refl _, by omega, fun d hd => ?_, fun _ => ⟨w.heap.size, 0, rfl, by simp, fun i hi => ?_⟩, fun h => by cases h⟩
  · simp at hd; rcases hd with rfl | rfl <;> assumption
  · match i, hi with
    | 0, _ => simp
    | 1, _ => simp
    | i + 2, hi => exact absurd hi (by simp)
theorem lit3 (w : World) (x y z : Int) (hx : (Lit.int .i64 x).wf = true) (hy : (Lit.int .i64 y).wf = true) (hz : (Lit.int .i64 z).wf = true) : Ints .i64 (w.alloc (.cells #[.int .i64 x, .int .i64 y, .int .i64 z] 3)) (some ⟨w.heap.size, 0, none⟩) 3 [x, y, z] := by
  refine ⟨Nat.le_refl _, by omega, fun d hd => ?_, fun _ => ⟨w.heap.size, 0, rfl, by simp, fun i hi => ?_⟩, fun h => by cases h⟩
  · simp at hd; rcases hd with rfl | rfl | rfl <;> assumption
  · match i, hi with
    | 0, _ => simp
    | 1, _ => simp
    | 2, _ => simp
    | i + 3, hi => exact absurd hi (by simp)

theorem aw_size (p : Option Addr) (cap : Nat) (w : World) (h : Ints .i64 w p cap [2, 3]) :
    Calls Try.prog 9 #[.slice p 2 cap] w fun e w' => e = .returned (.tuple #[.int .i64 6, .int .i64 0]) ∧ w' = w := by
  have := csize_any p cap [2, 3] w h
  rw [show sizeV [2, 3] = (6, 0) by decide] at this
  exact this
theorem aw_size2 (p : Option Addr) (cap : Nat) (w : World) (h : Ints .i64 w p cap [64, 65]) :
    Calls Try.prog 9 #[.slice p 2 cap] w fun e w' => e = .returned (.tuple #[.int .i64 0, .int .i64 4]) ∧ w' = w := by
  have := csize_any p cap [64, 65] w h
  rw [show sizeV [64, 65] = (0, 4) by decide] at this
  exact this
theorem aw_strides (p : Option Addr) (cap : Nat) (w : World) (h : Ints .i64 w p cap [2, 3, 4]) :
    Calls Try.prog 11 #[.slice p 3 cap] w fun e w' => (∃ q c, e = .returned (.tuple #[.slice q 3 c, .int .i64 0]) ∧ Ints .i64 w' q c [12, 4, 1]) ∧ Below w.heap.size w w' := by
  refine (cstrides_any p cap [2, 3, 4] w h).mono ?_
  rintro e w1 ⟨⟨q, c, xs, er, rfl, hI, hR⟩, hb⟩
  have hk : StridesR [2, 3, 4] [12, 4, 1] 0 := .inr ⟨by decide, by simp [strideL, List.range, List.range.loop, prodL, wrap64], rfl⟩
  obtain ⟨rfl, rfl⟩ := hR.one hk
  exact ⟨⟨q, c, rfl, hI⟩, hb⟩
theorem aw_index (p : Option Addr) (cap : Nat) (w : World) (h : Ints .i64 w p cap [2, 3]) :
    Calls Try.prog 13 #[.slice p 2 cap, .int .i64 4] w fun e w' => (∃ q c, e = .returned (.tuple #[.slice q 2 c, .int .i64 0]) ∧ Ints .i64 w' q c [1, 1]) ∧ Below w.heap.size w w' := by
  refine (cindex_any p cap [2, 3] 4 w h).mono ?_
  rintro e w1 ⟨⟨q, c, xs, er, rfl, hI, hR⟩, hb⟩
  have hk : IndexR [2, 3] 4 [1, 1] 0 := .inr (.inr ⟨by decide, by decide, by decide, rfl, fun i hi => by
    match i, hi with
    | 0, _ => decide
    | 1, _ => decide
    | i + 2, hi => exact absurd hi (by simp), by decide, rfl⟩)
  obtain ⟨rfl, rfl⟩ := hR.one hk
  exact ⟨⟨q, c, rfl, hI⟩, hb⟩
theorem aw_offset (p q : Option Addr) (cap cap' : Nat) (w : World) (h1 : Ints .i64 w p cap [2, 3]) (h2 : Ints .i64 w q cap' [1, 1]) :
    Calls Try.prog 15 #[.slice p 2 cap, .slice q 2 cap'] w fun e w' => e = .returned (.tuple #[.int .i64 4, .int .i64 0]) ∧ Below w.heap.size w w' := by
  refine (coffset_any p q cap cap' [2, 3] [1, 1] w h1 h2).mono ?_
  rintro e w1 ⟨⟨r, er, rfl, hR⟩, hb⟩
  have hk : OffsetR [2, 3] [1, 1] 4 0 := .inr (.inr ⟨by decide, rfl, fun i hi => by
    match i, hi with
    | 0, _ => decide
    | 1, _ => decide
    | i + 2, hi => exact absurd hi (by simp), by decide, rfl⟩)
  obtain ⟨rfl, rfl⟩ := hR.one hk
  exact ⟨rfl, hb⟩
theorem aw_broad (p q : Option Addr) (cap cap' : Nat) (w : World) (h1 : Ints .i64 w p cap [3, 1]) (h2 : Ints .i64 w q cap' [2, 1, 4]) :
    Calls Try.prog 19 #[.slice p 2 cap, .slice q 3 cap'] w fun e w' => (∃ s c, e = .returned (.tuple #[.slice s 3 c, .int .i64 0]) ∧ Ints .i64 w' s c [2, 3, 4]) ∧ Below w.heap.size w w' := by
  refine (cbroad_any p q cap cap' [3, 1] [2, 1, 4] w h1 h2).mono ?_
  rintro e w1 ⟨⟨s, c, xs, er, rfl, hI, hR⟩, hb⟩
  have hf : fits [3, 1] [2, 1, 4] := fun i hi => by
    have : rankOf [3, 1] [2, 1, 4] = 3 := by decide
    rw [this] at hi
    match i, hi with
    | 0, _ => decide
    | 1, _ => decide
    | 2, _ => decide
    | i + 3, hi => omega
  have hk : BroadR [3, 1] [2, 1, 4] [2, 3, 4] 0 := .inr (.inr (.inr (.inr ⟨by decide, by decide, hf, by decide, by decide, rfl⟩)))
  obtain ⟨rfl, rfl⟩ := hR.one hk
  exact ⟨⟨s, c, rfl, hI⟩, hb⟩
theorem aw_from (p q : Option Addr) (cap cap' : Nat) (w : World) (h1 : Ints .i64 w p cap [3, 1]) (h2 : Ints .i64 w q cap' [2, 3, 4]) :
    Calls Try.prog 21 #[.slice p 2 cap, .slice q 3 cap', .int .i64 17] w fun e w' => e = .returned (.tuple #[.int .i64 1, .int .i64 0]) ∧ Below w.heap.size w w' := by
  refine (cfrom_any p q cap cap' [3, 1] [2, 3, 4] 17 w h1 h2).mono ?_
  rintro e w1 ⟨⟨r, er, rfl, hR⟩, hb⟩
  have hs : spreadsP [3, 1] [2, 3, 4] := ⟨by decide, fun k hk => by
    match k, hk with
    | 0, _ => decide
    | 1, _ => decide
    | k + 2, hk => exact absurd hk (by simp)⟩
  have hk : FromR [3, 1] [2, 3, 4] 17 1 0 := .inr (.inr (.inr (.inr ⟨by decide, by decide, hs, by decide, by decide, ⟨[1, 1, 1], rfl, fun i hi => by
    match i, hi with
    | 0, _ => decide
    | 1, _ => decide
    | 2, _ => decide
    | i + 3, hi => exact absurd hi (by simp), by decide, by decide⟩, rfl⟩)))
  obtain ⟨rfl, rfl⟩ := hR.one hk
  exact ⟨rfl, hb⟩
theorem aw_same2 (p q : Option Addr) (cap cap' : Nat) (x y : Int) (w : World) (h1 : Ints .i64 w p cap [x, y]) (h2 : Ints .i64 w q cap' [x, y]) :
    Calls Try.prog 17 #[.slice p 2 cap, .slice q 2 cap'] w fun e w' => e = .returned (.bool true) ∧ Below w.heap.size w w' := rsame_true p q cap cap' [x, y] [x, y] w h1 h2 rfl
theorem aw_same3 (p q : Option Addr) (cap cap' : Nat) (x y z : Int) (w : World) (h1 : Ints .i64 w p cap [x, y, z]) (h2 : Ints .i64 w q cap' [x, y, z]) :
    Calls Try.prog 17 #[.slice p 3 cap, .slice q 3 cap'] w fun e w' => e = .returned (.bool true) ∧ Below w.heap.size w w' := rsame_true p q cap cap' [x, y, z] [x, y, z] w h1 h2 rfl

set_option maxRecDepth 100000 in
/-- An axis from the end; one from the front. -/
theorem caxis_neg (a r : Int) (w : World) (h0 : 0 ≤ r) (h1 : r ≤ 1000) (h2 : -r ≤ a) (h3 : a < 0) :
    Calls Try.prog 23 #[.int .i64 a, .int .i64 r] w fun e w' => e = .returned (.tuple #[.int .i64 (r + a), .int .i64 0]) ∧ w' = w := by
  have g1 : ¬ r < 0 := by omega
  have g2 : ¬ a < -r := by omega
  have g3 : ¬ r ≤ a := by omega
  go_enter Try.func23, Try.ntmps23
  go_wp2_with fail
  go_ret2
  exact ⟨rfl, rfl⟩
set_option maxRecDepth 100000 in
theorem caxis_pos (a r : Int) (w : World) (h0 : 0 ≤ r) (h1 : r ≤ 1000) (h2 : 0 ≤ a) (h3 : a < r) :
    Calls Try.prog 23 #[.int .i64 a, .int .i64 r] w fun e w' => e = .returned (.tuple #[.int .i64 a, .int .i64 0]) ∧ w' = w := by
  have g1 : ¬ r < 0 := by omega
  have g2 : ¬ a < -r := by omega
  have g3 : ¬ r ≤ a := by omega
  have g4 : ¬ a < 0 := by omega
  go_enter Try.func23, Try.ntmps23
  go_wp2_with fail
  go_ret2
  exact ⟨rfl, rfl⟩

theorem Try.infoBool : (Try.prog.info? 4).map (fun i => (i.zero, i.size, i.bytes)) = some (some (.bool false), 1, 1) := by kernel_rfl
def threeB (w wr : World) (x y z : Bool) : Prop := wr.ownsRow w.heap.size 4 1 (.slice (some ⟨w.heap.size, 0, none⟩) 3 3) 3 [.bool x, .bool y, .bool z] ∧ Below w.heap.size w wr
theorem threeB.stored0 {w wr : World} {x y z : Bool} (h : threeB w wr x y z) (b : Bool) : threeB w (wr.setCell ⟨w.heap.size, 0, none⟩ (.bool b)) b y z :=
  ⟨(h.1.stored 0 (.bool b)).1, h.2.setCell (Nat.le_refl _) _⟩
theorem threeB.stored2 {w wr : World} {x y z : Bool} (h : threeB w wr x y z) (b : Bool) : threeB w (wr.setCell ⟨w.heap.size, 2, none⟩ (.bool b)) x y b :=
  ⟨(h.1.stored 2 (.bool b)).1, h.2.setCell (Nat.le_refl _) _⟩
theorem threeB.first {w w1 : World} (hown : w1.ownsRow w.heap.size 4 1 (.slice (some ⟨w.heap.size, 0, none⟩) 3 3) 3 (madeCells (Value.bool false).cells (3 * 1)).toList) (hg : w.grownBy w1 none) : threeB w w1 false false false := by
  refine ⟨?_, (Below.refl _ _).grown hg (Nat.le_refl _) (fun k hk => by cases hk)⟩
  have e : (madeCells (Value.bool false).cells (3 * 1)).toList = [.bool false, .bool false, .bool false] := by
    rw [Nat.mul_one, show (Value.bool false).cells = #[Value.bool false] from rfl, toList_madeCells_one]; rfl
  rw [← e]; exact hown
theorem threeB.cells {w wr : World} {x y z : Bool} (h : threeB w wr x y z) : wr.cell? ⟨w.heap.size, 0, none⟩ = some (.bool x) ∧ wr.cell? ⟨w.heap.size, 1, none⟩ = some (.bool y) ∧ wr.cell? ⟨w.heap.size, 2, none⟩ = some (.bool z) ∧ w.heap.size < wr.heap.size ∧ (∀ j, wr.frozen? ⟨w.heap.size, j, none⟩ = false) :=
  ⟨h.1.cellAt 0 (by omega), h.1.cellAt 1 (by omega), h.1.cellAt 2 (by omega), (h.1.lt w.heap.size rfl).2, fun j => h.1.frozenAt j⟩

set_option maxRecDepth 100000 in
set_option maxHeartbeats 4000000 in
theorem aw_axes (p : Option Addr) (cap : Nat) (w : World) (h : Ints .i64 w p cap [0, -1]) :
    Calls Try.prog 24 #[.slice p 2 cap, .int .i64 3] w fun e w' => (∃ g, e = .returned (.tuple #[.slice (some ⟨g, 0, none⟩) 3 3, .int .i64 0]) ∧ g < w'.heap.size ∧ w'.cell? ⟨g, 0, none⟩ = some (.bool true) ∧ w'.cell? ⟨g, 1, none⟩ = some (.bool false) ∧ w'.cell? ⟨g, 2, none⟩ = some (.bool true)) ∧ Below w.heap.size w w' := by
  obtain ⟨i0, hi, hz0, hz1, hz2⟩ := info_parts Try.infoBool
  obtain ⟨b, o, rfl, hb, hc⟩ := h.lies (by decide)
  have c0 : w.cell? ⟨b, o, none⟩ = some (.int .i64 0) := hc 0 (by decide)
  have c1 : w.cell? ⟨b, o + 1, none⟩ = some (.int .i64 (-1)) := hc 1 (by decide)
  have C0 := hide c0
  have C1 := hide c1
  clear h hc c0 c1
  go_enter Try.func24, Try.ntmps24
  go_wp2_with (at_make; refine wpList_make_full _ rfl _ _ 39 rfl w.heap.size 4 i0 (.bool false) 1 Try.underlying39 hi hz0 hz1 _ _ _ _ 3 rfl rfl (by omega) (by omega) (by rw [hz2]; omega) (by unfold maxLen; omega) (Nat.le_refl _) ?_; intro w2 hown hgrow)
  have T0 := hide (threeB.first hown hgrow)
  clear hown hgrow
  go_loopw [7, 22] (fun tv iv wr => tv = .bool false ∧ ((iv = .int .i64 0 ∧ threeB w wr false false false) ∨ (iv = .int .i64 1 ∧ threeB w wr true false false) ∨ (iv = .int .i64 2 ∧ threeB w wr true false true))) (fun _ iv _ => 2 - (intOf iv).toNat)
  case atStart => exact ⟨rfl, .inl ⟨rfl, unhide T0⟩⟩
  case round =>
    obtain ⟨rfl, ⟨rfl, hT⟩ | ⟨rfl, hT⟩ | ⟨rfl, hT⟩⟩ := hrel
    · have d0 := (hT.2.cell (p := ⟨b, o, none⟩) hb).trans (unhide C0)
      obtain ⟨k0, k1, k2, k3, k4⟩ := hT.cells
      have HT := hide hT
      clear hT
      go_wp2_with fail
      refine (caxis_pos _ _ _ (by omega) (by omega) (by omega) (by omega)).mono ?_
      rintro e u ⟨rfl, rfl⟩
      go_wp2_with fail
      go_roundw
      case rel => exact ⟨rfl, .inr (.inl ⟨rfl, (unhide HT).stored0 true⟩)⟩
      case measure => simp [intOf]
    · have d1 := (hT.2.cell (p := ⟨b, o + 1, none⟩) hb).trans (unhide C1)
      obtain ⟨k0, k1, k2, k3, k4⟩ := hT.cells
      have HT := hide hT
      clear hT
      go_wp2_with fail
      refine (caxis_neg _ _ _ (by omega) (by omega) (by omega) (by omega)).mono ?_
      rintro e u ⟨rfl, rfl⟩
      go_wp2_with fail
      go_roundw
      case rel => exact ⟨rfl, .inr (.inr ⟨rfl, (unhide HT).stored2 true⟩)⟩
      case measure => simp [intOf]
    · obtain ⟨k0, k1, k2, k3, k4⟩ := hT.cells
      have HT := hide hT
      clear hT
      go_wp2_with fail
      go_ret2
      exact ⟨⟨_, rfl, k3, k0, k1, k2⟩, (unhide HT).2⟩
end Go.Proofs.Ytgobpoaalnpagaa
