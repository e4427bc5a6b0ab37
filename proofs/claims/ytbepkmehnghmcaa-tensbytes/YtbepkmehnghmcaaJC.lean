import Derived.Test.YtbepkmehnghmcaaJA
import Derived.Laws.CopyOwn

/-
  Layer 5: the code's copies of lists.
-/
namespace Go.Proofs.Ytbepkmehnghmcaa
open Go.RowKit
set_option linter.unusedVariables false

def okLen (T : Ten) : Prop := T.2.1.length * 8 ≤ 140737488355328 ∧ T.2.2.1.length * 4 ≤ 140737488355328 ∧ T.2.2.2.1.length * 8 ≤ 140737488355328 ∧ T.2.2.2.2.length ≤ 140737488355328
theorem Try.szInt : (Try.prog.info? 3).map (·.size) = some 1 := by kernel_rfl
theorem Try.szU32 : (Try.prog.info? 52).map (·.size) = some 1 := by kernel_rfl
theorem Try.szI64 : (Try.prog.info? 2).map (·.size) = some 1 := by kernel_rfl
theorem Try.szB : (Try.prog.info? 4).map (·.size) = some 1 := by kernel_rfl
/-- A block that holds a list's cells is a list of the call's own. -/
theorem row_ls {α : Type} [Inhabited α] {f : α → Value} {w : World} {g : Nat} {t : TypeId} {xs : List α} (h : w.heap[g]? = some (.cells (xs.map f).toArray t (0, 0))) (hl : xs.length ≤ 9223372036854775807) : Ls f w (some ⟨g, 0, none⟩) xs.length xs := by
  refine ⟨Nat.le_refl _, hl, fun _ => ⟨g, 0, rfl, lt_of_block h, fun i hi => ?_⟩, fun h => by cases h⟩
  simp [World.cell?, h, List.getElem?_eq_getElem hi]
theorem row_fresh {w : World} {g n B : Nat} {t : TypeId} {cs : Array Value} (h : w.heap[g]? = some (.cells cs t (0, 0))) (hB : B ≤ g) : Fresh B w (some ⟨g, 0, none⟩) n := by
  intro b o e _
  simp only [Option.some.injEq, Addr.mk.injEq] at e
  obtain ⟨rfl, rfl, _⟩ := e
  exact ⟨hB, fun i _ => by simp [World.frozen?, h]⟩
/-- What 'make' has laid, as a block. -/
theorem made_row {t : TypeId} {z : Value} {wq w1 : World} {n : Nat} (hz : z.cells = #[z]) (hown : w1.ownsRow wq.heap.size t 1 (.slice (some ⟨wq.heap.size, 0, none⟩) n n) n (madeCells z.cells (n * 1)).toList) : w1.heap[wq.heap.size]? = some (.cells (List.replicate n z).toArray t (0, 0)) := by
  obtain ⟨_, h⟩ := hown
  rcases h with ⟨h, _⟩ | ⟨g, cap, cur, h, _, hh, hc, hm, hs, ht⟩
  · cases h
  · simp only [Value.slice.injEq, Option.some.injEq, Addr.mk.injEq] at h
    obtain ⟨⟨rfl, _⟩, _, rfl⟩ := h
    rw [hh]
    have e : (madeCells z.cells (n * 1)).toList = List.replicate n z := by rw [Nat.mul_one, hz, toList_madeCells_one]
    rw [e] at ht
    have e2 : cur.toList = List.replicate n z := by
      rw [← ht, List.take_of_length_le]
      simp [hs]
    rw [← e2]
theorem splice_all {α : Type} (L cs : List α) (h : L.length = cs.length) : splice L 0 cs = cs := by
  unfold splice
  simp [← h]

set_option maxRecDepth 100000 in
set_option maxHeartbeats 2000000 in
theorem copied_int (p : Option Addr) (c : Nat) (xs : List Int) (w : World) (h : Ls (Value.int .i64) w p c xs) (hs : xs.length * 8 ≤ 140737488355328) :
    Calls Try.prog 33 #[.slice p xs.length c] w fun e w' => (∃ q d, e = .returned (.slice q xs.length d) ∧ Ls (Value.int .i64) w' q d xs ∧ Fresh w.heap.size w' q xs.length) ∧ Below w.heap.size w w' := by
  obtain ⟨i1, hi1, y1, z1, b1⟩ := info_parts Try.infoInt
  have A1 := hide h
  clear h
  go_enter Try.func33, Try.ntmps33
  go_wp2_with (first
    | (at_make; (refine wpList_make_full _ rfl _ _ 22 rfl w.heap.size 3 i1 (.int .i64 0) 1 Try.underlying22 hi1 y1 z1 _ _ _ _ xs.length rfl rfl (by omega) (by omega) (by rw [b1]; omega) (by unfold maxLen; omega) (Nat.le_refl _) ?_; intro w1 hown hgrow; have R1 := hide (made_row rfl hown); have B1 := hide (((Below.refl w.heap.size w).grown hgrow (Nat.le_refl _) (fun k hk => by cases hk))); clear hown hgrow))
    | ((refine wpList_copy_splice rfl (.tmp 7) (.tmp 8) 22 22 rfl 3 Try.underlying22 Try.szInt _ _ _ _ _ _ rfl rfl w.heap.size 0 _ _ (unhide R1) (xs.map (Value.int .i64)) (by rw [List.length_map]; exact (Nat.min_self _).symm) (fun hp => ⟨rfl, by obtain ⟨b, o, e, _, hc⟩ := ((unhide A1).below (unhide B1)).lies (by simpa using hp); exact ⟨_, e, lsMap_cells hc⟩⟩) (by simp) (fun v hv => by obtain ⟨y, _, rfl⟩ := List.mem_map.1 hv; exact int_one .i64 y) w.heap.size w (unhide B1) (Nat.le_refl _) ?_; intro w2 R2 B2; replace B2 := hide B2)))
  go_ret
  have R3 := unhide R2
  rw [splice_all _ _ (by simp)] at R3
  exact ⟨⟨_, _, rfl, row_ls R3 (by have := (unhide A1).len; omega), row_fresh R3 (Nat.le_refl _)⟩, unhide B2⟩

set_option maxRecDepth 100000 in
set_option maxHeartbeats 2000000 in
theorem copied_uint32 (p : Option Addr) (c : Nat) (xs : List Int) (w : World) (h : Ls (Value.int .u32) w p c xs) (hs : xs.length * 4 ≤ 140737488355328) :
    Calls Try.prog 34 #[.slice p xs.length c] w fun e w' => (∃ q d, e = .returned (.slice q xs.length d) ∧ Ls (Value.int .u32) w' q d xs ∧ Fresh w.heap.size w' q xs.length) ∧ Below w.heap.size w w' := by
  obtain ⟨i1, hi1, y1, z1, b1⟩ := info_parts Try.infoU32
  have A1 := hide h
  clear h
  go_enter Try.func34, Try.ntmps34
  go_wp2_with (first
    | (at_make; (refine wpList_make_full _ rfl _ _ 23 rfl w.heap.size 52 i1 (.int .u32 0) 1 Try.underlying23 hi1 y1 z1 _ _ _ _ xs.length rfl rfl (by omega) (by omega) (by rw [b1]; omega) (by unfold maxLen; omega) (Nat.le_refl _) ?_; intro w1 hown hgrow; have R1 := hide (made_row rfl hown); have B1 := hide (((Below.refl w.heap.size w).grown hgrow (Nat.le_refl _) (fun k hk => by cases hk))); clear hown hgrow))
    | ((refine wpList_copy_splice rfl (.tmp 7) (.tmp 8) 23 23 rfl 52 Try.underlying23 Try.szU32 _ _ _ _ _ _ rfl rfl w.heap.size 0 _ _ (unhide R1) (xs.map (Value.int .u32)) (by rw [List.length_map]; exact (Nat.min_self _).symm) (fun hp => ⟨rfl, by obtain ⟨b, o, e, _, hc⟩ := ((unhide A1).below (unhide B1)).lies (by simpa using hp); exact ⟨_, e, lsMap_cells hc⟩⟩) (by simp) (fun v hv => by obtain ⟨y, _, rfl⟩ := List.mem_map.1 hv; exact int_one .u32 y) w.heap.size w (unhide B1) (Nat.le_refl _) ?_; intro w2 R2 B2; replace B2 := hide B2)))
  go_ret
  have R3 := unhide R2
  rw [splice_all _ _ (by simp)] at R3
  exact ⟨⟨_, _, rfl, row_ls R3 (by have := (unhide A1).len; omega), row_fresh R3 (Nat.le_refl _)⟩, unhide B2⟩

set_option maxRecDepth 100000 in
set_option maxHeartbeats 2000000 in
theorem copied_int64 (p : Option Addr) (c : Nat) (xs : List Int) (w : World) (h : Ls (Value.int .i64) w p c xs) (hs : xs.length * 8 ≤ 140737488355328) :
    Calls Try.prog 35 #[.slice p xs.length c] w fun e w' => (∃ q d, e = .returned (.slice q xs.length d) ∧ Ls (Value.int .i64) w' q d xs ∧ Fresh w.heap.size w' q xs.length) ∧ Below w.heap.size w w' := by
  obtain ⟨i1, hi1, y1, z1, b1⟩ := info_parts Try.infoI64
  have A1 := hide h
  clear h
  go_enter Try.func35, Try.ntmps35
  go_wp2_with (first
    | (at_make; (refine wpList_make_full _ rfl _ _ 24 rfl w.heap.size 2 i1 (.int .i64 0) 1 Try.underlying24 hi1 y1 z1 _ _ _ _ xs.length rfl rfl (by omega) (by omega) (by rw [b1]; omega) (by unfold maxLen; omega) (Nat.le_refl _) ?_; intro w1 hown hgrow; have R1 := hide (made_row rfl hown); have B1 := hide (((Below.refl w.heap.size w).grown hgrow (Nat.le_refl _) (fun k hk => by cases hk))); clear hown hgrow))
    | ((refine wpList_copy_splice rfl (.tmp 7) (.tmp 8) 24 24 rfl 2 Try.underlying24 Try.szI64 _ _ _ _ _ _ rfl rfl w.heap.size 0 _ _ (unhide R1) (xs.map (Value.int .i64)) (by rw [List.length_map]; exact (Nat.min_self _).symm) (fun hp => ⟨rfl, by obtain ⟨b, o, e, _, hc⟩ := ((unhide A1).below (unhide B1)).lies (by simpa using hp); exact ⟨_, e, lsMap_cells hc⟩⟩) (by simp) (fun v hv => by obtain ⟨y, _, rfl⟩ := List.mem_map.1 hv; exact int_one .i64 y) w.heap.size w (unhide B1) (Nat.le_refl _) ?_; intro w2 R2 B2; replace B2 := hide B2)))
  go_ret
  have R3 := unhide R2
  rw [splice_all _ _ (by simp)] at R3
  exact ⟨⟨_, _, rfl, row_ls R3 (by have := (unhide A1).len; omega), row_fresh R3 (Nat.le_refl _)⟩, unhide B2⟩

set_option maxRecDepth 100000 in
set_option maxHeartbeats 2000000 in
theorem copied_bool (p : Option Addr) (c : Nat) (xs : List Bool) (w : World) (h : Ls (Value.bool) w p c xs) (hs : xs.length * 1 ≤ 140737488355328) :
    Calls Try.prog 36 #[.slice p xs.length c] w fun e w' => (∃ q d, e = .returned (.slice q xs.length d) ∧ Ls (Value.bool) w' q d xs ∧ Fresh w.heap.size w' q xs.length) ∧ Below w.heap.size w w' := by
  obtain ⟨i1, hi1, y1, z1, b1⟩ := info_parts Try.infoB
  have A1 := hide h
  clear h
  go_enter Try.func36, Try.ntmps36
  go_wp2_with (first
    | (at_make; (refine wpList_make_full _ rfl _ _ 25 rfl w.heap.size 4 i1 (.bool false) 1 Try.underlying25 hi1 y1 z1 _ _ _ _ xs.length rfl rfl (by omega) (by omega) (by rw [b1]; omega) (by unfold maxLen; omega) (Nat.le_refl _) ?_; intro w1 hown hgrow; have R1 := hide (made_row rfl hown); have B1 := hide (((Below.refl w.heap.size w).grown hgrow (Nat.le_refl _) (fun k hk => by cases hk))); clear hown hgrow))
    | ((refine wpList_copy_splice rfl (.tmp 7) (.tmp 8) 25 25 rfl 4 Try.underlying25 Try.szB _ _ _ _ _ _ rfl rfl w.heap.size 0 _ _ (unhide R1) (xs.map (Value.bool)) (by rw [List.length_map]; exact (Nat.min_self _).symm) (fun hp => ⟨rfl, by obtain ⟨b, o, e, _, hc⟩ := ((unhide A1).below (unhide B1)).lies (by simpa using hp); exact ⟨_, e, lsMap_cells hc⟩⟩) (by simp) (fun v hv => by obtain ⟨y, _, rfl⟩ := List.mem_map.1 hv; exact bool_one y) w.heap.size w (unhide B1) (Nat.le_refl _) ?_; intro w2 R2 B2; replace B2 := hide B2)))
  go_ret
  have R3 := unhide R2
  rw [splice_all _ _ (by simp)] at R3
  exact ⟨⟨_, _, rfl, row_ls R3 (by have := (unhide A1).len; omega), row_fresh R3 (Nat.le_refl _)⟩, unhide B2⟩

end Go.Proofs.Ytbepkmehnghmcaa
