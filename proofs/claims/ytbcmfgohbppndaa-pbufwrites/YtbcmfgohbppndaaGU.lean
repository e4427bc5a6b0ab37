import Derived.Test.YtbcmfgohbppndaaGB
import Derived.Carry
import Derived.Laws.OwnMore

/-
  Slices of integers that came in or were made: what lies behind them, how an argument is opened.
-/
namespace Go.Proofs.Ytbcmfgohbppndaa
open Go.RowKit
set_option linter.unusedVariables false

/-- A slice's numbers. -/
def Ints (k : IntKind) (w : World) (p : Option Addr) (cap : Nat) (xs : List Int) : Prop :=
  xs.length ≤ cap ∧ cap ≤ 9223372036854775807 ∧ (∀ x ∈ xs, (Lit.int k x).wf = true) ∧
    (0 < xs.length → ∃ b o, p = some ⟨b, o, none⟩ ∧ b < w.heap.size ∧ ∀ i, i < xs.length → w.cell? ⟨b, o + i, none⟩ = some (.int k (xs.getD i 0))) ∧ (p = none → cap = 0)
theorem Ints.lies {k : IntKind} {w : World} {p : Option Addr} {cap : Nat} {xs : List Int} (h : Ints k w p cap xs) (hp : 0 < xs.length) : ∃ b o, p = some ⟨b, o, none⟩ ∧ b < w.heap.size ∧ ∀ i, i < xs.length → w.cell? ⟨b, o + i, none⟩ = some (.int k (xs.getD i 0)) := h.2.2.2.1 hp
theorem Ints.below {k : IntKind} {w w' : World} {p : Option Addr} {cap : Nat} {xs : List Int} (h : Ints k w p cap xs) (hb : Below w.heap.size w w') : Ints k w' p cap xs := by
  obtain ⟨h1, h2, h3, h4, h5⟩ := h
  refine ⟨h1, h2, h3, fun hp => ?_, h5⟩
  obtain ⟨b, o, e, g1, g2⟩ := h4 hp
  exact ⟨b, o, e, Nat.lt_of_lt_of_le g1 hb.size, fun i hi => (hb.cell (p := ⟨b, o + i, none⟩) g1).trans (g2 i hi)⟩
theorem bw_drew {B : Nat} {a w : World} (h : Below B a w) (n : Nat) : Below B a (w.drewN n) := h.trans ⟨rfl, rfl, rfl, Nat.le_refl _, fun _ _ => rfl⟩
theorem Ints.drewN {k : IntKind} {w : World} {p : Option Addr} {cap : Nat} {xs : List Int} (h : Ints k w p cap xs) (n : Nat) : Ints k (w.drewN n) p cap xs := h.below (bw_drew (Below.refl _ _) n)
theorem Ints.len {k : IntKind} {w : World} {p : Option Addr} {cap : Nat} {xs : List Int} (h : Ints k w p cap xs) : xs.length ≤ 9223372036854775807 := Nat.le_trans h.1 h.2.1
theorem Ints.wf {k : IntKind} {w : World} {p : Option Addr} {cap : Nat} {xs : List Int} (h : Ints k w p cap xs) (i : Nat) (hi : i < xs.length) : (Lit.int k (xs.getD i 0)).wf = true := by
  have : xs.getD i 0 = xs[i] := by simp [List.getElem?_eq_getElem hi]
  rw [this]; exact h.2.2.1 _ (List.getElem_mem hi)
theorem Ints.i64 {w : World} {p : Option Addr} {cap : Nat} {xs : List Int} (h : Ints .i64 w p cap xs) (i : Nat) (hi : i < xs.length) : -9223372036854775808 ≤ xs.getD i 0 ∧ xs.getD i 0 < 9223372036854775808 :=
  wf_i64_iff (h.wf i hi)

/-- An argument that is a slice of integers, opened. -/
theorem ints_open {H : Type} {enc : TypeId × Value → H} {P : Program} {W : World} {base : Nat} {t e : TypeId} {k : IntKind} {v : Value} {d : DataW H} {ps : List MemPlace} (ht : P.underlying t = some (.slice e)) (he : P.underlying e = some (.int k)) (hc : P.cellsOf e = 1)
    (hv : Value.okWide P W .any base t v) (h : DataW.Trod enc P W 0 (fun _ => true) true t v d ps) :
    ∃ p cap xs, v = .slice p xs.length cap ∧ Ints k W p cap xs ∧ (d = .nil ∧ cap = 0 ∨ ∃ sp : List Int, d = .slice (Go.ChangeShapes.lits k xs) (Go.ChangeShapes.lits k sp) ∧ xs.length + sp.length = cap) := by
  obtain ⟨a0, len, cap, rfl⟩ := Go.WideShapes.okWide_slice ht hv
  obtain ⟨fuel, hf⟩ := h
  rcases Go.ChangeShapes.open_ints ht he hc hf with ⟨hcs, hx⟩ | ⟨a, len', cap', zs, hcs, _, hle, hmax, hall, hx, hcell, hwf⟩
  · simp [Value.cells] at hcs
    obtain ⟨rfl, rfl, rfl⟩ := hcs
    simp only [Prod.mk.injEq] at hx
    obtain ⟨rfl, rfl⟩ := hx
    exact ⟨none, 0, [], rfl, ⟨Nat.le_refl _, by omega, fun x hx => (by cases hx), fun h => absurd h (by simp), fun _ => rfl⟩, .inl ⟨rfl, rfl⟩⟩
  · simp [Value.cells] at hcs
    obtain ⟨rfl, rfl, rfl⟩ := hcs
    simp only [Prod.mk.injEq] at hx
    obtain ⟨rfl, rfl⟩ := hx
    simp only [if_true] at hall
    have hl : (zs.take len).length = len := by rw [List.length_take]; omega
    refine ⟨some a, cap, zs.take len, by rw [hl], ⟨by omega, hmax, fun x hx => hwf x (List.mem_of_mem_take hx), fun hp => ?_, fun h => by cases h⟩, .inr ⟨zs.drop len, rfl, by rw [hl, List.length_drop]; omega⟩⟩
    obtain ⟨b, off, rfl, hc2⟩ := ints_at hcell (by omega)
    have hb : b < W.heap.size := by
      have := hc2 0 (by omega)
      rcases Nat.lt_or_ge b W.heap.size with g | g
      · exact g
      · exfalso
        have hn : W.heap[b]? = none := by simp [g]
        simp [World.cell?, hn] at this
    refine ⟨b, off, rfl, hb, fun i hi => ?_⟩
    rw [hl] at hi
    rw [hc2 i (by omega)]
    congr 2
    simp [List.getD_eq_getElem?_getD, List.getElem?_take_of_lt hi]
end Go.Proofs.Ytbcmfgohbppndaa

/-
  Slices of ints that a call itself makes.
-/
namespace Go.Proofs.Ytbcmfgohbppndaa
open Go.RowKit
set_option linter.unusedVariables false

theorem Try.infoInt : (Try.prog.info? 3).map (fun i => (i.zero, i.size, i.bytes)) = some (some (.int .i64 0), 1, 8) := by kernel_rfl
def vals (os : List Int) : List Value := os.map fun d => Value.int .i64 d
theorem vals_length (os : List Int) : (vals os).length = os.length := by simp [vals]
theorem vals_append (a b : List Int) : vals (a ++ b) = vals a ++ vals b := by simp [vals]
/-- A row that the call itself builds: its numbers, and nothing else has turned. -/
def OwnI (w wr : World) (v : Value) (os : List Int) : Prop :=
  wr.ownsRow w.heap.size 3 1 v os.length (vals os) ∧ Below w.heap.size w wr ∧ ∀ d ∈ os, (Lit.int .i64 d).wf = true
theorem OwnI.nil (w : World) : OwnI w w (.slice none 0 0) [] := ⟨World.ownsRow_nil _ _ _ _, Below.refl _ _, by simp⟩
/-- What is laid behind it, out of a world that has grown by new blocks. -/
theorem OwnI.more {w wr wq w1 : World} {v v' : Value} {os xs : List Int} {n m : Nat} (h : OwnI w wr v os) (hq : Below wr.heap.size wr wq) (hn : n = os.length) (hm : m = xs.length) (hx : ∀ d ∈ xs, (Lit.int .i64 d).wf = true)
    (hown : w1.ownsRow w.heap.size 3 1 v' (n + m) (vals os ++ vals xs)) (hg : wq.grownBy w1 v.ownBlock) : OwnI w w1 v' (os ++ xs) := by
  obtain ⟨h1, h2, h3⟩ := h
  subst hn hm
  refine ⟨?_, ?_, ?_⟩
  · rw [List.length_append, vals_append]; exact hown
  · refine (bl_tr h2 hq).grown hg (Nat.le_trans h2.size hq.size) ?_
    intro k hk
    exact (h1.lt k hk).1
  · intro x hx2
    rcases List.mem_append.1 hx2 with k | k
    · exact h3 x k
    · exact hx x k
/-- What is built may be read. -/
theorem OwnI.form {w wr : World} {v : Value} {os : List Int} (h : OwnI w wr v os) : ∃ p cap, v = .slice p os.length cap ∧ Ints .i64 wr p cap os := by
  obtain ⟨⟨_, h1⟩, h2, h3⟩ := h
  rcases h1 with ⟨rfl, h0⟩ | ⟨g, cap, cur, rfl, hb, hh, hc, hm, hs, ht⟩
  · exact ⟨none, 0, by rw [h0], ⟨by omega, by omega, h3, fun hp => by omega, fun _ => rfl⟩⟩
  · refine ⟨some ⟨g, 0, none⟩, cap, rfl, ⟨hc, hm, h3, fun hp => ⟨g, 0, rfl, ?_, fun i hi => ?_⟩, fun h => by cases h⟩⟩
    · rcases Nat.lt_or_ge g wr.heap.size with h | h
      · exact h
      · rw [Array.getElem?_eq_none h] at hh; cases hh
    · have e : cur.toList[i]? = some (.int .i64 (os.getD i 0)) := by
        have e1 : (cur.toList.take (os.length * 1))[i]? = cur.toList[i]? := List.getElem?_take_of_lt (by omega)
        rw [← e1, ht, vals, List.getElem?_map, List.getElem?_eq_getElem hi, List.getD_eq_getElem?_getD, List.getElem?_eq_getElem hi]; rfl
      simp [World.cell?, hh]
      simpa using e
theorem OwnI.below {w wr w' : World} {v : Value} {os : List Int} (h : OwnI w wr v os) (hb : Below wr.heap.size wr w') : OwnI w w' v os := by
  obtain ⟨⟨l1, h1⟩, h2, h3⟩ := h
  refine ⟨⟨l1, ?_⟩, bl_tr h2 hb, h3⟩
  rcases h1 with ⟨rfl, h0⟩ | ⟨g, cap, cur, rfl, hb1, hh, hc, hm, hs, ht⟩
  · exact .inl ⟨rfl, h0⟩
  · refine .inr ⟨g, cap, cur, rfl, hb1, ?_, hc, hm, hs, ht⟩
    rw [hb.block g ?_]; exact hh
    rcases Nat.lt_or_ge g wr.heap.size with h | h
    · exact h
    · rw [Array.getElem?_eq_none h] at hh; cases hh
theorem vals_ok (xs : List Int) : ∀ u ∈ vals xs, u.oneCell' = true := by
  intro u hu
  unfold vals at hu
  obtain ⟨d, _, rfl⟩ := List.mem_map.1 hu
  rfl
theorem vals_cells {w : World} {b o : Nat} {xs : List Int} (h : ∀ i, i < xs.length → w.cell? ⟨b, o + i, none⟩ = some (.int .i64 (xs.getD i 0))) :
    ∀ j u, (vals xs)[j]? = some u → w.cell? ((⟨b, o, none⟩ : Addr).add j) = some u := by
  intro j u hj
  have hlt : j < xs.length := by
    have := (List.getElem?_eq_some_iff.1 hj).1
    rw [vals_length] at this; exact this
  rw [Go.WideShapes.add_plain, h j hlt]
  unfold vals at hj
  rw [List.getElem?_map, List.getElem?_eq_getElem hlt] at hj
  rw [List.getD_eq_getElem?_getD, List.getElem?_eq_getElem hlt]
  simpa using hj
theorem vals_none {w : World} {a : Addr} : ∀ j u, (vals [])[j]? = some u → w.cell? (a.add j) = some u := by
  intro j u hj; simp [vals] at hj
/-- A new row without a number. -/
theorem OwnI.fresh (w : World) : OwnI w (w.alloc (.cells #[] 3)) (.slice (some ⟨w.heap.size, 0, none⟩) 0 0) [] := by
  refine ⟨⟨by simp [vals], .inr ⟨w.heap.size, 0, #[], rfl, Nat.le_refl _, ?_, Nat.le_refl _, by simp, by simp, by simp [vals]⟩⟩, (Below.refl _ _).alloc (Nat.le_refl _) _, by simp⟩
  show (w.heap.push (Obj.cells #[] 3))[w.heap.size]? = _
  simp

theorem ret_slice {p : Option Addr} {n m c : Nat} (h : n = m) : Ending.returned (.slice p n c) = .returned (.slice p m c) := by rw [h]

end Go.Proofs.Ytbcmfgohbppndaa
