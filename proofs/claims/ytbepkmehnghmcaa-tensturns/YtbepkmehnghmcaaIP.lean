import Derived.Test.YtbepkmehnghmcaaIB
import Derived.SizedLaws
import Derived.Deep.Grids

/-
  Layer 5: a tensor that came in, opened.
-/
namespace Go.Proofs.Ytbepkmehnghmcaa
open Go.RowKit
set_option linter.unusedVariables false

/-- A slice of integers among the cells of something that came in. -/
theorem part_ints {H : Type} {enc : TypeId × Value → H} {P : Program} {W : World} {n : Nat} {t e : TypeId} {k : IntKind} {cs : List Value} {y : DataW H × List MemPlace} (ht : P.underlying t = some (.slice e)) (he : P.underlying e = some (.int k)) (hc : P.cellsOf e = 1)
    (h : DataW.trod enc P W 0 (fun _ => true) true n t cs = some y) :
    ∃ p cap xs, cs = [.slice p xs.length cap] ∧ Ints k W p cap xs ∧ ((∀ m ∈ y.1.weights P t, m ≤ reachBytes) → cap * P.bytesOf e ≤ reachBytes) := by
  rcases Go.ChangeShapes.open_ints ht he hc h with ⟨hcs, hx⟩ | ⟨a, len, cap, zs, hcs, _, hle, hmax, hall, hx, hcell, hwf⟩
  · subst hcs
    exact ⟨none, 0, [], rfl, ⟨Nat.le_refl _, by omega, fun x hx => (by cases hx), fun h => absurd h (by simp), fun _ => rfl⟩, fun _ => by simp⟩
  · subst hcs
    simp only [if_true] at hall
    have hl : (zs.take len).length = len := by rw [List.length_take]; omega
    refine ⟨some a, cap, zs.take len, by rw [hl], ⟨by omega, hmax, fun x hx => hwf x (List.mem_of_mem_take hx), fun hp => ?_, fun h => by cases h⟩, fun hw => ?_⟩
    · obtain ⟨b, off, rfl, hc2⟩ := ints_at hcell (by omega)
      have hb : b < W.heap.size := by
        have := hc2 0 (by omega)
        rcases Nat.lt_or_ge b W.heap.size with g | g
        · exact g
        · exfalso
          have hn : W.heap[b]? = none := by simp [g]
          simp [World.cell?, hn] at this
      refine ⟨b, off, rfl, hb, fun i hi => ?_⟩
      rw [hl] at hi
      rw [hc2 i (by omega)]
      congr 2
      simp [List.getD_eq_getElem?_getD, List.getElem?_take_of_lt hi]
    · have := hw ((len + (cap - len)) * P.bytesOf e) (by
        rw [hx]
        simp only [DataW.weights, ht, Go.ChangeShapes.lits, List.length_map, List.mem_cons]
        left
        rw [hl, List.length_drop, hall])
      rw [show len + (cap - len) = cap by omega] at this
      exact this
theorem part_bools {H : Type} {enc : TypeId × Value → H} {P : Program} {W : World} {n : Nat} {t e : TypeId} {cs : List Value} {y : DataW H × List MemPlace} (ht : P.underlying t = some (.slice e)) (he : P.underlying e = some .bool) (hc : P.cellsOf e = 1)
    (h : DataW.trod enc P W 0 (fun _ => true) true n t cs = some y) :
    ∃ p cap xs, cs = [.slice p xs.length cap] ∧ Ls Value.bool W p cap xs ∧ ((∀ m ∈ y.1.weights P t, m ≤ reachBytes) → cap * P.bytesOf e ≤ reachBytes) := by
  rcases Go.Deep.open_bools ht he hc h with ⟨hcs, hx⟩ | ⟨a, len, cap, B, hcs, _, hle, hmax, hx, hcell⟩
  · subst hcs
    exact ⟨none, 0, [], rfl, Ls.nil _, fun _ => by simp⟩
  · subst hcs
    have hl : ((List.range len).map B).length = len := by simp
    refine ⟨some a, cap, (List.range len).map B, by rw [hl], ⟨by omega, hmax, fun hp => ?_, fun h => by cases h⟩, fun hw => ?_⟩
    · obtain ⟨b, off, spot⟩ := a
      have hspot : spot = none := by simpa [Addr.add] using World.cell?_spot (hcell 0 (by omega))
      subst hspot
      have hc2 : ∀ j, j < cap → W.cell? ⟨b, off + j, none⟩ = some (.bool (B j)) := fun j hj => by rw [← Go.WideShapes.add_plain]; exact hcell j hj
      have hb : b < W.heap.size := by
        have := hc2 0 (by omega)
        rcases Nat.lt_or_ge b W.heap.size with g | g
        · exact g
        · exfalso
          have hn : W.heap[b]? = none := by simp [g]
          simp [World.cell?, hn] at this
      refine ⟨b, off, rfl, hb, fun i hi => ?_⟩
      rw [hl] at hi
      rw [hc2 i (by omega), List.getD_eq_getElem?_getD, List.getElem?_map]
      simp [hi]
    · have := hw ((len + (cap - len)) * P.bytesOf e) (by
        rw [hx]
        simp [Go.Deep.boolRow, DataW.weights, ht])
      rw [show len + (cap - len) = cap by omega] at this
      exact this
/-- A tensor argument, opened: its data, and how many bytes its lists take at most. -/
theorem ten_open {H : Type} {enc : TypeId × Value → H} {W : World} {base : Nat} {v : Value} {d : DataW H} {ps : List MemPlace}
    (hv : Value.okWide Try.prog W .any base 27 v) (h : DataW.Trod enc Try.prog W 0 (fun _ => true) true 27 v d ps) :
    ∃ T A, v = tenV T A ∧ TenIn W T A ∧ ((∀ m ∈ d.weights Try.prog 27, m ≤ reachBytes) → A.cd * 8 ≤ reachBytes ∧ A.cf * 4 ≤ reachBytes ∧ A.ci * 8 ≤ reachBytes ∧ A.cb * 1 ≤ reachBytes) := by
  obtain ⟨cs, rfl, hsz⟩ := Go.WideShapes.okWide_struct Try.underlying27 hv
  obtain ⟨fuel, hf⟩ := h
  obtain ⟨xs, n, _, hx, hl, hlen, hfs⟩ := DataW.trod_struct Try.underlying27 hf
  rw [show Try.prog.cellsOf 27 = 5 by kernel_rfl] at hsz
  obtain ⟨l⟩ := cs
  match l, hsz with
  | [v0, v1, v2, v3, v4], _ =>
    match xs, hlen with
    | [y0, y1, y2, y3, y4], _ =>
      have h0 := hfs 0 _ rfl
      change DataW.trod enc Try.prog W 0 (fun _ => true) true n 3 (([v0, v1, v2, v3, v4].drop 0).take (Try.prog.cellsOf 3)) = some y0 at h0
      rw [show Try.prog.cellsOf 3 = 1 by kernel_rfl] at h0
      change DataW.trod enc Try.prog W 0 (fun _ => true) true n 3 [v0] = some y0 at h0
      have h1 := hfs 1 _ rfl
      change DataW.trod enc Try.prog W 0 (fun _ => true) true n 22 (([v0, v1, v2, v3, v4].drop 1).take (Try.prog.cellsOf 22)) = some y1 at h1
      rw [show Try.prog.cellsOf 22 = 1 by kernel_rfl] at h1
      change DataW.trod enc Try.prog W 0 (fun _ => true) true n 22 [v1] = some y1 at h1
      have h2 := hfs 2 _ rfl
      change DataW.trod enc Try.prog W 0 (fun _ => true) true n 23 (([v0, v1, v2, v3, v4].drop 2).take (Try.prog.cellsOf 23)) = some y2 at h2
      rw [show Try.prog.cellsOf 23 = 1 by kernel_rfl] at h2
      change DataW.trod enc Try.prog W 0 (fun _ => true) true n 23 [v2] = some y2 at h2
      have h3 := hfs 3 _ rfl
      change DataW.trod enc Try.prog W 0 (fun _ => true) true n 24 (([v0, v1, v2, v3, v4].drop 3).take (Try.prog.cellsOf 24)) = some y3 at h3
      rw [show Try.prog.cellsOf 24 = 1 by kernel_rfl] at h3
      change DataW.trod enc Try.prog W 0 (fun _ => true) true n 24 [v3] = some y3 at h3
      have h4 := hfs 4 _ rfl
      change DataW.trod enc Try.prog W 0 (fun _ => true) true n 25 (([v0, v1, v2, v3, v4].drop 4).take (Try.prog.cellsOf 25)) = some y4 at h4
      rw [show Try.prog.cellsOf 25 = 1 by kernel_rfl] at h4
      change DataW.trod enc Try.prog W 0 (fun _ => true) true n 25 [v4] = some y4 at h4
      obtain ⟨a0, e0, e0', w0⟩ := DataW.trod_int Try.underlying3 h0
      obtain ⟨p1, c1, x1, e1, i1, k1⟩ := part_ints Try.underlying22 Try.underlying3 (by kernel_rfl) h1
      obtain ⟨p2, c2, x2, e2, i2, k2⟩ := part_ints Try.underlying23 Try.underlying52 (by kernel_rfl) h2
      obtain ⟨p3, c3, x3, e3, i3, k3⟩ := part_ints Try.underlying24 Try.underlying2 (by kernel_rfl) h3
      obtain ⟨p4, c4, x4, e4, i4, k4⟩ := part_bools Try.underlying25 Try.underlying4 (by kernel_rfl) h4
      simp only [List.cons.injEq, and_true] at e0 e1 e2 e3 e4
      subst e0 e1 e2 e3 e4
      simp only [Prod.mk.injEq] at hx
      obtain ⟨rfl, rfl⟩ := hx
      refine ⟨(a0, x1, x2, x3, x4), ⟨p1, c1, p2, c2, p3, c3, p4, c4⟩, rfl, ⟨w0, i1, i2, i3, i4⟩, fun hw => ?_⟩
      rw [show Try.prog.bytesOf 3 = 8 by kernel_rfl] at k1
      rw [show Try.prog.bytesOf 52 = 4 by kernel_rfl] at k2
      rw [show Try.prog.bytesOf 2 = 8 by kernel_rfl] at k3
      rw [show Try.prog.bytesOf 4 = 1 by kernel_rfl] at k4
      have hw2 : ∀ m ∈ DataW.weightsEach Try.prog [3, 22, 23, 24, 25] [y0.1, y1.1, y2.1, y3.1, y4.1], m ≤ reachBytes := by
        intro m hm
        apply hw m
        simp only [DataW.weights, Try.underlying27]
        exact hm
      simp only [DataW.weightsEach, List.mem_append] at hw2
      exact ⟨k1 (fun m hm => hw2 m (by simp [hm])), k2 (fun m hm => hw2 m (by simp [hm])), k3 (fun m hm => hw2 m (by simp [hm])), k4 (fun m hm => hw2 m (by simp [hm]))⟩
end Go.Proofs.Ytbepkmehnghmcaa
