import Derived.Test.YtbcmfgohbppndaaKO
import Derived.SizedLaws
import Derived.Deep.Slices

/-
  Layer 6: a list of fields that came in, opened.
-/
namespace Go.Proofs.Ytbcmfgohbppndaa
open Go.RowKit
set_option linter.unusedVariables false

theorem part_ints6 {H : Type} {enc : TypeId × Value → H} {P : Program} {W : World} {n : Nat} {t e : TypeId} {k : IntKind} {cs : List Value} {y : DataW H × List MemPlace} (ht : P.underlying t = some (.slice e)) (he : P.underlying e = some (.int k)) (hc : P.cellsOf e = 1)
    (h : DataW.trod enc P W 0 (fun _ => true) true n t cs = some y) :
    ∃ p cap xs, cs = [.slice p xs.length cap] ∧ Ints k W p cap xs ∧ (y.1 = .nil ∧ cap = 0 ∨ ∃ sp : List Int, y.1 = .slice (Go.ChangeShapes.lits k xs) (Go.ChangeShapes.lits k sp) ∧ xs.length + sp.length = cap) := by
  rcases Go.ChangeShapes.open_ints ht he hc h with ⟨hcs, hx⟩ | ⟨a, len, cap, zs, hcs, _, hle, hmax, hall, hx, hcell, hwf⟩
  · subst hcs
    exact ⟨none, 0, [], rfl, ⟨Nat.le_refl _, by omega, fun x hx => (by cases hx), fun h => absurd h (by simp), fun _ => rfl⟩, .inl ⟨by rw [hx], rfl⟩⟩
  · subst hcs
    simp only [if_true] at hall
    have hl : (zs.take len).length = len := by rw [List.length_take]; omega
    refine ⟨some a, cap, zs.take len, by rw [hl], ⟨by omega, hmax, fun x hx => hwf x (List.mem_of_mem_take hx), fun hp => ?_, fun h => by cases h⟩, .inr ⟨zs.drop len, by rw [hx], by rw [hl, List.length_drop]; omega⟩⟩
    obtain ⟨b, off, rfl, hc2⟩ := ints_at hcell (by omega)
    have hb : b < W.heap.size := by
      have := hc2 0 (by omega)
      rcases Nat.lt_or_ge b W.heap.size with g | g
      · exact g
      · exfalso
        have hn : W.heap[b]? = none := by simp [g]
        simp [World.cell?, hn] at this
    refine ⟨b, off, rfl, hb, fun i hi => ?_⟩
    rw [hl] at hi
    rw [hc2 i (by omega)]
    congr 2
    simp [List.getD_eq_getElem?_getD, List.getElem?_take_of_lt hi]
/-- What a field of an argument reads as. -/
def FaData {H : Type} (a : FA) (d : DataW H) : Prop := ∃ d3, d = .agg [.lit (.int .i64 a.n), .lit (.int .i64 a.wr), .lit (.int .u64 a.x), d3] ∧ (d3 = .nil ∧ a.c = 0 ∨ ∃ sp : List Int, d3 = .slice (Go.ChangeShapes.lits .u8 a.d) (Go.ChangeShapes.lits .u8 sp) ∧ a.d.length + sp.length = a.c)
theorem fa_open {H : Type} {enc : TypeId × Value → H} {W : World} {n : Nat} {cs : List Value} {y : DataW H × List MemPlace} (h : DataW.trod enc Try.prog W 0 (fun _ => true) true n 40 cs = some y) :
    ∃ a : FA, cs = faCells a ∧ FaIn W a ∧ FaData a y.1 := by
  obtain ⟨xs, n, _, hx, hsz, hlen, hfs⟩ := DataW.trod_struct Try.underlying40 h
  rw [show Try.prog.cellsOf 40 = 4 by kernel_rfl] at hsz
  match cs, hsz with
  | [v0, v1, v2, v3], _ =>
    match xs, hlen with
    | [y0, y1, y2, y3], _ =>
      have h0 := hfs 0 _ rfl
      change DataW.trod enc Try.prog W 0 (fun _ => true) true n 3 (([v0, v1, v2, v3].drop 0).take (Try.prog.cellsOf 3)) = some y0 at h0
      rw [show Try.prog.cellsOf 3 = 1 by kernel_rfl] at h0
      change DataW.trod enc Try.prog W 0 (fun _ => true) true n 3 [v0] = some y0 at h0
      have h1 := hfs 1 _ rfl
      change DataW.trod enc Try.prog W 0 (fun _ => true) true n 3 (([v0, v1, v2, v3].drop 1).take (Try.prog.cellsOf 3)) = some y1 at h1
      rw [show Try.prog.cellsOf 3 = 1 by kernel_rfl] at h1
      change DataW.trod enc Try.prog W 0 (fun _ => true) true n 3 [v1] = some y1 at h1
      have h2 := hfs 2 _ rfl
      change DataW.trod enc Try.prog W 0 (fun _ => true) true n 23 (([v0, v1, v2, v3].drop 2).take (Try.prog.cellsOf 23)) = some y2 at h2
      rw [show Try.prog.cellsOf 23 = 1 by kernel_rfl] at h2
      change DataW.trod enc Try.prog W 0 (fun _ => true) true n 23 [v2] = some y2 at h2
      have h3 := hfs 3 _ rfl
      change DataW.trod enc Try.prog W 0 (fun _ => true) true n 24 (([v0, v1, v2, v3].drop 3).take (Try.prog.cellsOf 24)) = some y3 at h3
      rw [show Try.prog.cellsOf 24 = 1 by kernel_rfl] at h3
      change DataW.trod enc Try.prog W 0 (fun _ => true) true n 24 [v3] = some y3 at h3
      obtain ⟨a0, e0, f0, w0⟩ := DataW.trod_int Try.underlying3 h0
      obtain ⟨a1, e1, f1, w1⟩ := DataW.trod_int Try.underlying3 h1
      obtain ⟨a2, e2, f2, w2⟩ := DataW.trod_int Try.underlying23 h2
      obtain ⟨p3, c3, x3, e3, i3, k3⟩ := part_ints6 Try.underlying24 Try.underlying5 (by kernel_rfl) h3
      simp only [List.cons.injEq, and_true] at e0 e1 e2 e3
      subst e0 e1 e2 e3
      refine ⟨⟨a0, a1, a2, x3, p3, c3⟩, rfl, ⟨w0, w1, w2, i3⟩, y3.1, ?_, k3⟩
      rw [hx]
      simp [f0, f1, f2]
/-- A list of fields, opened. -/
theorem flds_open {H : Type} {enc : TypeId × Value → H} {W : World} {base : Nat} {v : Value} {d : DataW H} {ps : List MemPlace}
    (hv : Value.okWide Try.prog W .any base 32 v) (h : DataW.Trod enc Try.prog W 0 (fun _ => true) true 32 v d ps) :
    ∃ p cap L, v = .slice p L.length cap ∧ Fls W p cap L ∧ (d = .nil ∧ cap = 0 ∨ ∃ D : Nat → DataW H, d = .slice ((List.range L.length).map D) ((List.range (cap - L.length)).map fun j => D (L.length + j)) ∧ ∀ i, i < L.length → FaData (L.getD i noFA) (D i)) := by
  obtain ⟨a0, len, cap, rfl⟩ := Go.WideShapes.okWide_slice Try.underlying32 hv
  obtain ⟨fuel, hf⟩ := h
  rcases Go.Deep.open_slice Try.underlying32 hf with ⟨hcs, hx⟩ | ⟨a, len', cap', m, n, D, Pl, hcs, _, hle, hmax, hm, hx, hall⟩
  · simp [Value.cells] at hcs
    obtain ⟨rfl, rfl, rfl⟩ := hcs
    simp only [Prod.mk.injEq] at hx
    exact ⟨none, 0, [], rfl, ⟨Flc.nil _, fun a ha => by cases ha⟩, .inl ⟨hx.1, rfl⟩⟩
  · simp [Value.cells] at hcs
    obtain ⟨rfl, rfl, rfl⟩ := hcs
    simp only [if_true] at hm
    replace hm := hm.symm
    subst hm
    have hall2 : ∀ i, i < len → ∃ f : FA, (∀ j u, (faCells f)[j]? = some u → W.cell? ((a.add (i * 4)).add j) = some u) ∧ FaIn W f ∧ FaData f (D i) := fun i hi => by
      obtain ⟨cs, h1, h2⟩ := hall i (by omega)
      rw [show Try.prog.cellsOf 40 = 4 by kernel_rfl] at h1
      obtain ⟨f, rfl, g1, g2⟩ := fa_open h2
      refine ⟨f, fun j u hu => ?_, g1, g2⟩
      obtain ⟨_, _, hc⟩ := World.cells?_some h1
      have hj : j < 4 := by
        have := (List.getElem?_eq_some_iff.1 hu).1
        rw [fa_len] at this; exact this
      exact (hc j hj).trans hu
    haveI : Inhabited FA := ⟨noFA⟩
    obtain ⟨f, hf2⟩ := Go.Deep.choose_lt hall2
    have hl : ((List.range len).map f).length = len := by simp
    have hget : ∀ i, i < len → ((List.range len).map f).getD i noFA = f i := fun i hi => by
      rw [List.getD_eq_getElem?_getD, List.getElem?_map, List.getElem?_range hi]; rfl
    refine ⟨some a, cap, (List.range len).map f, by rw [hl], ⟨⟨by rw [hl]; exact hle, hmax, fun hp => ?_, fun h => by cases h⟩, fun x hx => ?_⟩, .inr ⟨D, ?_, fun i hi => ?_⟩⟩
    · rw [hl] at hp
      obtain ⟨b, off, spot⟩ := a
      have h00 := (hf2 0 hp).1 0 _ rfl
      have hspot : spot = none := by simpa [Addr.add] using World.cell?_spot h00
      subst hspot
      have key : ∀ i, i < len → ∀ j u, (faCells (f i))[j]? = some u → W.cell? ⟨b, off + i * 4 + j, none⟩ = some u := fun i hi j u hu => by
        have := (hf2 i hi).1 j u hu
        rw [Go.WideShapes.add_plain, Go.WideShapes.add_plain] at this
        exact this
      refine ⟨b, off, rfl, ?_, fun i hi j u hu => ?_⟩
      · have h0 := key 0 hp 0 _ rfl
        rcases Nat.lt_or_ge b W.heap.size with g | g
        · exact g
        · exfalso
          have hn : W.heap[b]? = none := by simp [g]
          simp [World.cell?, hn] at h0
      · rw [hl] at hi
        rw [hget i hi] at hu
        exact key i hi j u hu
    · obtain ⟨i, hi, rfl⟩ := List.mem_map.1 hx
      exact (hf2 i (by simpa using hi)).2.1
    · rw [hl]
      simp only [Prod.mk.injEq] at hx
      exact hx.1
    · rw [hl] at hi
      rw [hget i hi]
      exact (hf2 i hi).2.2
end Go.Proofs.Ytbcmfgohbppndaa
