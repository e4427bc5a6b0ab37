import Derived.Test.YtbcmfgohbppndabKH

/-
  Layer 6: the document's lists of fours.
-/
namespace Go.Proofs.Ytbcmfgohbppndab
open Go.RowKit
set_option linter.unusedVariables false

theorem Try.infoU32p : (Try.prog.info? 69).map (fun i => (i.zero, i.size, i.bytes)) = some (some (.int .u32 0), 1, 4) := by kernel_rfl
theorem fix1_5 {a : FA} (h : a.wr = 5) : fix1 a.f = some [a.x % 4294967296] := by unfold fix1 FA.f; simp [h]
theorem fix1_2 {a : FA} (h : a.wr = 2) (k : a.d.length % 4 = 0) : fix1 a.f = some (fours a.d) := by unfold fix1 FA.f; simp [h, k]
theorem fix1_no {a : FA} (h : ¬ a.wr = 5) (k : ¬ (a.wr = 2 ∧ a.d.length % 4 = 0)) : fix1 a.f = none := by
  unfold fix1 FA.f
  simp only
  rw [if_neg h, if_neg k]
theorem fours_len (d : List Int) : (fours d).length = d.length / 4 := by simp [fours]
theorem fours_take (d : List Int) (m : Nat) (h : 4 * m + 4 ≤ d.length) : (fours d).take (m + 1) = (fours d).take m ++ [leV ((d.drop (4 * m)).take 4)] := by
  rw [List.take_add_one]
  congr 1
  unfold fours
  rw [List.getElem?_map, List.getElem?_range (by omega)]
  rfl
theorem Ints.cut {k : IntKind} {w : World} {p : Option Addr} {b o c : Nat} {xs : List Int} (h : Ints k w p c xs) (e : p = some ⟨b, o, none⟩) (i n : Nat) (hin : i + n ≤ xs.length) : Ints k w (some ⟨b, o + i, none⟩) (c - i) ((xs.drop i).take n) := by
  subst e
  have hl : ((xs.drop i).take n).length = n := by simp; omega
  have hc := h.1
  refine ⟨by rw [hl]; omega, by have := h.2.1; omega, fun x hx => h.2.2.1 x (List.mem_of_mem_drop (List.mem_of_mem_take hx)), fun hp => ?_, fun h => by cases h⟩
  rw [hl] at hp
  obtain ⟨b', o', e', hb, hcell⟩ := h.lies (by omega)
  simp only [Option.some.injEq, Addr.mk.injEq] at e'
  obtain ⟨rfl, rfl, _⟩ := e'
  refine ⟨b, o + i, rfl, hb, fun j hj => ?_⟩
  rw [hl] at hj
  have := hcell (i + j) (by omega)
  rw [Nat.add_assoc, this]
  congr 2
  rw [List.getD_eq_getElem?_getD, List.getD_eq_getElem?_getD, List.getElem?_take_of_lt hj, List.getElem?_drop]
end Go.Proofs.Ytbcmfgohbppndab
