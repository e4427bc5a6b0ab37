import Derived.Test.YtkbniebahledmabGB
import Derived.Test.YtkbniebahledmabGA
import Derived.Laws.OwnMore

/-
  Walks of the document's whole numbers (rows of digits of 32 bits): what each function makes of its digits.
-/
namespace Go.Proofs.Ytkbniebahledmab
open Go.RowKit
set_option linter.unusedVariables false

/-- The digits lie behind an address. -/
def Lies (w : World) (b o : Nat) (ds : List Nat) : Prop := b < w.heap.size ∧ ∀ i, i < ds.length → w.cell? ⟨b, o + i, none⟩ = some (.int .u32 (ds.getD i 0))
/-- A slice that holds a whole number, in at most K digits. -/
def Num (w : World) (v : Value) (N K : Nat) : Prop :=
  ∃ b o ds cap, v = .slice (some ⟨b, o, none⟩) ds.length cap ∧ ds.length ≤ cap ∧ ds.length ≤ K ∧ (∀ d ∈ ds, d < 4294967296) ∧ Dg.natOf ds = N ∧ Dg.Norm ds ∧ Lies w b o ds

theorem Lies.below {w w' : World} {b o : Nat} {ds : List Nat} (h : Lies w b o ds) (hb : Below w.heap.size w w') : Lies w' b o ds :=
  ⟨Nat.lt_of_lt_of_le h.1 hb.size, fun i hi => (hb.cell (p := ⟨b, o + i, none⟩) h.1).trans (h.2 i hi)⟩
theorem Num.below {w w' : World} {v : Value} {N K : Nat} (h : Num w v N K) (hb : Below w.heap.size w w') : Num w' v N K := by
  obtain ⟨b, o, ds, cap, h1, h2, h3, h4, h5, h6, h7⟩ := h
  exact ⟨b, o, ds, cap, h1, h2, h3, h4, h5, h6, h7.below hb⟩
theorem Num.le {w : World} {v : Value} {N K K' : Nat} (h : Num w v N K) (hk : K ≤ K') : Num w v N K' := by
  obtain ⟨b, o, ds, cap, h1, h2, h3, h4, h5, h6, h7⟩ := h
  exact ⟨b, o, ds, cap, h1, h2, by omega, h4, h5, h6, h7⟩

/-- What is left without the noughts at the end. -/
theorem num_of_trim {w : World} {b o : Nat} {ds : List Nat} {cap k K : Nat} (hc : ds.length ≤ cap) (hK : ds.length ≤ K) (hd : ∀ d ∈ ds, d < 4294967296) (hl : Lies w b o ds)
    (hk : k ≤ ds.length) (hz : ∀ i, k ≤ i → i < ds.length → ds.getD i 0 = 0) (hn : k = 0 ∨ ds.getD (k - 1) 0 ≠ 0) : Num w (.slice (some ⟨b, o, none⟩) k cap) (Dg.natOf ds) K := by
  have hlen : (ds.take k).length = k := by rw [List.length_take]; omega
  have hg : ∀ i, i < k → (ds.take k).getD i 0 = ds.getD i 0 := fun i hi => by
    rw [List.getD_eq_getElem?_getD, List.getD_eq_getElem?_getD, List.getElem?_take_of_lt hi]
  refine ⟨b, o, ds.take k, cap, by rw [hlen], by omega, by omega, fun d h => hd d (List.mem_of_mem_take h), Dg.natOf_trim ds k hk hz, ?_, hl.1, fun i hi => ?_⟩
  · by_cases hk0 : k = 0
    · left; subst hk0; simp
    · right
      rcases hn with h | h
      · exact absurd h hk0
      · rw [hlen, hg _ (by omega)]; exact h
  · rw [hg i (by omega)]; exact hl.2 i (by omega)

theorem drewN_two (w : World) (m n : Nat) : (w.drewN m).drewN n = w.drewN (m + n) := by simp
theorem drewN_three (w : World) (m n k : Nat) : ((w.drewN m).drewN n).drewN k = w.drewN (m + n + k) := by simp

/-- -1, 0, 1. -/
def cmpN (N M : Nat) : Int := if N < M then -1 else if M < N then 1 else 0

end Go.Proofs.Ytkbniebahledmab

/-
  Walks of the document's whole numbers: comparing, sums, differences, powers of two.
-/
namespace Go.Proofs.Ytkbniebahledmab
open Go.RowKit
set_option linter.unusedVariables false

theorem Try.infoU32 : (Try.prog.info? 22).map (fun i => (i.zero, i.size, i.bytes)) = some (some (.int .u32 0), 1, 4) := by kernel_rfl

/-- A row that the call itself builds: its digits, and nothing else has turned. -/
def Built (w wr : World) (v : Value) (os : List Nat) : Prop :=
  wr.ownsRow w.heap.size 22 1 v os.length (os.map fun (d : Nat) => Value.int .u32 (d : Int)) ∧ Below w.heap.size w wr ∧ ∀ d ∈ os, d < 4294967296
theorem Built.nil (w : World) : Built w w (.slice none 0 0) [] := ⟨World.ownsRow_nil _ _ _ _, Below.refl _ _, by simp⟩
theorem Built.step {w wr w1 : World} {v v' : Value} {os : List Nat} {ob : Obj} {X : Int} {d : Nat} (h : Built w wr v os) (hX : X = (d : Int)) (hd : d < 4294967296)
    (hown : w1.ownsRow w.heap.size 22 1 v' (os.length + 1) ((os.map fun (d : Nat) => Value.int .u32 (d : Int)) ++ [.int .u32 X])) (hg : (wr.alloc ob).grownBy w1 v.ownBlock) :
    Built w w1 v' (os ++ [d]) := by
  obtain ⟨h1, h2, h3⟩ := h
  subst hX
  refine ⟨by simpa using hown, ?_, ?_⟩
  · refine (h2.alloc h2.size ob).grown hg (by have := h2.size; simp; omega) ?_
    intro k hk
    exact (h1.lt k hk).1
  · intro x hx
    rw [List.mem_append] at hx
    rcases hx with hx | hx
    · exact h3 x hx
    · simp at hx; omega
/-- What is built may be read. -/
theorem Built.form {w wr : World} {v : Value} {os : List Nat} (h : Built w wr v os) (hp : 0 < os.length) : ∃ b cap, v = .slice (some ⟨b, 0, none⟩) os.length cap ∧ os.length ≤ cap ∧ Lies wr b 0 os := by
  obtain ⟨⟨_, h1⟩, h2, h3⟩ := h
  rcases h1 with ⟨rfl, h0⟩ | ⟨g, cap, cur, rfl, hb, hh, hc, hm, hs, ht⟩
  · omega
  · refine ⟨g, cap, rfl, hc, ?_, fun i hi => ?_⟩
    · rcases Nat.lt_or_ge g wr.heap.size with h | h
      · exact h
      · rw [Array.getElem?_eq_none h] at hh; cases hh
    · have e : cur.toList[i]? = some (.int .u32 (os.getD i 0 : Int)) := by
        have e1 : (cur.toList.take (os.length * 1))[i]? = cur.toList[i]? := List.getElem?_take_of_lt (by omega)
        rw [← e1, ht, List.getElem?_map, List.getElem?_eq_getElem hi, List.getD_eq_getElem?_getD, List.getElem?_eq_getElem hi]; rfl
      simp [World.cell?, hh]
      simpa using e

theorem one_cell (w : World) (x : Value) (t : TypeId) : ∀ j u, [x][j]? = some u → (w.alloc (.cells #[x] t)).cell? ((⟨w.heap.size, 0, none⟩ : Addr).add j) = some u := by
  intro j u hj
  match j, hj with
  | 0, hj => simp at hj; subst hj; simp [Addr.add]
theorem one_ok (x : Int) : ∀ u ∈ [Value.int .u32 x], u.oneCell' = true := by
  intro u hu; simp at hu; subst hu; rfl

end Go.Proofs.Ytkbniebahledmab

/-
  Walks of the document's whole numbers: sums, differences, powers of two, of numbers.
-/
namespace Go.Proofs.Ytkbniebahledmab
open Go.RowKit
set_option linter.unusedVariables false

end Go.Proofs.Ytkbniebahledmab

/-
  The walk of the document's product of whole numbers.
-/
namespace Go.Proofs.Ytkbniebahledmab
open Go.RowKit
set_option linter.unusedVariables false

/-- A row that the call itself made, of as many digits as it was made for. -/
def Made (w wr : World) (g n : Nat) (os : List Nat) : Prop :=
  os.length = n ∧ wr.ownsRow w.heap.size 22 1 (.slice (some ⟨g, 0, none⟩) n n) n (os.map fun (d : Nat) => Value.int .u32 (d : Int)) ∧ Below w.heap.size w wr ∧ (∀ d ∈ os, d < 4294967296) ∧ w.heap.size ≤ g
theorem Made.cell {w wr : World} {g n : Nat} {os : List Nat} (h : Made w wr g n os) (j : Nat) (hj : j < n) : wr.cell? ⟨g, j, none⟩ = some (.int .u32 (os.getD j 0)) := by
  have hl := h.1
  rw [h.2.1.cellAt j (by omega), List.getElem?_map, List.getElem?_eq_getElem (by omega), List.getD_eq_getElem?_getD, List.getElem?_eq_getElem (by omega)]; rfl
theorem Made.stored {w wr : World} {g n : Nat} {os : List Nat} (h : Made w wr g n os) (j : Nat) (X : Int) (d : Nat) (hX : X = (d : Int)) (hd : d < 4294967296) :
    Made w (wr.setCell ⟨g, j, none⟩ (.int .u32 X)) g n (os.set j d) := by
  obtain ⟨h1, h2, h3, h4, h5⟩ := h
  subst hX
  refine ⟨by simpa using h1, ?_, h3.setCell h5 _, ?_, h5⟩
  · have := (h2.stored j (.int .u32 (d : Int))).1
    rw [← List.map_set] at this
    exact this
  · intro x hx
    rcases List.mem_or_eq_of_mem_set hx with h | h
    · exact h4 x h
    · omega
theorem Made.drewN {w wr : World} {g n : Nat} {os : List Nat} (h : Made w wr g n os) (k : Nat) : Made w (wr.drewN k) g n os :=
  ⟨h.1, h.2.1, bl_drewN h.2.2.1 k, h.2.2.2.1, h.2.2.2.2⟩
theorem Made.lies {w wr : World} {g n : Nat} {os : List Nat} (h : Made w wr g n os) : Lies wr g 0 os := by
  refine ⟨(h.2.1.lt g rfl).2, fun i hi => ?_⟩
  have := h.cell i (by have := h.1; omega)
  simpa using this

end Go.Proofs.Ytkbniebahledmab

/-
  Walks of the document's amounts, its search for a float, and its rounding.
-/
namespace Go.Proofs.Ytkbniebahledmab
open Go.RowKit
set_option linter.unusedVariables false

theorem Num.cast {w : World} {v : Value} {N N' K : Nat} (h : Num w v N K) (e : N = N') : Num w v N' K := e ▸ h

theorem cmpN_le (N M : Nat) : cmpN N M ≤ 0 ↔ N ≤ M := by unfold cmpN; (repeat' split) <;> omega
theorem cmpN_eq (N M : Nat) : cmpN N M = 0 ↔ N = M := by unfold cmpN; (repeat' split) <;> omega
theorem cmpN_lt (N M : Nat) : cmpN N M < 0 ↔ N < M := by unfold cmpN; (repeat' split) <;> omega

end Go.Proofs.Ytkbniebahledmab

/-
  The walk of the document's rounding.
-/
namespace Go.Proofs.Ytkbniebahledmab
open Go.RowKit
set_option linter.unusedVariables false

end Go.Proofs.Ytkbniebahledmab
