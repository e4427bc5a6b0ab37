import Derived.Test.YtkjlhmojdffooaaGreatChecked
import Derived.WalkKit
import Derived.ProofKit
import Derived.OpenShut
import Derived.Deep.QuietTactic
import Derived.BigQuiet
import Derived.Deep.RegionWith
import Derived.Below
import Derived.Handy
import Derived.RegionTactic
import Derived.ChangeAlike
import Derived.Carry
import Derived.Laws.OwnMore
import Derived.Laws.AppendOwnNone
import Derived.Test.YtkjlhmojdffooaaGreatV01

/-
  Walks of package soft's small functions: what each returns, for every float.
-/
namespace Go.Proofs.YtkjlhmojdffooaaGreat
open Go.RowKit

theorem hide {p : Prop} (h : p) : Hid p := h
theorem unhide {p : Prop} (h : Hid p) : p := h
theorem wf_u32_iff {n : Int} (h : (Lit.int .u32 n).wf = true) : 0 ≤ n ∧ n < 4294967296 := by
  simp [Lit.wf, IntKind.min, IntKind.max, IntKind.signed, IntKind.bits] at h; omega
theorem wf_i64_iff {n : Int} (h : (Lit.int .i64 n).wf = true) : -9223372036854775808 ≤ n ∧ n < 9223372036854775808 := by
  simp [Lit.wf, IntKind.min, IntKind.max, IntKind.signed, IntKind.bits] at h; omega
theorem ret_bool {a b : Bool} (h : a = b) : Ending.returned (.bool a) = .returned (.bool b) := by rw [h]

end Go.Proofs.YtkjlhmojdffooaaGreat

/-
  Walks of package soft's rounding: what Round returns, for every input.
-/
namespace Go.Proofs.YtkjlhmojdffooaaGreat
open Go.RowKit

end Go.Proofs.YtkjlhmojdffooaaGreat

/-
  The walk of package soft's Round, for every input.
-/
namespace Go.Proofs.YtkjlhmojdffooaaGreat
open Go.RowKit

end Go.Proofs.YtkjlhmojdffooaaGreat

/-
  Walks of package soft's sums, products and quotients.
-/
namespace Go.Proofs.YtkjlhmojdffooaaGreat
open Go.RowKit
set_option linter.unusedVariables false

-- SUMS
end Go.Proofs.YtkjlhmojdffooaaGreat

/-
  Walks of package soft's AddBy, MulBy, DivBy and their nearest fellows.
-/
namespace Go.Proofs.YtkjlhmojdffooaaGreat
open Go.RowKit
set_option linter.unusedVariables false

end Go.Proofs.YtkjlhmojdffooaaGreat

/-
  The walk of the statements' common head: the document's rows of examples come out.
-/
namespace Go.Proofs.YtkjlhmojdffooaaGreat
open Go.RowKit
set_option linter.unusedVariables false

theorem bl_tr {w v u : World} (h : Below w.heap.size w v) (k : Below v.heap.size v u) : Below w.heap.size w u := h.trans (k.mono h.size)

end Go.Proofs.YtkjlhmojdffooaaGreat

/-
  Walks of package soft's Min and Max, and of the document's answers to looks and comparisons.
-/
namespace Go.Proofs.YtkjlhmojdffooaaGreat
open Go.RowKit
set_option linter.unusedVariables false

end Go.Proofs.YtkjlhmojdffooaaGreat

/-
  Slices of integers that came in or were made: what lies behind them, how an argument is opened.
-/
namespace Go.Proofs.YtkjlhmojdffooaaGreat
open Go.RowKit
set_option linter.unusedVariables false

/-- A slice's numbers. -/
def Ints (k : IntKind) (w : World) (p : Option Addr) (cap : Nat) (xs : List Int) : Prop :=
  xs.length ≤ cap ∧ cap ≤ 9223372036854775807 ∧ (∀ x ∈ xs, (Lit.int k x).wf = true) ∧
    (0 < xs.length → ∃ b o, p = some ⟨b, o, none⟩ ∧ b < w.heap.size ∧ ∀ i, i < xs.length → w.cell? ⟨b, o + i, none⟩ = some (.int k (xs.getD i 0))) ∧ (p = none → cap = 0)
theorem Ints.lies {k : IntKind} {w : World} {p : Option Addr} {cap : Nat} {xs : List Int} (h : Ints k w p cap xs) (hp : 0 < xs.length) : ∃ b o, p = some ⟨b, o, none⟩ ∧ b < w.heap.size ∧ ∀ i, i < xs.length → w.cell? ⟨b, o + i, none⟩ = some (.int k (xs.getD i 0)) := h.2.2.2.1 hp
theorem Ints.below {k : IntKind} {w w' : World} {p : Option Addr} {cap : Nat} {xs : List Int} (h : Ints k w p cap xs) (hb : Below w.heap.size w w') : Ints k w' p cap xs := by
  obtain ⟨h1, h2, h3, h4, h5⟩ := h
  refine ⟨h1, h2, h3, fun hp => ?_, h5⟩
  obtain ⟨b, o, e, g1, g2⟩ := h4 hp
  exact ⟨b, o, e, Nat.lt_of_lt_of_le g1 hb.size, fun i hi => (hb.cell (p := ⟨b, o + i, none⟩) g1).trans (g2 i hi)⟩
theorem bw_drew {B : Nat} {a w : World} (h : Below B a w) (n : Nat) : Below B a (w.drewN n) := h.trans ⟨rfl, rfl, rfl, Nat.le_refl _, fun _ _ => rfl⟩
theorem Ints.drewN {k : IntKind} {w : World} {p : Option Addr} {cap : Nat} {xs : List Int} (h : Ints k w p cap xs) (n : Nat) : Ints k (w.drewN n) p cap xs := h.below (bw_drew (Below.refl _ _) n)
theorem Ints.len {k : IntKind} {w : World} {p : Option Addr} {cap : Nat} {xs : List Int} (h : Ints k w p cap xs) : xs.length ≤ 9223372036854775807 := Nat.le_trans h.1 h.2.1
theorem Ints.wf {k : IntKind} {w : World} {p : Option Addr} {cap : Nat} {xs : List Int} (h : Ints k w p cap xs) (i : Nat) (hi : i < xs.length) : (Lit.int k (xs.getD i 0)).wf = true := by
  have : xs.getD i 0 = xs[i] := by simp [List.getElem?_eq_getElem hi]
  rw [this]; exact h.2.2.1 _ (List.getElem_mem hi)
theorem Ints.i64 {w : World} {p : Option Addr} {cap : Nat} {xs : List Int} (h : Ints .i64 w p cap xs) (i : Nat) (hi : i < xs.length) : -9223372036854775808 ≤ xs.getD i 0 ∧ xs.getD i 0 < 9223372036854775808 :=
  wf_i64_iff (h.wf i hi)

/-- An argument that is a slice of integers, opened. -/
theorem ints_open {H : Type} {enc : TypeId × Value → H} {P : Program} {W : World} {base : Nat} {t e : TypeId} {k : IntKind} {v : Value} {d : DataW H} {ps : List MemPlace} (ht : P.underlying t = some (.slice e)) (he : P.underlying e = some (.int k)) (hc : P.cellsOf e = 1)
    (hv : Value.okWide P W .any base t v) (h : DataW.Trod enc P W 0 (fun _ => true) true t v d ps) :
    ∃ p cap xs, v = .slice p xs.length cap ∧ Ints k W p cap xs ∧ (d = .nil ∧ cap = 0 ∨ ∃ sp : List Int, d = .slice (Go.ChangeShapes.lits k xs) (Go.ChangeShapes.lits k sp) ∧ xs.length + sp.length = cap) := by
  obtain ⟨a0, len, cap, rfl⟩ := Go.WideShapes.okWide_slice ht hv
  obtain ⟨fuel, hf⟩ := h
  rcases Go.ChangeShapes.open_ints ht he hc hf with ⟨hcs, hx⟩ | ⟨a, len', cap', zs, hcs, _, hle, hmax, hall, hx, hcell, hwf⟩
  · simp [Value.cells] at hcs
    obtain ⟨rfl, rfl, rfl⟩ := hcs
    simp only [Prod.mk.injEq] at hx
    obtain ⟨rfl, rfl⟩ := hx
    exact ⟨none, 0, [], rfl, ⟨Nat.le_refl _, by omega, fun x hx => (by cases hx), fun h => absurd h (by simp), fun _ => rfl⟩, .inl ⟨rfl, rfl⟩⟩
  · simp [Value.cells] at hcs
    obtain ⟨rfl, rfl, rfl⟩ := hcs
    simp only [Prod.mk.injEq] at hx
    obtain ⟨rfl, rfl⟩ := hx
    simp only [if_true] at hall
    have hl : (zs.take len).length = len := by rw [List.length_take]; omega
    refine ⟨some a, cap, zs.take len, by rw [hl], ⟨by omega, hmax, fun x hx => hwf x (List.mem_of_mem_take hx), fun hp => ?_, fun h => by cases h⟩, .inr ⟨zs.drop len, rfl, by rw [hl, List.length_drop]; omega⟩⟩
    obtain ⟨b, off, rfl, hc2⟩ := ints_at hcell (by omega)
    have hb : b < W.heap.size := by
      have := hc2 0 (by omega)
      rcases Nat.lt_or_ge b W.heap.size with g | g
      · exact g
      · exfalso
        have hn : W.heap[b]? = none := by simp [g]
        simp [World.cell?, hn] at this
    refine ⟨b, off, rfl, hb, fun i hi => ?_⟩
    rw [hl] at hi
    rw [hc2 i (by omega)]
    congr 2
    simp [List.getD_eq_getElem?_getD, List.getElem?_take_of_lt hi]
end Go.Proofs.YtkjlhmojdffooaaGreat

/-
  Slices of ints that a call itself makes.
-/
namespace Go.Proofs.YtkjlhmojdffooaaGreat
open Go.RowKit
set_option linter.unusedVariables false

def vals (os : List Int) : List Value := os.map fun d => Value.int .i64 d
theorem vals_append (a b : List Int) : vals (a ++ b) = vals a ++ vals b := by simp [vals]
/-- A row that the call itself builds: its numbers, and nothing else has turned. -/
def OwnI (w wr : World) (v : Value) (os : List Int) : Prop :=
  wr.ownsRow w.heap.size 3 1 v os.length (vals os) ∧ Below w.heap.size w wr ∧ ∀ d ∈ os, (Lit.int .i64 d).wf = true
theorem OwnI.nil (w : World) : OwnI w w (.slice none 0 0) [] := ⟨World.ownsRow_nil _ _ _ _, Below.refl _ _, by simp⟩
/-- What is laid behind it, out of a world that has grown by new blocks. -/
theorem OwnI.more {w wr wq w1 : World} {v v' : Value} {os xs : List Int} {n m : Nat} (h : OwnI w wr v os) (hq : Below wr.heap.size wr wq) (hn : n = os.length) (hm : m = xs.length) (hx : ∀ d ∈ xs, (Lit.int .i64 d).wf = true)
    (hown : w1.ownsRow w.heap.size 3 1 v' (n + m) (vals os ++ vals xs)) (hg : wq.grownBy w1 v.ownBlock) : OwnI w w1 v' (os ++ xs) := by
  obtain ⟨h1, h2, h3⟩ := h
  subst hn hm
  refine ⟨?_, ?_, ?_⟩
  · rw [List.length_append, vals_append]; exact hown
  · refine (bl_tr h2 hq).grown hg (Nat.le_trans h2.size hq.size) ?_
    intro k hk
    exact (h1.lt k hk).1
  · intro x hx2
    rcases List.mem_append.1 hx2 with k | k
    · exact h3 x k
    · exact hx x k
/-- What is built may be read. -/
theorem OwnI.form {w wr : World} {v : Value} {os : List Int} (h : OwnI w wr v os) : ∃ p cap, v = .slice p os.length cap ∧ Ints .i64 wr p cap os := by
  obtain ⟨⟨_, h1⟩, h2, h3⟩ := h
  rcases h1 with ⟨rfl, h0⟩ | ⟨g, cap, cur, rfl, hb, hh, hc, hm, hs, ht⟩
  · exact ⟨none, 0, by rw [h0], ⟨by omega, by omega, h3, fun hp => by omega, fun _ => rfl⟩⟩
  · refine ⟨some ⟨g, 0, none⟩, cap, rfl, ⟨hc, hm, h3, fun hp => ⟨g, 0, rfl, ?_, fun i hi => ?_⟩, fun h => by cases h⟩⟩
    · rcases Nat.lt_or_ge g wr.heap.size with h | h
      · exact h
      · rw [Array.getElem?_eq_none h] at hh; cases hh
    · have e : cur.toList[i]? = some (.int .i64 (os.getD i 0)) := by
        have e1 : (cur.toList.take (os.length * 1))[i]? = cur.toList[i]? := List.getElem?_take_of_lt (by omega)
        rw [← e1, ht, vals, List.getElem?_map, List.getElem?_eq_getElem hi, List.getD_eq_getElem?_getD, List.getElem?_eq_getElem hi]; rfl
      simp [World.cell?, hh]
      simpa using e
theorem OwnI.below {w wr w' : World} {v : Value} {os : List Int} (h : OwnI w wr v os) (hb : Below wr.heap.size wr w') : OwnI w w' v os := by
  obtain ⟨⟨l1, h1⟩, h2, h3⟩ := h
  refine ⟨⟨l1, ?_⟩, bl_tr h2 hb, h3⟩
  rcases h1 with ⟨rfl, h0⟩ | ⟨g, cap, cur, rfl, hb1, hh, hc, hm, hs, ht⟩
  · exact .inl ⟨rfl, h0⟩
  · refine .inr ⟨g, cap, cur, rfl, hb1, ?_, hc, hm, hs, ht⟩
    rw [hb.block g ?_]; exact hh
    rcases Nat.lt_or_ge g wr.heap.size with h | h
    · exact h
    · rw [Array.getElem?_eq_none h] at hh; cases hh
end Go.Proofs.YtkjlhmojdffooaaGreat

/-
  Slices of whatever elements of one cell: what lies behind them, whose they are, how they grow.
-/
namespace Go.Proofs.YtkjlhmojdffooaaGreat
open Go.RowKit
set_option linter.unusedVariables false

/-- What lies behind a slice: f makes an element's cell. -/
def Ls {α : Type} [Inhabited α] (f : α → Value) (w : World) (p : Option Addr) (cap : Nat) (xs : List α) : Prop :=
  xs.length ≤ cap ∧ cap ≤ 9223372036854775807 ∧ (0 < xs.length → ∃ b o, p = some ⟨b, o, none⟩ ∧ b < w.heap.size ∧ ∀ i, i < xs.length → w.cell? ⟨b, o + i, none⟩ = some (f (xs.getD i default))) ∧ (p = none → cap = 0)
theorem Ls.len {α : Type} [Inhabited α] {f : α → Value} {w : World} {p : Option Addr} {cap : Nat} {xs : List α} (h : Ls f w p cap xs) : xs.length ≤ 9223372036854775807 := Nat.le_trans h.1 h.2.1
theorem Ls.lies {α : Type} [Inhabited α] {f : α → Value} {w : World} {p : Option Addr} {cap : Nat} {xs : List α} (h : Ls f w p cap xs) (hp : 0 < xs.length) : ∃ b o, p = some ⟨b, o, none⟩ ∧ b < w.heap.size ∧ ∀ i, i < xs.length → w.cell? ⟨b, o + i, none⟩ = some (f (xs.getD i default)) := h.2.2.1 hp
theorem Ls.below {α : Type} [Inhabited α] {f : α → Value} {w w' : World} {p : Option Addr} {cap : Nat} {xs : List α} (h : Ls f w p cap xs) (hb : Below w.heap.size w w') : Ls f w' p cap xs := by
  obtain ⟨h1, h2, h4, h5⟩ := h
  refine ⟨h1, h2, fun hp => ?_, h5⟩
  obtain ⟨b, o, e, g1, g2⟩ := h4 hp
  exact ⟨b, o, e, Nat.lt_of_lt_of_le g1 hb.size, fun i hi => (hb.cell (p := ⟨b, o + i, none⟩) g1).trans (g2 i hi)⟩
theorem Ls.nil {α : Type} [Inhabited α] {f : α → Value} (w : World) : Ls f w none 0 [] := ⟨by simp, by omega, by simp, fun _ => rfl⟩
/-- A row that the call itself builds. -/
def OwnG {α : Type} (t : TypeId) (f : α → Value) (w wr : World) (v : Value) (os : List α) : Prop :=
  wr.ownsRow w.heap.size t 1 v os.length (os.map f) ∧ Below w.heap.size w wr
theorem OwnG.nil {α : Type} {f : α → Value} (t : TypeId) (w wr : World) (h : Below w.heap.size w wr) : OwnG t f w wr (.slice none 0 0) [] := ⟨World.ownsRow_nil _ _ _ _, h⟩
theorem OwnG.below {α : Type} {f : α → Value} {t : TypeId} {w wr w' : World} {v : Value} {os : List α} (h : OwnG t f w wr v os) (hb : Below wr.heap.size wr w') : OwnG t f w w' v os := by
  obtain ⟨⟨l1, h1⟩, h2⟩ := h
  refine ⟨⟨l1, ?_⟩, bl_tr h2 hb⟩
  rcases h1 with ⟨rfl, h0⟩ | ⟨g, cap, cur, rfl, hb1, hh, hc, hm, hs, ht⟩
  · exact .inl ⟨rfl, h0⟩
  · refine .inr ⟨g, cap, cur, rfl, hb1, ?_, hc, hm, hs, ht⟩
    rw [hb.block g ?_]; exact hh
    rcases Nat.lt_or_ge g wr.heap.size with h | h
    · exact h
    · rw [Array.getElem?_eq_none h] at hh; cases hh
/-- Whose it is: new since B, and it may be written. -/
def Fresh (B : Nat) (w : World) (p : Option Addr) (n : Nat) : Prop := ∀ b o, p = some ⟨b, o, none⟩ → 0 < n → B ≤ b ∧ ∀ i, i < n → w.frozen? ⟨b, o + i, none⟩ = false
theorem Fresh.below {α : Type} [Inhabited α] {f : α → Value} {B : Nat} {w w' : World} {p : Option Addr} {n cap : Nat} {xs : List α} (h : Fresh B w p n) (hl : Ls f w p cap xs) (hn : n = xs.length) (hb : Below w.heap.size w w') : Fresh B w' p n := by
  intro b o e hp
  obtain ⟨h1, h2⟩ := h b o e hp
  obtain ⟨b', o', e', g1, _⟩ := hl.lies (by omega)
  rw [e] at e'
  simp only [Option.some.injEq, Addr.mk.injEq] at e'
  obtain ⟨rfl, rfl, _⟩ := e'
  exact ⟨h1, fun i hi => (hb.frozen (p := ⟨b, o + i, none⟩) g1).trans (h2 i hi)⟩
theorem Fresh.nil (B : Nat) (w : World) : Fresh B w none 0 := fun b o e => by cases e
theorem Fresh.mono {B C : Nat} {w : World} {p : Option Addr} {n : Nat} (h : Fresh B w p n) (hc : C ≤ B) : Fresh C w p n := fun b o e hp => ⟨Nat.le_trans hc (h b o e hp).1, (h b o e hp).2⟩
/-- What is built may be read, and is the call's own. -/
theorem OwnG.form {α : Type} [Inhabited α] {f : α → Value} {t : TypeId} {w wr : World} {v : Value} {os : List α} (h : OwnG t f w wr v os) : ∃ p cap, v = .slice p os.length cap ∧ Ls f wr p cap os ∧ Fresh w.heap.size wr p os.length := by
  obtain ⟨⟨l1, h1⟩, h2⟩ := h
  have h0 : wr.ownsRow w.heap.size t 1 v os.length (os.map f) := ⟨l1, h1⟩
  rcases h1 with ⟨rfl, hn⟩ | ⟨g, cap, cur, rfl, hb, hh, hc, hm, hs, ht⟩
  · exact ⟨none, 0, by rw [hn], ⟨by omega, by omega, fun hp => by omega, fun _ => rfl⟩, fun b o e => by cases e⟩
  · refine ⟨some ⟨g, 0, none⟩, cap, rfl, ⟨hc, hm, fun hp => ⟨g, 0, rfl, (h0.lt g rfl).2, fun i hi => ?_⟩, fun h => by cases h⟩, fun b o e hp => ?_⟩
    · have e : cur.toList[i]? = some (f (os.getD i default)) := by
        have e1 : (cur.toList.take (os.length * 1))[i]? = cur.toList[i]? := List.getElem?_take_of_lt (by omega)
        rw [← e1, ht, List.getElem?_map, List.getElem?_eq_getElem hi, List.getD_eq_getElem?_getD, List.getElem?_eq_getElem hi]; rfl
      simp [World.cell?, hh]
      simpa using e
    · simp only [Option.some.injEq, Addr.mk.injEq] at e
      obtain ⟨rfl, rfl, _⟩ := e
      exact ⟨hb, fun i _ => h0.frozenAt (0 + i)⟩
theorem lsMap_cells {α : Type} [Inhabited α] {f : α → Value} {w : World} {b o : Nat} {xs : List α} (h : ∀ i, i < xs.length → w.cell? ⟨b, o + i, none⟩ = some (f (xs.getD i default))) :
    ∀ j u, (xs.map f)[j]? = some u → w.cell? ((⟨b, o, none⟩ : Addr).add j) = some u := by
  intro j u hj
  have hlt : j < xs.length := by
    have := (List.getElem?_eq_some_iff.1 hj).1
    simpa using this
  rw [Go.WideShapes.add_plain, h j hlt]
  rw [List.getElem?_map, List.getElem?_eq_getElem hlt] at hj
  rw [List.getD_eq_getElem?_getD, List.getElem?_eq_getElem hlt]
  simpa using hj
/-- 'append(own, xs...)', xs whatever it is, nil too. -/
theorem wpList_append_ls {α : Type} [Inhabited α] {f : α → Value} {P : Program} {w : World} {ops : Array Oper} {rest : List Oper} {o : Oper} {a : Act} {Q : Exit → Act → World → Prop} (hgd : o.guard = none) (s x : Operand) (t : TypeId)
    (ho : o.op = .call { callee := .builtin .append, args := #[s, x], argTypes := #[t, t] })
    (w0 : World) (e : TypeId) (i : TypeInfo) (z : Value) (bytes : Nat) (ht : P.underlying t = some (.slice e)) (hi : P.info? e = some i) (hz : i.zero = some z)
    (hsize : i.size = 1) (hby : i.bytes = bytes) (hzs : z.cells.size = 1) (hf : ∀ y, (f y).oneCell' = true)
    (v : Value) (os : List α) (hs : a.eval s = v) (hown : OwnG e f w0 w v os)
    (p : Option Addr) (c : Nat) (xs : List α) (hx : a.eval x = .slice p xs.length c) (hl : Ls f w p c xs)
    (h63 : os.length + xs.length ≤ maxLen) (hbytes : (os.length + xs.length) * bytes ≤ 140737488355328)
    (h : ∀ v' w', OwnG e f w0 w' v' (os ++ xs) → wpList P ops Q rest (a.put o.dst v') w') : wpList P ops Q (o :: rest) a w := by
  cases p with
  | none =>
    have hx0 : xs = [] := by
      rcases Nat.eq_zero_or_pos xs.length with g | g
      · exact List.eq_nil_of_length_eq_zero g
      · obtain ⟨b, o, e, _⟩ := hl.lies g; cases e
    subst hx0
    have hc0 : c = 0 := hl.2.2.2 rfl
    subst hc0
    refine wpList_append_own_none hgd s x t ho w0.heap.size e i 1 ht hi v _ _ hs hown.1 hx (h v w ?_)
    rw [List.append_nil]; exact hown
  | some ad =>
    have hcells : ∀ j u, (xs.map f)[j]? = some u → w.cell? (ad.add j) = some u := by
      rcases Nat.eq_zero_or_pos xs.length with g | g
      · have : xs = [] := List.eq_nil_of_length_eq_zero g
        subst this
        intro j u hj; simp at hj
      · obtain ⟨b, o, e, hb, hc⟩ := hl.lies g
        simp only [Option.some.injEq] at e
        subst e; exact lsMap_cells hc
    refine wpList_append_own w hgd s x t ho w0.heap.size e i z 1 bytes ht hi hz hsize hby hzs (by decide) v os.length (os.map f) hs hown.1 ad xs.length c (xs.map f) hx (by simp) hcells ?_ h63 hbytes hown.2.size ?_
    · intro u hu
      obtain ⟨y, _, rfl⟩ := List.mem_map.1 hu
      exact hf y
    · intro v' w' h1 h2 _
      refine h v' w' ⟨by rw [List.length_append, List.map_append]; exact h1, ?_⟩
      exact hown.2.grown h2 hown.2.size (fun k hk => (hown.1.lt k hk).1)
/-- A row that 'make' has just laid. -/
theorem OwnG.made {α : Type} {f : α → Value} {t : TypeId} {z : α} {w wq w1 : World} {n : Nat} (h0 : Below w.heap.size w wq) (hz : (f z).cells = #[f z]) (hown : w1.ownsRow wq.heap.size t 1 (.slice (some ⟨wq.heap.size, 0, none⟩) n n) n (madeCells (f z).cells (n * 1)).toList) (hg : wq.grownBy w1 none) :
    OwnG t f w w1 (.slice (some ⟨wq.heap.size, 0, none⟩) n n) (List.replicate n z) := by
  have e : (madeCells (f z).cells (n * 1)).toList = (List.replicate n z).map f := by
    rw [Nat.mul_one, hz, toList_madeCells_one, List.map_replicate]
  refine ⟨?_, h0.grown hg h0.size (fun k hk => by cases hk)⟩
  rw [List.length_replicate, ← e]
  obtain ⟨a, b⟩ := hown
  refine ⟨a, ?_⟩
  rcases b with ⟨b1, b2⟩ | ⟨g, cap, cur, b1, b2, b3⟩
  · exact .inl ⟨b1, b2⟩
  · exact .inr ⟨g, cap, cur, b1, Nat.le_trans h0.size b2, b3⟩
/-- All blocks stay but those from lo on and ahead of hi. -/
def Mid (lo hi : Nat) (w w' : World) : Prop := w.heap.size ≤ w'.heap.size ∧ ∀ k, k < w.heap.size → (k < lo ∨ hi ≤ k) → w'.heap[k]? = w.heap[k]?
theorem Mid.refl (lo hi : Nat) (w : World) : Mid lo hi w w := ⟨Nat.le_refl _, fun _ _ _ => rfl⟩
theorem Mid.trans {lo hi : Nat} {a b c : World} (h : Mid lo hi a b) (k : Mid lo hi b c) : Mid lo hi a c :=
  ⟨Nat.le_trans h.1 k.1, fun i hi1 hi2 => (k.2 i (Nat.lt_of_lt_of_le hi1 h.1) hi2).trans (h.2 i hi1 hi2)⟩
theorem Mid.setCell {lo hi : Nat} {a w : World} (h : Mid lo hi a w) {q : Addr} (h1 : lo ≤ q.block) (h2 : q.block < hi) (u : Value) : Mid lo hi a (w.setCell q u) :=
  h.trans ⟨by simp [World.setCell], fun k hk hh => Below.heap_setCell _ _ _ _ (by omega)⟩
theorem Mid.below {lo hi : Nat} {a w w' : World} (h : Mid lo hi a w) (hb : Below w.heap.size w w') : Mid lo hi a w' :=
  h.trans ⟨hb.size, fun k hk _ => hb.block k hk⟩
theorem Ints.ls {k : IntKind} {w : World} {p : Option Addr} {cap : Nat} {xs : List Int} (h : Ints k w p cap xs) : Ls (Value.int k) w p cap xs := ⟨h.1, h.2.1, h.2.2.2.1, h.2.2.2.2⟩
theorem Ls.ints {k : IntKind} {w : World} {p : Option Addr} {cap : Nat} {xs : List Int} (h : Ls (Value.int k) w p cap xs) (hw : ∀ x ∈ xs, (Lit.int k x).wf = true) : Ints k w p cap xs := ⟨h.1, h.2.1, hw, h.2.2.1, h.2.2.2⟩
/-- A block of cells: a struct's box. -/
def Box (w : World) (g : Nat) (cs : Array Value) (t : TypeId) : Prop := w.heap[g]? = some (.cells cs t (0, 0))
theorem Box.cell {w : World} {g : Nat} {cs : Array Value} {t : TypeId} (h : Box w g cs t) (j : Nat) : w.cell? ⟨g, j, none⟩ = cs[j]? := by
  unfold Box at h
  simp [World.cell?, h]
theorem Box.frozen {w : World} {g : Nat} {cs : Array Value} {t : TypeId} (h : Box w g cs t) (j : Nat) : w.frozen? ⟨g, j, none⟩ = false := by
  unfold Box at h
  simp [World.frozen?, h]
theorem Box.lt {w : World} {g : Nat} {cs : Array Value} {t : TypeId} (h : Box w g cs t) : g < w.heap.size := by
  unfold Box at h
  rcases Nat.lt_or_ge g w.heap.size with k | k
  · exact k
  · rw [Array.getElem?_eq_none k] at h; cases h
theorem Box.below {w w' : World} {g : Nat} {cs : Array Value} {t : TypeId} (h : Box w g cs t) (hb : Below w.heap.size w w') : Box w' g cs t := (hb.block g h.lt).trans h
theorem Box.same {w : World} {g : Nat} {cs : Array Value} {t : TypeId} (h : Box w g cs t) (j : Nat) (v : Value) : Box (w.setCell ⟨g, j, none⟩ v) g (cs.setIfInBounds j v) t := by
  have hl := h.lt
  unfold Box at *
  simp only [World.setCell, Array.getElem?_modify, h]
  simp
theorem Box.other {w : World} {g : Nat} {cs : Array Value} {t : TypeId} (h : Box w g cs t) {k : Nat} (hne : g ≠ k) (j : Nat) (v : Value) : Box (w.setCell ⟨k, j, none⟩ v) g cs t :=
  (Below.heap_setCell w ⟨k, j, none⟩ v g hne).trans h
theorem Box.new (w : World) (cs : Array Value) (t : TypeId) : Box (w.alloc (.cells cs t)) w.heap.size cs t := by
  show (w.heap.push (Obj.cells cs t))[w.heap.size]? = _
  simp
theorem Box.alloc {w : World} {g : Nat} {cs : Array Value} {t : TypeId} (h : Box w g cs t) (o : Obj) : Box (w.alloc o) g cs t := (Below.heap_alloc w o g h.lt).trans h
theorem int_one (k : IntKind) (x : Int) : (Value.int k x).oneCell' = true := rfl
theorem bool_one (x : Bool) : (Value.bool x).oneCell' = true := rfl
end Go.Proofs.YtkjlhmojdffooaaGreat

/-
  Layer 6: varints, bytes and fields as plain data.
-/
namespace Go.Proofs.YtkjlhmojdffooaaGreat
open Go.RowKit
set_option linter.unusedVariables false

/-- A number's shortest form, so many bytes more at most. -/
def varF : Nat → Int → List Int
  | 0, x => [x]
  | n + 1, x => if x < 128 then [x] else (x % 128 + 128) :: varF n (x / 128)
def varV (x : Int) : List Int := varF 9 x
theorem varF_big (n : Nat) {x : Int} (h : ¬ x < 128) : varF (n + 1) x = (x % 128 + 128) :: varF n (x / 128) := by rw [varF, if_neg h]
theorem varF_more : ∀ (n : Nat) (x : Int), 0 ≤ x → x < 128 ^ (n + 1) → varF (n + 1) x = varF n x
  | 0, x, h0, h1 => by
    have : x < 128 := by simpa using h1
    simp [varF, this]
  | n + 1, x, h0, h1 => by
    by_cases h : x < 128
    · simp [varF, h]
    · rw [varF_big (n + 1) h, varF_big n h, varF_more n (x / 128) (by omega) (by rw [Int.pow_succ] at h1; omega)]
theorem pow128_9 : (128 : Int) ^ 9 = 9223372036854775808 := by decide
theorem varV_small {x : Int} (h : x < 128) : varV x = [x] := by unfold varV varF; rw [if_pos h]
theorem varV_step {x : Int} (h0 : ¬ x < 128) (h1 : x < 18446744073709551616) : varV x = (x % 128 + 128) :: varV (x / 128) := by
  unfold varV
  rw [varF, if_neg h0, ← varF_more 8 (x / 128) (by omega) (by rw [pow128_9]; omega)]
theorem varF_range : ∀ (n : Nat) (x : Int), 0 ≤ x → x < 128 ^ (n + 1) → ∀ c ∈ varF n x, 0 ≤ c ∧ c < 256
  | 0, x, h0, h1, c, hc => by
    simp [varF] at hc
    subst hc
    have : c < 128 := by simpa using h1
    omega
  | n + 1, x, h0, h1, c, hc => by
    rw [varF] at hc
    by_cases h : x < 128
    · rw [if_pos h] at hc; simp at hc; subst hc; omega
    · rw [if_neg h] at hc
      rcases List.mem_cons.1 hc with e | e
      · omega
      · exact varF_range n (x / 128) (by omega) (by rw [Int.pow_succ] at h1; omega) c e
theorem varV_range {x : Int} (h0 : 0 ≤ x) (h1 : x < 18446744073709551616) : ∀ c ∈ varV x, 0 ≤ c ∧ c < 256 := by
  have := varF_range 9 x h0 (by have : (128 : Int) ^ 10 = 1180591620717411303424 := by decide
                                omega)
  exact this
theorem varF_len : ∀ (n : Nat) (x : Int), 1 ≤ (varF n x).length ∧ (varF n x).length ≤ n + 1
  | 0, x => by simp [varF]
  | n + 1, x => by
    rw [varF]
    split
    · simp
    · have := varF_len n (x / 128)
      simp; omega
theorem varV_len (x : Int) : 1 ≤ (varV x).length ∧ (varV x).length ≤ 10 := varF_len 9 x

/-- The varint at a list's head: its number, and how many bytes; so many bytes more may come. -/
def rdG : Nat → List Int → Option (Int × Nat)
  | 0, _ => none
  | _ + 1, [] => none
  | k + 1, c :: r => if k = 0 ∧ 1 < c then none else if c < 128 then some (c % 128, 1) else (rdG k r).map fun y => (c % 128 + 128 * y.1, y.2 + 1)
/-- ReadVarint: number, place, error. -/
def rdN (b : List Int) (p : Nat) : Option (Int × Nat) := (rdG 10 (b.drop p)).map fun y => (y.1, p + y.2)
def rdV (b : List Int) (p : Int) : Int × Int × Int :=
  if p < 0 ∨ (b.length : Int) < p then (0, 0, 2) else match rdN b p.toNat with
    | none => (0, 0, 6)
    | some y => (y.1, (y.2 : Int), 0)
theorem rdG_count : ∀ (k : Nat) (r : List Int) (x : Int) (n : Nat), rdG k r = some (x, n) → 1 ≤ n ∧ n ≤ k ∧ n ≤ r.length
  | 0, _, _, _, h => by cases h
  | k + 1, [], _, _, h => by cases h
  | k + 1, c :: r, x, n, h => by
    rw [rdG] at h
    split at h
    · cases h
    · split at h
      · simp at h; simp; omega
      · cases hh : rdG k r with
        | none => rw [hh] at h; cases h
        | some y =>
          rw [hh] at h
          have := rdG_count k r y.1 y.2 hh
          simp at h
          simp; omega
theorem rdG_range : ∀ (k : Nat) (r : List Int) (x : Int) (n : Nat), k ≤ 10 → (∀ c ∈ r, 0 ≤ c ∧ c < 256) → rdG k r = some (x, n) → 0 ≤ x ∧ (1 ≤ k → x < 2 * 128 ^ (k - 1))
  | 0, _, _, _, _, _, h => by cases h
  | k + 1, [], _, _, _, _, h => by cases h
  | k + 1, c :: r, x, n, hk, hr, h => by
    rw [rdG] at h
    obtain ⟨c0, c1⟩ := hr c (by simp)
    split at h
    · cases h
    · rename_i hn
      split at h
      · simp at h
        obtain ⟨rfl, _⟩ := h
        refine ⟨by omega, fun _ => ?_⟩
        rcases Nat.eq_zero_or_pos k with e | e
        · subst e; simp at hn ⊢; omega
        · have : (128 : Int) ^ 1 ≤ 128 ^ k := by
            have := Nat.pow_le_pow_right (show 0 < 128 by decide) e
            have h2 : ((128 ^ 1 : Nat) : Int) ≤ ((128 ^ k : Nat) : Int) := Int.ofNat_le.2 this
            simpa using h2
          show c % 128 < 2 * 128 ^ k
          omega
      · rename_i hc
        cases hh : rdG k r with
        | none => rw [hh] at h; cases h
        | some y =>
          rw [hh] at h
          have hk0 : 1 ≤ k := by
            rcases Nat.eq_zero_or_pos k with e | e
            · subst e; cases hh
            · exact e
          obtain ⟨i0, i1⟩ := rdG_range k r y.1 y.2 (by omega) (fun c hc => hr c (by simp [hc])) hh
          have i1 := i1 hk0
          simp at h
          obtain ⟨rfl, _⟩ := h
          obtain ⟨j, rfl⟩ : ∃ j, k = j + 1 := ⟨k - 1, by omega⟩
          refine ⟨by omega, fun _ => ?_⟩
          show c % 128 + 128 * y.1 < 2 * 128 ^ (j + 1)
          have i1' : y.1 < 2 * 128 ^ j := i1
          rw [Int.pow_succ]
          generalize (128 : Int) ^ j = P at i1' ⊢
          omega
theorem rdG10_range {r : List Int} {x : Int} {n : Nat} (hr : ∀ c ∈ r, 0 ≤ c ∧ c < 256) (h : rdG 10 r = some (x, n)) : 0 ≤ x ∧ x < 18446744073709551616 := by
  obtain ⟨h0, h1⟩ := rdG_range 10 r x n (by omega) hr h
  have h2 := h1 (by omega)
  have : (2 : Int) * 128 ^ (10 - 1) = 18446744073709551616 := by decide
  omega
/-- The shortest form is the shortest. -/
theorem varF_least : ∀ (k : Nat) (r : List Int) (x : Int) (n : Nat), (∀ c ∈ r, 0 ≤ c ∧ c < 256) → rdG (k + 1) r = some (x, n) → (varF k x).length ≤ n
  | 0, r, x, n, hr, h => by
    have := (rdG_count 1 r x n h).1
    simp [varF]; omega
  | k + 1, [], x, n, hr, h => by cases h
  | k + 1, c :: r, x, n, hr, h => by
    rw [rdG] at h
    obtain ⟨c0, c1⟩ := hr c (by simp)
    split at h
    · cases h
    · split at h
      · simp at h
        obtain ⟨rfl, rfl⟩ := h
        rw [varF, if_pos (by omega)]
        simp
      · cases hh : rdG (k + 1) r with
        | none => rw [hh] at h; cases h
        | some y =>
          rw [hh] at h
          have ih := varF_least k r y.1 y.2 (fun c hc => hr c (by simp [hc])) hh
          simp at h
          obtain ⟨rfl, rfl⟩ := h
          rw [varF]
          split
          · simp
          · have e : (c % 128 + 128 * y.1) / 128 = y.1 := by omega
            rw [e]
            simp; omega
theorem varV_least {r : List Int} {x : Int} {n : Nat} (hr : ∀ c ∈ r, 0 ≤ c ∧ c < 256) (h : rdG 10 r = some (x, n)) : (varV x).length ≤ n := varF_least 9 r x n hr h
end Go.Proofs.YtkjlhmojdffooaaGreat

/-
  Layer 6: messages as plain data: what is written is read.
-/
namespace Go.Proofs.YtkjlhmojdffooaaGreat
open Go.RowKit
set_option linter.unusedVariables false

/-- Number, wire, X, data. -/
abbrev Fld := Int × Int × Int × List Int
def isB (r : List Int) : Prop := ∀ c ∈ r, 0 ≤ c ∧ c < 256
theorem isB_drop {r : List Int} (h : isB r) (n : Nat) : isB (r.drop n) := fun c hc => h c (List.mem_of_mem_drop hc)
theorem isB_take {r : List Int} (h : isB r) (n : Nat) : isB (r.take n) := fun c hc => h c (List.mem_of_mem_take hc)
theorem isB_append {r s : List Int} (h : isB r) (k : isB s) : isB (r ++ s) := fun c hc => by
  rcases List.mem_append.1 hc with e | e
  · exact h c e
  · exact k c e
/-- Bytes, the least one first. -/
def leV : List Int → Int
  | [] => 0
  | c :: r => c + 256 * leV r
theorem leV_range : ∀ l : List Int, isB l → 0 ≤ leV l ∧ leV l < 256 ^ l.length
  | [], _ => by simp [leV]
  | x :: l, h => by
    obtain ⟨h0, h1⟩ := leV_range l (fun c hc => h c (by simp [hc]))
    obtain ⟨c0, c1⟩ := h x (by simp)
    simp only [leV, List.length_cons, Int.pow_succ]
    generalize (256 : Int) ^ l.length = P at *
    omega
/-- A number as so many bytes. -/
def fxL (X : Int) : Nat → List Int
  | 0 => []
  | k + 1 => fxL X k ++ [X / 256 ^ k % 256]
theorem fxL_length (X : Int) : ∀ k, (fxL X k).length = k
  | 0 => rfl
  | k + 1 => by simp [fxL, fxL_length X k]
theorem fxL_isB (X : Int) : ∀ k, isB (fxL X k)
  | 0 => fun c hc => by cases hc
  | k + 1 => isB_append (fxL_isB X k) (fun c hc => by simp at hc; subst hc; omega)
/-- The field at a list's head, and how many bytes. -/
def oneL (r : List Int) : Option (Fld × Nat) :=
  match rdG 10 r with
  | none => none
  | some t =>
    if t.1 / 8 < 1 ∨ 536870911 < t.1 / 8 then none
    else if t.1 % 8 = 0 then (rdG 10 (r.drop t.2)).map fun y => ((t.1 / 8, 0, y.1, []), t.2 + y.2)
    else if t.1 % 8 = 1 then (if r.length < t.2 + 8 then none else some ((t.1 / 8, 1, leV ((r.drop t.2).take 8), []), t.2 + 8))
    else if t.1 % 8 = 5 then (if r.length < t.2 + 4 then none else some ((t.1 / 8, 5, leV ((r.drop t.2).take 4), []), t.2 + 4))
    else if t.1 % 8 = 2 then (match rdG 10 (r.drop t.2) with
      | none => none
      | some y => if (r.length : Int) < (t.2 + y.2 : Nat) + y.1 then none else some ((t.1 / 8, 2, 0, (r.drop (t.2 + y.2)).take y.1.toNat), t.2 + y.2 + y.1.toNat))
    else none
def mayF (f : Fld) : Prop := 1 ≤ f.1 ∧ f.1 ≤ 536870911 ∧ ((f.2.1 = 0 ∨ f.2.1 = 1) ∧ f.2.2.2 = [] ∨ f.2.1 = 5 ∧ f.2.2.2 = [] ∧ f.2.2.1 < 4294967296 ∨ f.2.1 = 2 ∧ f.2.2.1 = 0)
/-- X is a number of 64 bits, Data is bytes. -/
def okF (f : Fld) : Prop := 0 ≤ f.2.2.1 ∧ f.2.2.1 < 18446744073709551616 ∧ isB f.2.2.2
def bodyB (f : Fld) : List Int := if f.2.1 = 0 then varV f.2.2.1 else if f.2.1 = 1 then fxL f.2.2.1 8 else if f.2.1 = 5 then fxL f.2.2.1 4 else varV (f.2.2.2.length : Int) ++ f.2.2.2
def fieldB (f : Fld) : List Int := varV (f.1 * 8 + f.2.1) ++ bodyB f
/-- What is read may be written, in no more bytes. -/
theorem oneL_may {r : List Int} {f : Fld} {k : Nat} (hr : isB r) (h : oneL r = some (f, k)) : mayF f ∧ okF f ∧ (fieldB f).length ≤ k ∧ 1 ≤ k ∧ k ≤ r.length := by
  unfold oneL at h
  cases ht : rdG 10 r with
  | none => rw [ht] at h; cases h
  | some t =>
    obtain ⟨tag, p⟩ := t
    rw [ht] at h
    simp only at h
    obtain ⟨c1, c2, c3⟩ := rdG_count 10 r tag p ht
    obtain ⟨t0, t1⟩ := rdG10_range hr ht
    have tl := varV_least hr ht
    by_cases hb : tag / 8 < 1 ∨ 536870911 < tag / 8
    · rw [if_pos hb] at h; cases h
    · rw [if_neg hb] at h
      by_cases h0 : tag % 8 = 0
      · rw [if_pos h0] at h
        cases hy : rdG 10 (r.drop p) with
        | none => rw [hy] at h; cases h
        | some y =>
          obtain ⟨x, q⟩ := y
          rw [hy] at h
          simp at h
          obtain ⟨rfl, rfl⟩ := h
          obtain ⟨q1, q2, q3⟩ := rdG_count 10 _ x q hy
          obtain ⟨x0, x1⟩ := rdG10_range (isB_drop hr p) hy
          have xl := varV_least (isB_drop hr p) hy
          have et : tag / 8 * 8 + 0 = tag := by omega
          simp at q3
          refine ⟨⟨by simp; omega, by simp; omega, .inl ⟨.inl rfl, rfl⟩⟩, ⟨x0, x1, fun c hc => by cases hc⟩, ?_, by omega, by omega⟩
          unfold fieldB bodyB
          simp only [et, if_true, List.length_append]
          omega
      · rw [if_neg h0] at h
        by_cases h1 : tag % 8 = 1
        · rw [if_pos h1] at h
          by_cases hl : r.length < p + 8
          · rw [if_pos hl] at h; cases h
          · rw [if_neg hl] at h
            simp at h
            obtain ⟨rfl, rfl⟩ := h
            have hv := leV_range ((r.drop p).take 8) (isB_take (isB_drop hr p) 8)
            have hln : ((r.drop p).take 8).length = 8 := by simp; omega
            rw [hln, show (256 : Int) ^ 8 = 18446744073709551616 by decide] at hv
            have et : tag / 8 * 8 + 1 = tag := by omega
            refine ⟨⟨by simp; omega, by simp; omega, .inl ⟨.inr rfl, rfl⟩⟩, ⟨hv.1, hv.2, fun c hc => by cases hc⟩, ?_, by omega, by omega⟩
            unfold fieldB bodyB
            simp only [et, List.length_append]
            rw [if_neg (by decide), if_pos trivial, fxL_length]
            omega
        · rw [if_neg h1] at h
          by_cases h5 : tag % 8 = 5
          · rw [if_pos h5] at h
            by_cases hl : r.length < p + 4
            · rw [if_pos hl] at h; cases h
            · rw [if_neg hl] at h
              simp at h
              obtain ⟨rfl, rfl⟩ := h
              have hv := leV_range ((r.drop p).take 4) (isB_take (isB_drop hr p) 4)
              have hln : ((r.drop p).take 4).length = 4 := by simp; omega
              rw [hln, show (256 : Int) ^ 4 = 4294967296 by decide] at hv
              have et : tag / 8 * 8 + 5 = tag := by omega
              refine ⟨⟨by simp; omega, by simp; omega, .inr (.inl ⟨rfl, rfl, hv.2⟩)⟩, ⟨hv.1, by simp only; omega, fun c hc => by cases hc⟩, ?_, by omega, by omega⟩
              unfold fieldB bodyB
              simp only [et, List.length_append]
              rw [if_neg (by decide), if_neg (by decide), if_pos trivial, fxL_length]
              omega
          · rw [if_neg h5] at h
            by_cases h2 : tag % 8 = 2
            · rw [if_pos h2] at h
              cases hy : rdG 10 (r.drop p) with
              | none => rw [hy] at h; cases h
              | some y =>
                obtain ⟨x, q⟩ := y
                rw [hy] at h
                simp only at h
                obtain ⟨q1, q2, q3⟩ := rdG_count 10 _ x q hy
                obtain ⟨x0, x1⟩ := rdG10_range (isB_drop hr p) hy
                have xl := varV_least (isB_drop hr p) hy
                simp at q3
                by_cases hl : (r.length : Int) < (p + q : Nat) + x
                · rw [if_pos hl] at h; cases h
                · rw [if_neg hl] at h
                  simp at h
                  obtain ⟨rfl, rfl⟩ := h
                  have hln : ((r.drop (p + q)).take x.toNat).length = x.toNat := by simp; omega
                  have et : tag / 8 * 8 + 2 = tag := by omega
                  refine ⟨⟨by simp; omega, by simp; omega, .inr (.inr ⟨rfl, rfl⟩)⟩, ⟨by simp, by simp, isB_take (isB_drop hr _) _⟩, ?_, by omega, by omega⟩
                  unfold fieldB bodyB
                  simp only [et, List.length_append, hln]
                  rw [if_neg (by decide), if_neg (by decide), if_neg (by decide), List.length_append, hln, show ((x.toNat : Nat) : Int) = x by omega]
                  omega
            · rw [if_neg h2] at h; cases h
/-- The fields of a message, so many at most. -/
def readF : Nat → List Int → Option (List Fld)
  | 0, r => if r.length = 0 then some [] else none
  | n + 1, r => if r.length = 0 then some [] else match oneL r with
    | none => none
    | some y => (readF n (r.drop y.2)).map (y.1 :: ·)
end Go.Proofs.YtkjlhmojdffooaaGreat

/-
  Layer 6: whole messages, and what is picked of them.
-/
namespace Go.Proofs.YtkjlhmojdffooaaGreat
open Go.RowKit
set_option linter.unusedVariables false

theorem oneL_count {r : List Int} {f : Fld} {k : Nat} (h : oneL r = some (f, k)) : 1 ≤ k := by
  unfold oneL at h
  cases ht : rdG 10 r with
  | none => rw [ht] at h; cases h
  | some t =>
    obtain ⟨tag, p⟩ := t
    rw [ht] at h
    simp only at h
    have c1 := (rdG_count 10 r tag p ht).1
    split at h
    · cases h
    · split at h
      · cases hy : rdG 10 (r.drop p) with
        | none => rw [hy] at h; cases h
        | some y => rw [hy] at h; simp at h; omega
      · split at h
        · split at h
          · cases h
          · simp at h; omega
        · split at h
          · split at h
            · cases h
            · simp at h; omega
          · split at h
            · cases hy : rdG 10 (r.drop p) with
              | none => rw [hy] at h; cases h
              | some y =>
                rw [hy] at h
                simp only at h
                split at h
                · cases h
                · simp at h; omega
            · cases h
theorem readF_fuel : ∀ (n m : Nat) (r : List Int), r.length ≤ n → r.length ≤ m → readF n r = readF m r
  | 0, m, r, h1, h2 => by
    have h0 : r.length = 0 := by omega
    cases m with
    | zero => rfl
    | succ m => rw [readF, readF, if_pos h0, if_pos h0]
  | n + 1, m, r, h1, h2 => by
    by_cases h0 : r.length = 0
    · cases m with
      | zero => rw [readF, readF, if_pos h0, if_pos h0]
      | succ m => rw [readF, readF, if_pos h0, if_pos h0]
    · cases m with
      | zero => omega
      | succ m =>
        rw [readF, readF, if_neg h0, if_neg h0]
        cases ho : oneL r with
        | none => rfl
        | some y =>
          have := oneL_count (f := y.1) (k := y.2) ho
          simp only
          rw [readF_fuel n m (r.drop y.2) (by simp; omega) (by simp; omega)]
def readL (r : List Int) : Option (List Fld) := readF r.length r
theorem readL_nil : readL [] = some [] := rfl
theorem readL_step {r : List Int} (h0 : ¬ r.length = 0) : readL r = match oneL r with
    | none => none
    | some y => (readL (r.drop y.2)).map (y.1 :: ·) := by
  unfold readL
  obtain ⟨n, hn⟩ : ∃ n, r.length = n + 1 := ⟨r.length - 1, by omega⟩
  rw [hn, readF, if_neg h0]
  cases ho : oneL r with
  | none => rfl
  | some y =>
    have := oneL_count (f := y.1) (k := y.2) ho
    simp only
    rw [readF_fuel n (r.drop y.2).length (r.drop y.2) (by simp; omega) (Nat.le_refl _)]
/-- Read: fields and error. -/
def readV (b : List Int) : List Fld × Int := if 4194304 < b.length then ([], 8) else match readL b with
  | none => ([], 6)
  | some l => (l, 0)
def mayB (f : Fld) : Bool := decide (1 ≤ f.1) && decide (f.1 ≤ 536870911) && ((f.2.1 == 0 || f.2.1 == 1) && f.2.2.2.isEmpty || f.2.1 == 5 && f.2.2.2.isEmpty && decide (f.2.2.1 < 4294967296) || f.2.1 == 2 && f.2.2.1 == 0)
theorem mayB_iff (f : Fld) : mayB f = true ↔ mayF f := by
  unfold mayB mayF
  simp only [Bool.and_eq_true, Bool.or_eq_true, decide_eq_true_eq, beq_iff_eq, List.isEmpty_iff]
  constructor
  · rintro ⟨⟨h1, h2⟩, (⟨h3, h4⟩ | ⟨⟨h3, h4⟩, h5⟩) | ⟨h3, h4⟩⟩
    · exact ⟨h1, h2, .inl ⟨h3, h4⟩⟩
    · exact ⟨h1, h2, .inr (.inl ⟨h3, h4, h5⟩)⟩
    · exact ⟨h1, h2, .inr (.inr ⟨h3, h4⟩)⟩
  · rintro ⟨h1, h2, ⟨h3, h4⟩ | ⟨h3, h4, h5⟩ | ⟨h3, h4⟩⟩
    · exact ⟨⟨h1, h2⟩, .inl (.inl ⟨h3, h4⟩)⟩
    · exact ⟨⟨h1, h2⟩, .inl (.inr ⟨⟨h3, h4⟩, h5⟩)⟩
    · exact ⟨⟨h1, h2⟩, .inr ⟨h3, h4⟩⟩
def msgB (l : List Fld) : List Int := l.flatMap fieldB
/-- Write: bytes and error. -/
def writeV (l : List Fld) : List Int × Int := if l.all mayB = false then ([], 1) else if 4194304 < (msgB l).length then ([], 8) else (msgB l, 0)
theorem readF_may : ∀ (n : Nat) (r : List Int) (l : List Fld), isB r → readF n r = some l → (∀ f ∈ l, mayF f ∧ okF f) ∧ (msgB l).length ≤ r.length
  | 0, r, l, hr, h => by
    rw [readF] at h
    split at h
    · simp at h; subst h; exact ⟨fun f hf => by simp at hf, by simp [msgB]⟩
    · cases h
  | n + 1, r, l, hr, h => by
    rw [readF] at h
    split at h
    · simp at h; subst h; exact ⟨fun f hf => by simp at hf, by simp [msgB]⟩
    · cases ho : oneL r with
      | none => rw [ho] at h; cases h
      | some y =>
        rw [ho] at h
        simp only at h
        cases hh : readF n (r.drop y.2) with
        | none => rw [hh] at h; cases h
        | some l' =>
          rw [hh] at h
          simp at h
          subst h
          obtain ⟨i1, i2⟩ := readF_may n (r.drop y.2) l' (isB_drop hr _) hh
          obtain ⟨m1, m2, m3, m4, m5⟩ := oneL_may (f := y.1) (k := y.2) hr ho
          refine ⟨fun f hf => ?_, ?_⟩
          · rcases List.mem_cons.1 hf with e | e
            · subst e; exact ⟨m1, m2⟩
            · exact i1 f e
          · have e : msgB (y.1 :: l') = fieldB y.1 ++ msgB l' := by simp [msgB]
            rw [e, List.length_append]
            simp at i2
            omega
def allV (l : List Fld) (num : Int) : List Fld := l.filter (fun f => f.1 == num)
def noFld : Fld := (0, 0, 0, [])
def lastV (l : List Fld) (num wire : Int) : Fld × Bool × Int :=
  if (allV l num).any (fun f => f.2.1 != wire) then (noFld, false, 6) else if (allV l num).length = 0 then (noFld, false, 0) else ((allV l num).getD ((allV l num).length - 1) noFld, true, 0)
def joinV (l : List Fld) (num : Int) : List Int × Bool × Int :=
  if (allV l num).any (fun f => f.2.1 != 2) then ([], false, 6) else ((allV l num).flatMap (fun f => f.2.2.2), decide (0 < (allV l num).length), 0)
/-- The varints that bytes are made up of. -/
def varsF : Nat → List Int → Option (List Int)
  | 0, r => if r.length = 0 then some [] else none
  | n + 1, r => if r.length = 0 then some [] else match rdG 10 r with
    | none => none
    | some y => (varsF n (r.drop y.2)).map (y.1 :: ·)
def varsL (r : List Int) : Option (List Int) := varsF r.length r
theorem varsF_fuel : ∀ (n m : Nat) (r : List Int), r.length ≤ n → r.length ≤ m → varsF n r = varsF m r
  | 0, m, r, h1, h2 => by
    have h0 : r.length = 0 := by omega
    cases m with
    | zero => rfl
    | succ m => rw [varsF, varsF, if_pos h0, if_pos h0]
  | n + 1, m, r, h1, h2 => by
    by_cases h0 : r.length = 0
    · cases m with
      | zero => rw [varsF, varsF, if_pos h0, if_pos h0]
      | succ m => rw [varsF, varsF, if_pos h0, if_pos h0]
    · cases m with
      | zero => omega
      | succ m =>
        rw [varsF, varsF, if_neg h0, if_neg h0]
        cases ho : rdG 10 r with
        | none => rfl
        | some y =>
          have := (rdG_count 10 r y.1 y.2 ho).1
          simp only
          rw [varsF_fuel n m (r.drop y.2) (by simp; omega) (by simp; omega)]
theorem varsL_nil : varsL [] = some [] := rfl
theorem varsL_step {r : List Int} (h0 : ¬ r.length = 0) : varsL r = match rdG 10 r with
    | none => none
    | some y => (varsL (r.drop y.2)).map (y.1 :: ·) := by
  unfold varsL
  obtain ⟨n, hn⟩ : ∃ n, r.length = n + 1 := ⟨r.length - 1, by omega⟩
  rw [hn, varsF, if_neg h0]
  cases ho : rdG 10 r with
  | none => rfl
  | some y =>
    have := (rdG_count 10 r y.1 y.2 ho).1
    simp only
    rw [varsF_fuel n (r.drop y.2).length (r.drop y.2) (by simp; omega) (Nat.le_refl _)]
def int1 (f : Fld) : Option (List Int) := if f.2.1 = 0 then some [f.2.2.1] else if f.2.1 = 2 then varsL f.2.2.2 else none
def fours (d : List Int) : List Int := (List.range (d.length / 4)).map fun i => leV ((d.drop (4 * i)).take 4)
def fix1 (f : Fld) : Option (List Int) := if f.2.1 = 5 then some [f.2.2.1 % 4294967296] else if f.2.1 = 2 ∧ f.2.2.2.length % 4 = 0 then some (fours f.2.2.2) else none
/-- All of them, or none. -/
def allOr (g : Fld → Option (List Int)) : List Fld → Option (List Int)
  | [] => some []
  | f :: l => match g f with
    | none => none
    | some x => (allOr g l).map (x ++ ·)
theorem allOr_append (g : Fld → Option (List Int)) : ∀ (l m : List Fld), allOr g (l ++ m) = match allOr g l with
    | none => none
    | some x => (allOr g m).map (x ++ ·)
  | [], m => by
    simp only [List.nil_append, allOr]
    cases allOr g m <;> rfl
  | f :: l, m => by
    simp only [List.cons_append, allOr, allOr_append g l m]
    cases g f with
    | none => rfl
    | some x =>
      cases allOr g l with
      | none => rfl
      | some y =>
        cases allOr g m with
        | none => rfl
        | some z => simp
def listV (g : Fld → Option (List Int)) (l : List Fld) (num : Int) : List Int × Int := match allOr g (allV l num) with
  | none => ([], 6)
  | some x => (x, 0)
end Go.Proofs.YtkjlhmojdffooaaGreat

/-
  Layer 5: tensors as data, and as they lie in memory.
-/
namespace Go.Proofs.YtkjlhmojdffooaaGreat
open Go.RowKit
set_option linter.unusedVariables false

/-- A tensor: its type, its dims, its floats, its whole numbers, its bools. -/
abbrev Ten := Int × List Int × List Int × List Int × List Bool
/-- Where a tensor's lists lie. -/
structure TA where
  pd : Option Addr
  cd : Nat
  pf : Option Addr
  cf : Nat
  pi : Option Addr
  ci : Nat
  pb : Option Addr
  cb : Nat
def tenCells (T : Ten) (A : TA) : Array Value := #[.int .i64 T.1, .slice A.pd T.2.1.length A.cd, .slice A.pf T.2.2.1.length A.cf, .slice A.pi T.2.2.2.1.length A.ci, .slice A.pb T.2.2.2.2.length A.cb]
def tenV (T : Ten) (A : TA) : Value := .agg (tenCells T A)
/-- A tensor that may be read. -/
def TenIn (w : World) (T : Ten) (A : TA) : Prop :=
  (Lit.int .i64 T.1).wf = true ∧ Ints .i64 w A.pd A.cd T.2.1 ∧ Ints .u32 w A.pf A.cf T.2.2.1 ∧ Ints .i64 w A.pi A.ci T.2.2.2.1 ∧ Ls Value.bool w A.pb A.cb T.2.2.2.2
theorem TenIn.below {w w' : World} {T : Ten} {A : TA} (h : TenIn w T A) (hb : Below w.heap.size w w') : TenIn w' T A :=
  ⟨h.1, h.2.1.below hb, h.2.2.1.below hb, h.2.2.2.1.below hb, h.2.2.2.2.below hb⟩
/-- The tensor that is none. -/
def noTen : Ten := (0, [], [], [], [])
def noTA : TA := ⟨none, 0, none, 0, none, 0, none, 0⟩
theorem nilInts (k : IntKind) (w : World) : Ints k w none 0 [] := ⟨by simp, by omega, by simp, by simp, fun _ => rfl⟩
theorem noTen_in (w : World) : TenIn w noTen noTA := ⟨rfl, nilInts _ _, nilInts _ _, nilInts _ _, Ls.nil _⟩
/-- Two lists do not lie in one block. -/
def Apart (p q : Option Addr) (n m : Nat) : Prop := ∀ b o c u, p = some ⟨b, o, none⟩ → q = some ⟨c, u, none⟩ → 0 < n → 0 < m → b ≠ c
/-- A tensor that is the call's own: new since B, its lists apart. -/
def TenOwn (B : Nat) (w : World) (T : Ten) (A : TA) : Prop :=
  TenIn w T A ∧ Fresh B w A.pd T.2.1.length ∧ Fresh B w A.pf T.2.2.1.length ∧ Fresh B w A.pi T.2.2.2.1.length ∧ Fresh B w A.pb T.2.2.2.2.length ∧
    Apart A.pd A.pf T.2.1.length T.2.2.1.length ∧ Apart A.pd A.pi T.2.1.length T.2.2.2.1.length ∧ Apart A.pd A.pb T.2.1.length T.2.2.2.2.length ∧
    Apart A.pf A.pi T.2.2.1.length T.2.2.2.1.length ∧ Apart A.pf A.pb T.2.2.1.length T.2.2.2.2.length ∧ Apart A.pi A.pb T.2.2.2.1.length T.2.2.2.2.length
theorem TenOwn.below {B : Nat} {w w' : World} {T : Ten} {A : TA} (h : TenOwn B w T A) (hb : Below w.heap.size w w') : TenOwn B w' T A := by
  obtain ⟨h0, h1, h2, h3, h4, h5⟩ := h
  exact ⟨h0.below hb, h1.below h0.2.1.ls rfl hb, h2.below h0.2.2.1.ls rfl hb, h3.below h0.2.2.2.1.ls rfl hb, h4.below h0.2.2.2.2 rfl hb, h5⟩
theorem TenOwn.mono {B C : Nat} {w : World} {T : Ten} {A : TA} (h : TenOwn B w T A) (hc : C ≤ B) : TenOwn C w T A := by
  obtain ⟨h0, h1, h2, h3, h4, h5⟩ := h
  exact ⟨h0, h1.mono hc, h2.mono hc, h3.mono hc, h4.mono hc, h5⟩
def known (k : Int) : Bool := k == 1 || k == 7 || k == 9
def widthV (k : Int) : Int := if k = 1 then 4 else if k = 7 then 8 else if k = 9 then 1 else 0

end Go.Proofs.YtkjlhmojdffooaaGreat

/-
  Layer 7: models as plain data, and what the document says of their files.
-/
namespace Go.Proofs.YtkjlhmojdffooaaGreat
open Go.RowKit
set_option linter.unusedVariables false

/-- A name: its bytes. -/
abbrev Str := List Int
/-- Malformed, strange, too much. -/
abbrev F3 := Bool × Bool × Bool
def f3 (a b : F3) : F3 := (a.1 || b.1, a.2.1 || b.2.1, a.2.2 || b.2.2)
def no3 : F3 := (false, false, false)
def bad3 (b : Bool) : F3 := (b, false, false)
def odd3 (b : Bool) : F3 := (false, b, false)
def big3 (b : Bool) : F3 := (false, false, b)
theorem f3_no (a : F3) : f3 a no3 = a := by obtain ⟨a, b, c⟩ := a; simp [f3, no3]
theorem no_f3 (a : F3) : f3 no3 a = a := by obtain ⟨a, b, c⟩ := a; simp [f3, no3]
theorem f3_assoc (a b c : F3) : f3 (f3 a b) c = f3 a (f3 b c) := by simp [f3, Bool.or_assoc]
theorem bad3_no : bad3 false = no3 := rfl
/-- All flags of a list. -/
def fAll (l : List F3) : F3 := l.foldl f3 no3
theorem foldl_f3 (a : F3) : ∀ l : List F3, l.foldl f3 a = f3 a (fAll l)
  | [] => (f3_no a).symm
  | x :: r => by
    unfold fAll
    rw [List.foldl_cons, List.foldl_cons, foldl_f3 (f3 a x) r, foldl_f3 (f3 no3 x) r, no_f3, f3_assoc]
theorem fAll_cons (x : F3) (r : List F3) : fAll (x :: r) = f3 x (fAll r) := by
  show (x :: r).foldl f3 no3 = _
  rw [List.foldl_cons, no_f3, foldl_f3]
theorem fAll_append (l m : List F3) : fAll (l ++ m) = f3 (fAll l) (fAll m) := by
  unfold fAll
  rw [List.foldl_append, foldl_f3]
  rfl
abbrev TenD := Ten
/-- Name, kind, float, number, text, tensor, floats, numbers. -/
abbrev AttrD := Str × Int × Int × Int × Str × TenD × List Int × List Int
/-- Operator, name, inputs, outputs, attributes. -/
abbrev NodeD := Str × Str × List Str × List Str × List AttrD
/-- Name, type, dims. -/
abbrev ValD := Str × Int × List Int
/-- Name, tensor. -/
abbrev InitD := Str × TenD
/-- Opset, name, nodes, constants, inputs, outputs. -/
abbrev ModelD := Int × Str × List NodeD × List InitD × List ValD × List ValD
def noModel : ModelD := (0, [], [], [], [], [])

/-- What is read, and what is wrong. -/
abbrev Rd7 (α : Type) := α × F3
def i64w (x : Int) : Int := IntKind.i64.wrap x
def fieldsP (b : List Int) : Rd7 (List Fld) := ((readV b).1, bad3 ((readV b).2 != 0))
def wholeP (l : List Fld) (num : Int) : Rd7 Int := (i64w (lastV l num 0).1.2.2.1, bad3 ((lastV l num 0).2.2 != 0))
def textP (l : List Fld) (num : Int) : Rd7 Str := ((lastV l num 2).1.2.2.2, bad3 ((lastV l num 2).2.2 != 0))
def nameP (l : List Fld) (num : Int) : Rd7 Str := ((textP l num).1, f3 (textP l num).2 (big3 (decide (256 < (textP l num).1.length))))
def messageP (l : List Fld) (num : Int) : Rd7 (List Int × Bool) := (((joinV l num).1, (joinV l num).2.1), bad3 ((joinV l num).2.2 != 0))
def eachP (l : List Fld) (num : Int) (most : Nat) : Rd7 (List (List Int)) :=
  ((allV l num).map fun f => f.2.2.2, f3 (bad3 ((allV l num).any fun f => f.2.1 != 2)) (big3 (decide (most < (allV l num).length))))
def namesP (l : List Fld) (num : Int) : Rd7 (List Str) := ((eachP l num 64).1, f3 (eachP l num 64).2 (big3 ((eachP l num 64).1.any fun s => decide (256 < s.length))))
def intsP (l : List Fld) (num : Int) : Rd7 (List Int) := ((listV int1 l num).1.map i64w, bad3 ((listV int1 l num).2 != 0))
def floatsP (l : List Fld) (num : Int) : Rd7 (List Int) := ((listV fix1 l num).1, bad3 ((listV fix1 l num).2 != 0))
def countF : Int → List Int → Int × Int
  | n, [] => (n, 0)
  | n, x :: r => if 4096 < x then (0, 8) else if 4096 < n * x then (0, 8) else countF (n * x) r
/-- Count: the count, or why there is none. -/
def countV (d : List Int) : Int × Int :=
  if d.any (fun x => decide (x < 0)) = true then (0, 1) else if 8 < d.length then (0, 8) else if d.any (fun x => x == 0) = true then (0, 0) else countF 1 d
def knownB (t : Int) : Bool := t == 1 || t == 7 || t == 9
def dimsP (l : List Int) : Rd7 (List Int × Bool) := ((l, (countV l).2 == 0), f3 (bad3 ((countV l).2 == 1)) (big3 ((countV l).2 == 8)))
def sizeP (t : Int) : Nat := if t = 1 then 4 else if t = 7 then 8 else 1
/-- The i-th so many bytes as a number. -/
def atP (k : Nat) (b : List Int) (i : Nat) : Int := leV ((b.drop (i * k)).take k)
def rawP (t : Int) (n : Int) (b : List Int) : Rd7 (List Int × List Int × List Bool) :=
  if (b.length : Int) = n * (sizeP t : Int) then
    let xs := (List.range n.toNat).map (atP (sizeP t) b)
    if t = 1 then ((xs.map (· % 4294967296), [], []), no3)
    else if t = 7 then (([], xs.map i64w, []), no3)
    else (([], [], xs.map (· == 1)), bad3 (xs.any fun x => decide (1 < x)))
  else (([], [], []), bad3 true)
def boolsP (l : List Int) : Rd7 (List Bool) := (l.map (· == 1), bad3 (l.any fun x => x != 0 && x != 1))
def elementsP (t : Int) (n : Int) (l : List Fld) : Rd7 (List Int × List Int × List Bool) :=
  let f := floatsP l 4
  let small := intsP l 5
  let numbers := intsP l 7
  let raws := allV l 9
  let fl := f3 f.2 (f3 small.2 numbers.2)
  let all := f.1.length + small.1.length + numbers.1.length
  if 0 < raws.length then
    let r := rawP t n (raws.getD (raws.length - 1) noFld).2.2.2
    (r.1, f3 fl (f3 (bad3 (decide (0 < all))) r.2))
  else if t = 1 then ((f.1, [], []), f3 fl (bad3 (decide ((f.1.length : Int) ≠ n ∨ (all : Int) ≠ n))))
  else if t = 7 then (([], numbers.1, []), f3 fl (bad3 (decide ((numbers.1.length : Int) ≠ n ∨ (all : Int) ≠ n))))
  else (([], [], (boolsP small.1).1), f3 fl (f3 (boolsP small.1).2 (bad3 (decide ((small.1.length : Int) ≠ n ∨ (all : Int) ≠ n)))))
def tensorP (b : List Int) : Rd7 (Str × TenD) :=
  let l := fieldsP b
  let i1 := intsP l.1 1
  let d := dimsP i1.1
  let kind := wholeP l.1 2
  let a := eachP l.1 3 l.1.length
  let place := wholeP l.1 14
  let name := nameP l.1 8
  let r := eachP l.1 9 l.1.length
  let fl := fAll [l.2, i1.2, d.2, kind.2, bad3 (kind.1 == 0), odd3 (kind.1 != 0 && !knownB kind.1), a.2, (if 0 < a.1.length then no3 else place.2), odd3 (decide (0 < a.1.length) || place.1 != 0), name.2, r.2, (floatsP l.1 4).2, (intsP l.1 5).2, (intsP l.1 7).2]
  if d.1.2 && knownB kind.1 then
    let e := elementsP kind.1 (countV d.1.1).1 l.1
    ((name.1, (kind.1, d.1.1, e.1.1, e.1.2.1, e.1.2.2)), f3 fl e.2)
  else ((name.1, (0, d.1.1, [], [], [])), fl)
def lastF (l : List Fld) (num wire : Int) : Rd7 Fld := ((lastV l num wire).1, bad3 ((lastV l num wire).2.2 != 0))
def attrP (b : List Int) : Rd7 AttrD :=
  let l := fieldsP b
  let name := nameP l.1 1
  let f := lastF l.1 2 5
  let number := wholeP l.1 3
  let text := textP l.1 4
  let body := messageP l.1 5
  let floats := floatsP l.1 7
  let ints := intsP l.1 8
  let t : Rd7 TenD := if body.1.2 then ((tensorP body.1.1).1.2, (tensorP body.1.1).2) else (noTen, no3)
  let kind := wholeP l.1 20
  let fl := fAll [l.2, name.2, f.2, number.2, text.2, body.2, floats.2, ints.2, t.2, big3 (decide (4096 < text.1.length ∨ 4096 < floats.1.length ∨ 4096 < ints.1.length)), kind.2]
  if kind.1 = 0 then ((name.1, 0, 0, 0, [], noTen, [], []), f3 fl (bad3 true))
  else if kind.1 = 1 then ((name.1, 1, f.1.2.2.1 % 4294967296, 0, [], noTen, [], []), fl)
  else if kind.1 = 2 then ((name.1, 2, 0, number.1, [], noTen, [], []), fl)
  else if kind.1 = 3 then ((name.1, 3, 0, 0, text.1, noTen, [], []), fl)
  else if kind.1 = 4 then ((name.1, 4, 0, 0, [], t.1, [], []), f3 fl (bad3 (!body.1.2)))
  else if kind.1 = 6 then ((name.1, 6, 0, 0, [], noTen, floats.1, []), fl)
  else if kind.1 = 7 then ((name.1, 7, 0, 0, [], noTen, [], ints.1), fl)
  else ((name.1, kind.1, 0, 0, [], noTen, [], []), f3 fl (odd3 true))
def oursB (s : Str) : Bool := decide (s = []) || decide (s = [97, 105, 46, 111, 110, 110, 120])
def nodeP (b : List Int) : Rd7 NodeD :=
  let l := fieldsP b
  let op := nameP l.1 4
  let name := nameP l.1 3
  let ins := namesP l.1 1
  let outs := namesP l.1 2
  let dom := textP l.1 7
  let a := eachP l.1 5 64
  ((op.1, name.1, ins.1, outs.1, a.1.map fun x => (attrP x).1), fAll ([l.2, op.2, name.2, ins.2, outs.2, bad3 (decide (op.1 = [])), dom.2, odd3 (!oursB dom.1), a.2] ++ a.1.map fun x => (attrP x).2))
/-- One dim of a shape. -/
def dimP (b : List Int) : Rd7 Int :=
  let f := fieldsP b
  ((wholeP f.1 1).1, fAll [f.2, bad3 ((lastV f.1 1 0).2.2 != 0), odd3 (!(lastV f.1 1 0).2.1), (wholeP f.1 1).2])
def shapeP (b : List Int) : Rd7 (List Int) :=
  let l := fieldsP b
  let a := eachP l.1 1 l.1.length
  let d := dimsP (a.1.map fun x => (dimP x).1)
  (d.1.1, fAll ([l.2, a.2] ++ (a.1.map fun x => (dimP x).2) ++ [d.2]))
def valueP (b : List Int) : Rd7 ValD :=
  let l := fieldsP b
  let name := nameP l.1 1
  let sort := messageP l.1 2
  let fl := fAll [l.2, name.2, sort.2]
  if sort.1.2 = false then ((name.1, 0, []), f3 fl (bad3 true))
  else
    let sf := fieldsP sort.1.1
    let tensor := messageP sf.1 1
    let fl := fAll [fl, sf.2, tensor.2]
    if tensor.1.2 = false then ((name.1, 0, []), f3 fl (odd3 true))
    else
      let f := fieldsP tensor.1.1
      let kind := wholeP f.1 1
      let body := messageP f.1 2
      let fl := fAll [fl, f.2, kind.2, odd3 (!knownB kind.1), body.2]
      if body.1.2 = false then ((name.1, kind.1, []), f3 fl (odd3 true))
      else ((name.1, kind.1, (shapeP body.1.1).1), f3 fl (shapeP body.1.1).2)
def valuesP (l : List Fld) (num : Int) : Rd7 (List ValD) :=
  let a := eachP l num 64
  (a.1.map fun x => (valueP x).1, fAll (a.2 :: a.1.map fun x => (valueP x).2))
def graphP (b : List Int) : Rd7 (Str × List NodeD × List InitD × List ValD × List ValD) :=
  let l := fieldsP b
  let name := nameP l.1 2
  let a := eachP l.1 1 1024
  let c := eachP l.1 5 1024
  let i := valuesP l.1 11
  let o := valuesP l.1 12
  let s := eachP l.1 15 l.1.length
  ((name.1, a.1.map (fun x => (nodeP x).1), c.1.map (fun x => (tensorP x).1), i.1, o.1),
    fAll ([l.2, name.2, a.2] ++ (a.1.map fun x => (nodeP x).2) ++ [c.2] ++ (c.1.map fun x => (tensorP x).2) ++ [i.2, o.2, s.2, odd3 (decide (0 < s.1.length))]))
/-- The version that the sets ask for, from one on. -/
def versF : Int → List (List Int) → Int
  | v, [] => v
  | v, x :: r => versF (if oursB (textP (fieldsP x).1 1).1 then (wholeP (fieldsP x).1 2).1 else v) r
def setsP (l : List Fld) : F3 :=
  let a := eachP l 8 l.length
  fAll ([a.2] ++ (a.1.map fun x => fAll [(fieldsP x).2, (textP (fieldsP x).1 1).2, (wholeP (fieldsP x).1 2).2]) ++ [odd3 (versF 0 a.1 != 17)])
/-- Decode: the model, or why there is none. -/
def decodeV (b : List Int) : ModelD × Int :=
  if 4194304 < b.length then (noModel, 8)
  else
    let l := fieldsP b
    let body := messageP l.1 7
    let g := graphP body.1.1
    let fl := fAll [l.2, (wholeP l.1 1).2, body.2, bad3 (!body.1.2), g.2, setsP l.1]
    if fl.1 = true then (noModel, 6) else if fl.2.1 = true then (noModel, 7) else if fl.2.2 = true then (noModel, 8)
    else ((17, g.1.1, g.1.2.1, g.1.2.2.1, g.1.2.2.2.1, g.1.2.2.2.2), 0)
-- what may be written
def emptyT (t : TenD) : Bool := t.1 == 0 && (t.2.1.length + t.2.2.1.length + t.2.2.2.1.length + t.2.2.2.2.length == 0)
def hasT (t : TenD) : Nat × Nat :=
  let all := t.2.2.1.length + t.2.2.2.1.length + t.2.2.2.2.length
  if t.1 = 1 then (t.2.2.1.length, all - t.2.2.1.length) else if t.1 = 7 then (t.2.2.2.1.length, all - t.2.2.2.1.length) else (t.2.2.2.2.length, all - t.2.2.2.2.length)
def dimsW (d : List Int) : F3 := f3 (bad3 ((countV d).2 == 1)) (big3 ((countV d).2 == 8))
def tensW (t : TenD) : F3 :=
  if knownB t.1 = false then bad3 true
  else f3 (dimsW t.2.1) (bad3 ((countV t.2.1).2 == 0 && decide (((hasT t).1 : Int) ≠ (countV t.2.1).1 ∨ 0 < (hasT t).2)))
def longW (s : Str) : F3 := big3 (decide (256 < s.length))
def attrW (x : AttrD) : F3 :=
  let k := x.2.1
  fAll [longW x.1,
    bad3 (k != 1 && x.2.2.1 != 0 || k != 2 && x.2.2.2.1 != 0 || k != 3 && decide (x.2.2.2.2.1 ≠ []) || k != 4 && !emptyT x.2.2.2.2.2.1 || k != 6 && decide (0 < x.2.2.2.2.2.2.1.length) || k != 7 && decide (0 < x.2.2.2.2.2.2.2.length)),
    big3 (decide (4096 < x.2.2.2.2.1.length ∨ 4096 < x.2.2.2.2.2.2.1.length ∨ 4096 < x.2.2.2.2.2.2.2.length)),
    (if k = 1 ∨ k = 2 ∨ k = 3 ∨ k = 6 ∨ k = 7 then no3 else if k = 4 then tensW x.2.2.2.2.2.1 else bad3 true)]
def nodeW (n : NodeD) : F3 :=
  fAll ([longW n.1, longW n.2.1, bad3 (decide (n.1 = [])), big3 (decide (64 < n.2.2.1.length ∨ 64 < n.2.2.2.1.length ∨ 64 < n.2.2.2.2.length))] ++ n.2.2.1.map longW ++ n.2.2.2.1.map longW ++ n.2.2.2.2.map attrW)
def valW (v : ValD) : F3 := fAll [longW v.1, bad3 (!knownB v.2.1), dimsW v.2.2]
def valuesW (l : List ValD) : F3 := fAll (big3 (decide (64 < l.length)) :: l.map valW)
def modelW (m : ModelD) : F3 :=
  fAll ([bad3 (m.1 != 17), longW m.2.1, big3 (decide (1024 < m.2.2.1.length ∨ 1024 < m.2.2.2.1.length))] ++ m.2.2.1.map nodeW ++ (m.2.2.2.1.map fun x => f3 (longW x.1) (tensW x.2)) ++ [valuesW m.2.2.2.2.1, valuesW m.2.2.2.2.2])
/-- Check. -/
def checkM (m : ModelD) : Int := if (modelW m).1 = true then 1 else if (modelW m).2.2 = true then 8 else 0
-- how it is written: rows of fields
def u64w (x : Int) : Int := IntKind.u64.wrap x
def numF (num x : Int) : Fld := (num, 0, x, [])
def blkF (num : Int) (b : List Int) : Fld := (num, 2, 0, b)
def wordF (num : Int) (s : Str) : List Fld := if s = [] then [] else [blkF num s]
def packF (num : Int) (l : List Int) : List Fld := if l.length = 0 then [] else [blkF num (l.flatMap fun x => varV (u64w x))]
def rawB (t : TenD) : List Int := (t.2.2.1.flatMap fun x => fxL x 4) ++ (t.2.2.2.1.flatMap fun x => fxL (u64w x) 8) ++ t.2.2.2.2.map fun b => if b then 1 else 0
def tensF (name : Str) (t : TenD) : List Fld := packF 1 t.2.1 ++ [numF 2 (u64w t.1)] ++ wordF 8 name ++ [blkF 9 (rawB t)]
def attrF (x : AttrD) : List Fld :=
  let k := x.2.1
  wordF 1 x.1 ++
  (if k = 1 then [((2 : Int), (5 : Int), x.2.2.1, [])]
   else if k = 2 then [numF 3 (u64w x.2.2.2.1)]
   else if k = 3 then [blkF 4 x.2.2.2.2.1]
   else if k = 4 then [blkF 5 (msgB (tensF [] x.2.2.2.2.2.1))]
   else if k = 6 then (if x.2.2.2.2.2.2.1.length = 0 then [] else [blkF 7 (x.2.2.2.2.2.2.1.flatMap fun y => fxL y 4)])
   else if k = 7 then packF 8 x.2.2.2.2.2.2.2
   else []) ++ [numF 20 (u64w k)]
def nodeF (n : NodeD) : List Fld := n.2.2.1.map (blkF 1) ++ n.2.2.2.1.map (blkF 2) ++ wordF 3 n.2.1 ++ [blkF 4 n.1] ++ n.2.2.2.2.map fun a => blkF 5 (msgB (attrF a))
def shapeF (d : List Int) : List Fld := d.map fun x => blkF 1 (msgB [numF 1 (u64w x)])
def valF (v : ValD) : List Fld := wordF 1 v.1 ++ [blkF 2 (msgB [blkF 1 (msgB [numF 1 (u64w v.2.1), blkF 2 (msgB (shapeF v.2.2))])])]
def graphF (m : ModelD) : List Fld :=
  (m.2.2.1.map fun n => blkF 1 (msgB (nodeF n))) ++ wordF 2 m.2.1 ++ (m.2.2.2.1.map fun x => blkF 5 (msgB (tensF x.1 x.2))) ++ (m.2.2.2.2.1.map fun v => blkF 11 (msgB (valF v))) ++ m.2.2.2.2.2.map fun v => blkF 12 (msgB (valF v))
def modelF (m : ModelD) : List Fld := [numF 1 8, blkF 7 (msgB (graphF m)), blkF 8 (msgB [numF 2 17])]
/-- Encode: the file, or why there is none. -/
def encodeV (m : ModelD) : List Int × Int := if checkM m = 0 then (if 4194304 < (msgB (modelF m)).length then ([], 8) else (msgB (modelF m), 0)) else ([], checkM m)
end Go.Proofs.YtkjlhmojdffooaaGreat

/-
  Layer 7: a tensor's message is read as the tensor.
-/
namespace Go.Proofs.YtkjlhmojdffooaaGreat
open Go.RowKit
set_option linter.unusedVariables false

theorem f3_eq_no {a b : F3} (h : f3 a b = no3) : a = no3 ∧ b = no3 := by
  obtain ⟨a1, a2, a3⟩ := a
  obtain ⟨b1, b2, b3⟩ := b
  simp only [f3, no3, Prod.mk.injEq, Bool.or_eq_false_iff] at h ⊢
  exact ⟨⟨h.1.1, h.2.1.1, h.2.2.1⟩, h.1.2, h.2.1.2, h.2.2.2⟩
theorem fAll_no : ∀ {l : List F3}, fAll l = no3 → ∀ x ∈ l, x = no3
  | [], _, x, hx => by cases hx
  | y :: r, h, x, hx => by
    rw [fAll_cons] at h
    obtain ⟨h1, h2⟩ := f3_eq_no h
    rcases List.mem_cons.1 hx with e | e
    · rw [e]; exact h1
    · exact fAll_no h2 x e
-- what is written is a message
theorem isB_flatO {α : Type} {g : α → List Int} {l : List α} (h : ∀ x ∈ l, isB (g x)) : isB (l.flatMap g) := fun c hc => by
  obtain ⟨x, hx, hc2⟩ := List.mem_flatMap.1 hc
  exact h x hx c hc2
-- tensors
def i64B (x : Int) : Prop := -9223372036854775808 ≤ x ∧ x < 9223372036854775808
theorem countF_pos : ∀ (l : List Int) (n : Int), 0 ≤ n → (∀ x ∈ l, 0 ≤ x) → 0 ≤ (countF n l).1
  | [], n, h, _ => h
  | x :: r, n, h, hx => by
    unfold countF
    split
    · simp
    · split
      · simp
      · exact countF_pos r (n * x) (Int.mul_nonneg h (hx x (by simp))) (fun y hy => hx y (by simp [hy]))
theorem countV_pos (d : List Int) : 0 ≤ (countV d).1 := by
  unfold countV
  split
  · simp
  · rename_i h
    split
    · simp
    · split
      · simp
      · refine countF_pos d 1 (by decide) (fun x hx => ?_)
        simp only [Bool.not_eq_true, List.any_eq_false, decide_eq_true_eq] at h
        have := h x hx
        omega
end Go.Proofs.YtkjlhmojdffooaaGreat

/-
  Layer 7: what is written is read: tensors, attributes, nodes, values.
-/
namespace Go.Proofs.YtkjlhmojdffooaaGreat
open Go.RowKit
set_option linter.unusedVariables false

theorem known_cases {t : Int} (h : knownB t = true) : t = 1 ∨ t = 7 ∨ t = 9 := by
  unfold knownB at h
  simp only [Bool.or_eq_true, beq_iff_eq] at h
  omega
end Go.Proofs.YtkjlhmojdffooaaGreat
