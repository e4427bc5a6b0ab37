/-
  Layer 6: bytes that are written over, and what stays.
-/
import Derived.Test.YtbcmfgohbppndaaLN
import Derived.Test.YtbcmfgohbppndaaKS
import Derived.ArgAppend
namespace Go.Proofs.Ytbcmfgohbppndaa
open Go.RowKit
set_option linter.unusedVariables false

theorem Flc.mid {lo hi : Nat} {w w' : World} {p : Option Addr} {cap : Nat} {l : List FA} (h : Flc w p cap l) (m : Mid lo hi w w') (ha : ∀ b o, p = some ⟨b, o, none⟩ → 0 < l.length → b < lo ∨ hi ≤ b) : Flc w' p cap l := by
  obtain ⟨h1, h2, h4, h5⟩ := h
  refine ⟨h1, h2, fun hp => ?_, h5⟩
  obtain ⟨b, o, e, g1, g2⟩ := h4 hp
  exact ⟨b, o, e, Nat.lt_of_lt_of_le g1 m.1, fun i hi j u hu => (World.cell?_of_block (w := w) (m.2 b g1 (ha b o e hp))).trans (g2 i hi j u hu)⟩
theorem Ints.mid {k : IntKind} {lo hi : Nat} {w w' : World} {p : Option Addr} {cap : Nat} {xs : List Int} (h : Ints k w p cap xs) (m : Mid lo hi w w') (ha : ∀ b o, p = some ⟨b, o, none⟩ → 0 < xs.length → b < lo ∨ hi ≤ b) : Ints k w' p cap xs := (h.ls.mid m ha).ints h.2.2.1
theorem Flc.midN {lo hi : Nat} {w w' : World} {p : Option Addr} {cap : Nat} {l : List FA} (h : Flc w p cap l) (m : Mid lo hi w w') (ha : ∀ b o, p = some ⟨b, o, none⟩ → 0 < l.length → hi ≤ b) : Flc w' p cap l := h.mid m (fun b o e hp => .inr (ha b o e hp))
theorem Ints.midN {k : IntKind} {lo hi : Nat} {w w' : World} {p : Option Addr} {cap : Nat} {xs : List Int} (h : Ints k w p cap xs) (m : Mid lo hi w w') (ha : ∀ b o, p = some ⟨b, o, none⟩ → 0 < xs.length → hi ≤ b) : Ints k w' p cap xs := h.mid m (fun b o e hp => .inr (ha b o e hp))
/-- Bytes of the blocks from lo on and ahead of hi, which may be written over. -/
def DataOK (lo hi : Nat) (w : World) (q : Option Addr) (n c : Nat) : Prop :=
  (q = none ∧ n = 0 ∧ c = 0) ∨ ∃ g cur, q = some ⟨g, 0, none⟩ ∧ lo ≤ g ∧ g < hi ∧ w.heap[g]? = some (.cells cur 5 (0, 0)) ∧ n ≤ c ∧ c ≤ maxLen ∧ cur.size = c ∧ ∀ i, i < n → ∃ x, cur[i]? = some (.int .u8 x) ∧ 0 ≤ x ∧ x < 256
theorem OwnD.dataOK {lo hi : Nat} {w : World} {a : FA} (h : OwnD lo w a) (hb : isB a.d) (hh : w.heap.size ≤ hi) : DataOK lo hi w a.q a.d.length a.c := by
  rcases h.2 with ⟨hv, hn⟩ | ⟨g, cap, cur, hv, hg, hp, h1, h2, h3, h4⟩
  · simp only [Value.slice.injEq] at hv
    exact .inl ⟨hv.1, hn, hv.2.2⟩
  · simp only [Value.slice.injEq, true_and] at hv
    obtain ⟨e1, e2⟩ := hv
    refine .inr ⟨g, cur, e1, hg, Nat.lt_of_lt_of_le (lt_of_block hp) hh, hp, by omega, by omega, by omega, fun i hi => ?_⟩
    refine ⟨a.d.getD i 0, ?_, hb _ (getD_mem6 hi)⟩
    have e3 : (cur.toList.take (a.d.length * 1))[i]? = cur.toList[i]? := List.getElem?_take_of_lt (by omega)
    rw [h4, List.getElem?_map, List.getElem?_eq_getElem hi] at e3
    simp only [Option.map_some] at e3
    rw [← Array.getElem?_toList, ← e3, List.getD_eq_getElem?_getD, List.getElem?_eq_getElem hi]
    rfl
theorem OwnG.dataOK {lo hi : Nat} {w0 w : World} {q : Option Addr} {n c : Nat} {xs : List Int} (h : OwnG 5 (Value.int .u8) w0 w (.slice q n c) xs) (hb : isB xs) (hl : lo ≤ w0.heap.size) (hh : w.heap.size ≤ hi) : DataOK lo hi w q n c := by
  have hn : n = xs.length := by
    rcases h.1.2 with ⟨hv, hn⟩ | ⟨g, cap, cur, hv, _⟩
    · simp only [Value.slice.injEq] at hv; omega
    · simp only [Value.slice.injEq] at hv; omega
  subst hn
  exact OwnD.dataOK (a := ⟨0, 0, 0, xs, q, c⟩) (OwnD.mono (w := w) (B := w0.heap.size) h.1 hl) hb hh
/-- Bytes of these blocks were written over, new blocks were made, and nothing else. -/
def Spoil (lo hi : Nat) (w w' : World) : Prop :=
  Below lo w w' ∧ Mid lo hi w w' ∧ (∀ (k : Nat) (cur : Array Value) (t : TypeId), ¬ t = 5 → w.heap[k]? = some (Obj.cells cur t (0, 0)) → w'.heap[k]? = some (Obj.cells cur t (0, 0))) ∧ ∀ q n c, DataOK lo hi w q n c → DataOK lo hi w' q n c
theorem Spoil.refl (lo hi : Nat) (w : World) : Spoil lo hi w w := ⟨Below.refl _ _, Mid.refl _ _ _, fun _ _ _ _ h => h, fun _ _ _ h => h⟩
theorem Spoil.trans {lo hi : Nat} {a b c : World} (h : Spoil lo hi a b) (k : Spoil lo hi b c) : Spoil lo hi a c :=
  ⟨h.1.trans k.1, h.2.1.trans k.2.1, fun i cur t ht hh => k.2.2.1 i cur t ht (h.2.2.1 i cur t ht hh), fun q n d hd => k.2.2.2 q n d (h.2.2.2 q n d hd)⟩
theorem below_le {B C : Nat} {w w' : World} (h : Below C w w') (hb : B ≤ C) : Below B w w' := ⟨h.os, h.tape, h.output, h.size, fun k hk => h.block k (by omega)⟩
theorem Spoil.bel {lo hi B : Nat} {a w w' : World} (h : Spoil lo hi w w') (hb : B ≤ lo) (k : Below B a w) : Below B a w' := k.trans (below_le h.1 hb)
theorem Spoil.below {lo hi : Nat} {w w' : World} (h : Below w.heap.size w w') (hl : lo ≤ w.heap.size) : Spoil lo hi w w' :=
  ⟨below_le h hl, ⟨h.size, fun k hk _ => h.block k hk⟩, fun k cur t _ hh => (h.block k (lt_of_block hh)).trans hh, fun q n c hd => by
    rcases hd with g | ⟨g, cur, h1, h2, h3, h4, rest⟩
    · exact .inl g
    · exact .inr ⟨g, cur, h1, h2, h3, (h.block g (lt_of_block h4)).trans h4, rest⟩⟩
theorem Spoil.set {lo hi g j : Nat} {w : World} {cur : Array Value} {y : Int} (hp : w.heap[g]? = some (.cells cur 5 (0, 0))) (h1 : lo ≤ g) (h2 : g < hi) (y0 : 0 ≤ y) (y1 : y < 256) : Spoil lo hi w (w.setCell ⟨g, j, none⟩ (.int .u8 y)) := by
  refine ⟨(Below.refl _ _).setCell h1 _, (Mid.refl _ _ _).setCell h1 h2 _, fun k c2 t ht hh => ?_, fun q n c hd => ?_⟩
  · have hne : k ≠ g := fun e => by
      subst e
      rw [hp] at hh
      simp only [Option.some.injEq, Obj.cells.injEq] at hh
      exact ht hh.2.1.symm
    rw [Below.heap_setCell _ _ _ _ hne]; exact hh
  · rcases hd with g' | ⟨g', c2, h3, h4, h5, h6, h7, h8, h9, h10⟩
    · exact .inl g'
    · by_cases hne : g' = g
      · subst hne
        rw [hp] at h6
        simp only [Option.some.injEq, Obj.cells.injEq, and_true] at h6
        subst h6
        have hs := Box.same (w := w) (g := g') (cs := cur) (t := 5) hp j (.int .u8 y)
        refine .inr ⟨g', _, h3, h4, h5, hs, h7, h8, by simp [h9], fun i hi => ?_⟩
        by_cases hij : j = i
        · subst hij
          exact ⟨y, by rw [Array.getElem?_setIfInBounds_self_of_lt (by omega)], y0, y1⟩
        · rw [Array.getElem?_setIfInBounds_ne hij]
          exact h10 i hi
      · exact .inr ⟨g', c2, h3, h4, h5, by rw [Below.heap_setCell _ _ _ _ hne]; exact h6, h7, h8, h9, h10⟩
theorem own_slice {w : World} {B : Nat} {t : TypeId} {k n : Nat} {v : Value} {xs : List Value} (h : w.ownsRow B t k v n xs) : ∃ q n' c, v = .slice q n' c := by
  rcases h.2 with ⟨hv, _⟩ | ⟨g, cap, cur, hv, _⟩
  · exact ⟨_, _, _, hv⟩
  · exact ⟨_, _, _, hv⟩
/-- 'append(data, y)' onto bytes that may be written over. -/
theorem wpList_append_spoil {P : Program} {w : World} {ops : Array Oper} {rest : List Oper} {o : Oper} {a : Act} {Q : Exit → Act → World → Prop} (hgd : o.guard = none) (s x : Operand) (t : TypeId)
    (ho : o.op = .call { callee := .builtin .append, args := #[s, x], argTypes := #[t, t] })
    (i : TypeInfo) (z : Value) (ht : P.underlying t = some (.slice 5)) (hi : P.info? 5 = some i) (hz : i.zero = some z)
    (hsize : i.size = 1) (hby : i.bytes = 1) (hzs : z.cells.size = 1)
    (lo hi' : Nat) (hlo : lo ≤ w.heap.size) (q : Option Addr) (n c : Nat) (hs : a.eval s = .slice q n c) (hd : DataOK lo hi' w q n c) (hn : n ≤ 140737488355327)
    (ad : Addr) (cc : Nat) (y : Int) (y0 : 0 ≤ y) (y1 : y < 256) (hx : a.eval x = .slice (some ad) 1 cc) (hc : w.cell? (ad.add 0) = some (.int .u8 y))
    (h : ∀ q' n' c' w', Spoil lo hi' w w' → wpList P ops Q rest (a.put o.dst (.slice q' n' c')) w') : wpList P ops Q (o :: rest) a w := by
  have hnews : ∀ j u, ([Value.int .u8 y])[j]? = some u → w.cell? (ad.add j) = some u := fun j u hj => by
    have hj0 : j = 0 := by
      have := (List.getElem?_eq_some_iff.1 hj).1
      simp at this; exact this
    subst hj0
    simp only [List.getElem?_cons_zero, Option.some.injEq] at hj
    rw [← hj]; exact hc
  have h1c : ∀ u ∈ [Value.int .u8 y], u.oneCell' = true := fun u hu => by simp at hu; subst hu; rfl
  rcases hd with ⟨rfl, rfl, rfl⟩ | ⟨g, cur, rfl, h1, h2, h3, h4, h5, h6, h7⟩
  · refine wpList_append_grows w hgd s x t ho 5 i z 1 1 ht hi hz hsize hby hzs (by decide) none 0 0 [] hs (fun _ => ⟨rfl, rfl⟩) rfl (fun b hb => by cases hb) ad 1 cc [.int .u8 y] hx rfl hnews h1c (by omega) (by unfold maxLen; omega) (by omega) ?_
    intro v' w' hw' hg
    obtain ⟨q', n', c', rfl⟩ := own_slice hw'
    exact h q' n' c' w' (Spoil.below ((Below.refl _ _).grown hg (Nat.le_refl _) (fun k hk => by cases hk)) hlo)
  · have hcell : ∀ j, w.cell? ⟨g, j, none⟩ = cur[j]? := Box.cell (t := 5) h3
    have hfz : ∀ j, w.frozen? ⟨g, j, none⟩ = false := Box.frozen (t := 5) h3
    refine wpList_append_arg w hgd s x t ho 5 i z 1 1 ht hi hz hsize hby hzs (by decide) g 0 n c (cur.toList.take n) hs (by rw [List.length_take, Array.length_toList]; omega) (fun j u hj => ?_) ad 1 cc [.int .u8 y] hx rfl hnews h1c (fun hr j hj => ⟨?_, hfz _⟩) (by unfold maxLen; omega) (by omega) (fun hr => ?_) (fun _ v' w' hw' hg => ?_)
    · rw [hcell, Nat.zero_add]
      have hjl : j < n := by
        have := (List.getElem?_eq_some_iff.1 hj).1
        rw [List.length_take] at this; omega
      rw [List.getElem?_take_of_lt hjl] at hj
      rw [← Array.getElem?_toList]; exact hj
    · rw [hcell]
      simp only [List.length_singleton] at hj
      rw [Array.getElem?_eq_getElem (by omega)]
      rfl
    · exact h _ _ _ _ (Spoil.set h3 h1 h2 y0 y1)
    · obtain ⟨q', n', c', rfl⟩ := own_slice hw'
      exact h q' n' c' w' (Spoil.below ((Below.refl _ _).grown hg (Nat.le_refl _) (fun k hk => by cases hk)) hlo)
theorem cell_new8 (w : World) (y : Int) (t : TypeId) : (w.alloc (.cells #[.int .u8 y] t)).cell? ((⟨w.heap.size, 0, none⟩ : Addr).add 0) = some (.int .u8 y) := by
  rw [Go.WideShapes.add_plain, Box.cell (Box.new w #[.int .u8 y] t)]
  rfl
/-- The cell to be written over. -/
theorem DataOK.at {lo hi : Nat} {w : World} {q : Option Addr} {n c j : Nat} (h : DataOK lo hi w q n c) (hj : j < n) : ∃ g o x, q = some ⟨g, o, none⟩ ∧ g < w.heap.size ∧ w.cell? ⟨g, o + j, none⟩ = some (.int .u8 x) ∧ w.frozen? ⟨g, o + j, none⟩ = false ∧ 0 ≤ x ∧ x < 256 ∧ ∀ y, 0 ≤ y → y < 256 → Spoil lo hi w (w.setCell ⟨g, o + j, none⟩ (.int .u8 y)) := by
  rcases h with ⟨_, h0, _⟩ | ⟨g, cur, h1, h2, h3, h4, h5, h6, h7, h8⟩
  · omega
  · obtain ⟨x, hx, x0, x1⟩ := h8 j hj
    exact ⟨g, 0, x, h1, lt_of_block h4, by rw [Nat.zero_add, Box.cell (t := 5) h4]; exact hx, Box.frozen (t := 5) h4 _, x0, x1, fun y y0 y1 => Spoil.set h4 h2 h3 y0 y1⟩
/-- A row of fields of these blocks, from the n-th on. -/
def RowOK (lo hi : Nat) (w : World) (q : Option Addr) (L : List FA) (n : Nat) : Prop :=
  n < L.length → ∃ r cur, q = some ⟨r, 0, none⟩ ∧ lo ≤ r ∧ r < hi ∧ w.heap[r]? = some (.cells cur 40 (0, 0)) ∧ ∀ i, n ≤ i → i < L.length → ∀ j u, (faCells (L.getD i noFA))[j]? = some u → cur[i * 4 + j]? = some u
theorem OwnF.rowOK {lo hi : Nat} {w0 w : World} {q : Option Addr} {n c : Nat} {L : List FA} (h : OwnF 40 w0 w (.slice q n c) L) (hl : lo ≤ w0.heap.size) (hh : w.heap.size ≤ hi) : RowOK lo hi w q L 0 := fun hp => by
  rcases h.1.2 with ⟨hv, hn⟩ | ⟨g, cap, cur, hv, hg, hp2, h1, h2, h3, h4⟩
  · omega
  · simp only [Value.slice.injEq] at hv
    refine ⟨g, cur, hv.1, by omega, Nat.lt_of_lt_of_le (lt_of_block hp2) hh, hp2, fun i _ hi j u hu => ?_⟩
    have hj : j < 4 := by
      have := (List.getElem?_eq_some_iff.1 hu).1
      rw [fa_len] at this; exact this
    have e1 : (cur.toList.take (L.length * 4))[i * 4 + j]? = cur.toList[i * 4 + j]? := List.getElem?_take_of_lt (by omega)
    rw [← Array.getElem?_toList, ← e1, h4, fl_get L i j hi hj, hu]
theorem RowOK.spoil {lo hi : Nat} {w w' : World} {q : Option Addr} {L : List FA} {n : Nat} (h : RowOK lo hi w q L n) (s : Spoil lo hi w w') : RowOK lo hi w' q L n := fun hp => by
  obtain ⟨r, cur, h1, h2, h3, h4, h5⟩ := h hp
  exact ⟨r, cur, h1, h2, h3, s.2.2.1 r cur _ (by decide) h4, h5⟩
theorem RowOK.next {lo hi : Nat} {w : World} {q : Option Addr} {L : List FA} {n : Nat} (h : RowOK lo hi w q L n) : RowOK lo hi w q L (n + 1) := fun hp => by
  obtain ⟨r, cur, h1, h2, h3, h4, h5⟩ := h (by omega)
  exact ⟨r, cur, h1, h2, h3, h4, fun i hi => h5 i (by omega)⟩
theorem RowOK.at {lo hi : Nat} {w : World} {q : Option Addr} {L : List FA} {n : Nat} (h : RowOK lo hi w q L n) (hp : n < L.length) : ∃ r o, q = some ⟨r, o, none⟩ ∧ r < w.heap.size ∧ (w.cell? ⟨r, o + n * 4 + 3, none⟩ = some (.slice (L.getD n noFA).q (L.getD n noFA).d.length (L.getD n noFA).c)) ∧ (w.cell? ⟨r, o + n * 4, none⟩ = some (.int .i64 (L.getD n noFA).n)) ∧ (∀ j, w.frozen? ⟨r, j, none⟩ = false) := by
  obtain ⟨r, cur, h1, h2, h3, h4, h5⟩ := h hp
  refine ⟨r, 0, h1, lt_of_block h4, ?_, ?_, Box.frozen (t := 40) h4⟩
  · rw [Box.cell (t := 40) h4, Nat.zero_add]
    exact h5 n (Nat.le_refl _) hp 3 _ rfl
  · rw [Box.cell (t := 40) h4, Nat.zero_add]
    exact h5 n (Nat.le_refl _) hp 0 _ rfl
/-- What stays while the first n fields are spoilt. -/
def Inv6 (lo hi : Nat) (w2 U : World) (q : Option Addr) (L : List FA) (n : Nat) (w : World) : Prop :=
  Below lo w2 w ∧ Mid lo hi U w ∧ RowOK lo hi w q L n ∧ ∀ i, n ≤ i → i < L.length → DataOK lo hi w (L.getD i noFA).q (L.getD i noFA).d.length (L.getD i noFA).c
theorem Inv6.spoil {lo hi n : Nat} {w2 U w w' : World} {q : Option Addr} {L : List FA} (h : Inv6 lo hi w2 U q L n w) (s : Spoil lo hi w w') : Inv6 lo hi w2 U q L n w' :=
  ⟨s.bel (Nat.le_refl _) h.1, h.2.1.trans s.2.1, h.2.2.1.spoil s, fun i h1 h2 => s.2.2.2 _ _ _ (h.2.2.2 i h1 h2)⟩
theorem Inv6.next {lo hi n : Nat} {w2 U w : World} {q : Option Addr} {L : List FA} (h : Inv6 lo hi w2 U q L n w) : Inv6 lo hi w2 U q L (n + 1) w :=
  ⟨h.1, h.2.1, h.2.2.1.next, fun i h1 h2 => h.2.2.2 i (by omega) h2⟩
/-- A store into the row, at fields that are done with. -/
theorem Inv6.store {lo hi n m k : Nat} {w2 U w : World} {q : Option Addr} {L : List FA} {r o : Nat} (h : Inv6 lo hi w2 U q L n w) (hq : q = some ⟨r, o, none⟩) (hm : m < L.length) (hmn : m + 1 = n) (hs : ∃ cur : Array Value, w.heap[r]? = some (.cells cur 40 (0, 0))) (ho : o = 0) (hlr : lo ≤ r) (hrh : r < hi) (hk : k < 4) (u : Value) : Inv6 lo hi w2 U q L n (w.setCell ⟨r, o + m * 4 + k, none⟩ u) := by
  obtain ⟨cur, hc⟩ := hs
  subst ho
  refine ⟨h.1.setCell hlr _, h.2.1.setCell hlr hrh _, fun hp => ?_, fun i h1 h2 => ?_⟩
  · obtain ⟨r', cur', e1, e2, e3, e4, e5⟩ := h.2.2.1 hp
    rw [hq] at e1
    simp only [Option.some.injEq, Addr.mk.injEq] at e1
    obtain ⟨rfl, _, _⟩ := e1
    refine ⟨r, _, hq, e2, e3, Box.same (w := w) (g := r) (cs := cur') (t := 40) e4 _ u, fun i hi hil j v hv => ?_⟩
    have hj : j < 4 := by
      have := (List.getElem?_eq_some_iff.1 hv).1
      rw [fa_len] at this; exact this
    rw [Array.getElem?_setIfInBounds_ne (by omega)]
    exact e5 i hi hil j v hv
  · rcases h.2.2.2 i h1 h2 with g' | ⟨g', c2, e1, e2, e3, e4, rest⟩
    · exact .inl g'
    · have hne : g' ≠ r := fun e => by
        subst e
        rw [hc] at e4
        simp only [Option.some.injEq, Obj.cells.injEq] at e4
        exact absurd e4.2.1 (by decide)
      exact .inr ⟨g', c2, e1, e2, e3, by rw [Below.heap_setCell _ _ _ _ hne]; exact e4, rest⟩
/-- The row's block. -/
theorem RowOK.blk {lo hi : Nat} {w : World} {q : Option Addr} {L : List FA} {n : Nat} {r o : Nat} (h : RowOK lo hi w q L n) (hp : n < L.length) (hq : q = some ⟨r, o, none⟩) : o = 0 ∧ lo ≤ r ∧ r < hi ∧ ∃ cur : Array Value, w.heap[r]? = some (.cells cur 40 (0, 0)) := by
  obtain ⟨r', cur, h1, h2, h3, h4, h5⟩ := h hp
  rw [hq] at h1
  simp only [Option.some.injEq, Addr.mk.injEq] at h1
  obtain ⟨rfl, rfl, _⟩ := h1
  exact ⟨rfl, h2, h3, cur, h4⟩
theorem Fls.mid {lo hi : Nat} {w w' : World} {p : Option Addr} {cap : Nat} {l : List FA} (h : Fls w p cap l) (m : Mid lo hi w w') (hn : NewF hi p l) : Fls w' p cap l :=
  ⟨Flc.midN h.1 m hn.1, fun a ha => ⟨(h.2 a ha).1, (h.2 a ha).2.1, (h.2 a ha).2.2.1, Ints.midN (h.2 a ha).2.2.2 m (hn.2 a ha)⟩⟩
theorem OwnL.newF {B : Nat} {w w' : World} {q : Option Addr} {n d : Nat} {L : List FA} (h : OwnL w w' (.slice q n d) L) (hb : B ≤ w.heap.size) : NewF B q L := by
  refine ⟨fun b o e hp => ?_, fun a ha b o e hp => ?_⟩
  · rcases h.1.1.2 with ⟨hv, hn⟩ | ⟨g, cap, cur, hv, hg, _⟩
    · omega
    · simp only [Value.slice.injEq] at hv
      rw [hv.1] at e
      simp only [Option.some.injEq, Addr.mk.injEq] at e
      have := e.1
      omega
  · rcases (h.2 a ha).2.2 with ⟨hv, hn⟩ | ⟨g, cap, cur, hv, hg, _⟩
    · omega
    · simp only [Value.slice.injEq] at hv
      rw [hv.1] at e
      simp only [Option.some.injEq, Addr.mk.injEq] at e
      have := e.1
      omega
theorem NewF.mono {B C : Nat} {q : Option Addr} {L : List FA} (h : NewF B q L) (hc : C ≤ B) : NewF C q L := ⟨fun b o e hp => Nat.le_trans hc (h.1 b o e hp), fun a ha b o e hp => Nat.le_trans hc (h.2 a ha b o e hp)⟩
theorem xor8 (m : Nat) (hm : m < 256) : ∀ x : Int, 0 ≤ x → x < 256 → 0 ≤ bits .xor .u8 x (m : Int) ∧ bits .xor .u8 x (m : Int) < 256 := by
  intro x h0 h1
  show 0 ≤ IntKind.u8.wrap ((BitVec.ofInt 8 x ^^^ BitVec.ofInt 8 (m : Int)).toNat : Nat) ∧ IntKind.u8.wrap ((BitVec.ofInt 8 x ^^^ BitVec.ofInt 8 (m : Int)).toNat : Nat) < 256
  rw [IntKind.wrap_u8]
  omega
end Go.Proofs.Ytbcmfgohbppndaa
