import Derived.Test.YtbcmfgohbppndaaKJ
import Derived.Deep.RegionLawGrows
import Derived.Deep.RegionHeld3

/-
  Layer 6: what the walks of fields lean on.
-/
namespace Go.Proofs.Ytbcmfgohbppndaa
open Go.RowKit
set_option linter.unusedVariables false

theorem alloc_size6 (w : World) (o : Obj) : (w.alloc o).heap.size = w.heap.size + 1 := by simp
theorem al2p (w : World) (a b : Obj) : Below w.heap.size w ((w.alloc a).alloc b) := ((Below.refl _ _).alloc (Nat.le_refl _) _).alloc (by simp) _
theorem i64_wf {x : Int} (h0 : -9223372036854775808 ≤ x) (h1 : x ≤ 9223372036854775807) : (Lit.int .i64 x).wf = true := by
  simp [Lit.wf, IntKind.min, IntKind.max, IntKind.signed, IntKind.bits]; omega
theorem u64_wf {x : Int} (h0 : 0 ≤ x) (h1 : x < 18446744073709551616) : (Lit.int .u64 x).wf = true := by
  simp [Lit.wf, IntKind.min, IntKind.max, IntKind.signed, IntKind.bits]; omega
theorem nil8 (w : World) : Ints .u8 w none 0 [] := ⟨by simp, by omega, by simp, by simp, fun _ => rfl⟩
/-- 'append(nil, xs...)' as one step of a region that draws. -/
theorem step_append_nil {α : Type} {f : α → Value} {P : Program} {ops : Array Oper} {o : Oper} {a : Act} {w : World} {K : Act → World → Prop} {Q : Exit → Act → World → Prop} {E : Prop} (hg : o.guard = none) (s x : Operand) (t : TypeId)
    (hop : o.op = Op.call { callee := Callee.builtin Builtin.append, args := #[s, x], argTypes := #[t, t] }) (e : TypeId) (i : TypeInfo) (z : Value) (bytes : Nat)
    (h1 : P.underlying t = some (.slice e)) (h2 : P.info? e = some i) (h3 : i.zero = some z) (h4 : i.size = 1) (h5 : i.bytes = bytes) (h6 : z.cells.size = 1) (hf : ∀ y, (f y).oneCell' = true)
    (hs : a.eval s = .slice none 0 0) (xs : List α) (ad : Addr) (c : Nat) (hx : a.eval x = .slice (some ad) xs.length c) (hc : ∀ j u, (xs.map f)[j]? = some u → w.cell? (ad.add j) = some u)
    (b1 : xs.length ≤ maxLen) (b2 : xs.length * bytes ≤ 140737488355328) (hK : ∀ v' w', OwnG e f w w' v' xs → K (a.put o.dst v') w') :
    if Region.wanted o (yielded ops a.tmps) = true then Oper.wp P o a w K Q else E := by
  have hw : Region.wanted o (yielded ops a.tmps) = true := by simp [Region.wanted, hg]
  rw [if_pos hw]
  obtain ⟨v', w', hrun, r1, r2, _⟩ := run_append_own (P := P) w w.heap.size t o.type e i z 1 bytes h1 h2 h3 h4 h5 h6 (by decide) (.slice none 0 0) 0 [] (World.ownsRow_nil w _ e 1) ad xs.length c (xs.map f) (by simp) hc (fun u hu => by obtain ⟨y, _, rfl⟩ := List.mem_map.1 hu; exact hf y) (by omega) (by rw [Nat.zero_add]; exact b2) (Nat.le_refl _)
  unfold Oper.wp
  simp [execOp, hop, resolve, invoke, builtin, hs, hx, hrun, Result.andThen]
  refine hK v' w' ⟨?_, (Below.refl _ _).grown r2 (Nat.le_refl _) (fun k hk => by cases hk)⟩
  rw [Nat.zero_add, List.nil_append] at r1
  exact r1
theorem Ls.far {α : Type} [Inhabited α] {f : α → Value} {w : World} {p : Option Addr} {c b k : Nat} {v : Value} {xs : List α} (h : Ls f w p c xs) (hne : ∀ b' o', p = some ⟨b', o', none⟩ → 0 < xs.length → b' ≠ b) : Ls f (w.setCell ⟨b, k, none⟩ v) p c xs := by
  obtain ⟨h1, h2, h4, h5⟩ := h
  refine ⟨h1, h2, fun hp => ?_, h5⟩
  obtain ⟨b', o', e, g1, g2⟩ := h4 hp
  exact ⟨b', o', e, by simpa [World.setCell] using g1, fun i hi => (World.cell?_setCell_other _ _ _ _ (fun h => hne b' o' e hp (by simp only [Addr.mk.injEq] at h; omega))).trans (g2 i hi)⟩
theorem Fresh.set {B : Nat} {w : World} {p : Option Addr} {n : Nat} (h : Fresh B w p n) (a : Addr) (v : Value) : Fresh B (w.setCell a v) p n :=
  fun b o e hp => ⟨(h b o e hp).1, fun i hi => by rw [World.frozen?_setCell]; exact (h b o e hp).2 i hi⟩
theorem ls_cells {α : Type} [Inhabited α] {f : α → Value} {w : World} {ad : Addr} {c : Nat} {xs : List α} (hl : Ls f w (some ad) c xs) : ∀ j u, (xs.map f)[j]? = some u → w.cell? (ad.add j) = some u := by
  rcases Nat.eq_zero_or_pos xs.length with g | g
  · have : xs = [] := List.eq_nil_of_length_eq_zero g
    subst this
    intro j u hj; simp at hj
  · obtain ⟨b, o, e, hb, hc⟩ := hl.lies g
    simp only [Option.some.injEq] at e
    subst e; exact lsMap_cells hc
theorem Ls.far5 {α : Type} [Inhabited α] {f : α → Value} {w : World} {p : Option Addr} {c g r B : Nat} {xs : List α} (h : Ls f w p c xs) (hF : Fresh B w p xs.length) (hg : g < B) (hr : r < B) (j : Nat) (u u0 u1 u2 u3 : Value) :
    Ls f (((((w.setCell ⟨g, j, none⟩ u).setCell ⟨r, 0, none⟩ u0).setCell ⟨r, 1, none⟩ u1).setCell ⟨r, 2, none⟩ u2).setCell ⟨r, 3, none⟩ u3) p c xs := by
  have h1 : ∀ b o, p = some ⟨b, o, none⟩ → 0 < xs.length → b ≠ g := fun b o e hp => by have := (hF b o e hp).1; omega
  have h2 : ∀ b o, p = some ⟨b, o, none⟩ → 0 < xs.length → b ≠ r := fun b o e hp => by have := (hF b o e hp).1; omega
  exact ((((h.far h1).far h2).far h2).far h2).far h2
theorem Fresh.set5 {B : Nat} {w : World} {p : Option Addr} {n g r : Nat} (h : Fresh B w p n) (j : Nat) (u u0 u1 u2 u3 : Value) :
    Fresh B (((((w.setCell ⟨g, j, none⟩ u).setCell ⟨r, 0, none⟩ u0).setCell ⟨r, 1, none⟩ u1).setCell ⟨r, 2, none⟩ u2).setCell ⟨r, 3, none⟩ u3) p n :=
  ((((h.set _ _).set _ _).set _ _).set _ _).set _ _
/-- The bytes of a field lie in a block of bytes. -/
def DTy (t : TypeId) (w : World) (a : FA) : Prop := 0 < a.d.length → ∃ b o cur, a.q = some ⟨b, o, none⟩ ∧ w.heap[b]? = some (.cells cur t (0, 0))
theorem DTy.below {t : TypeId} {w w' : World} {a : FA} (h : DTy t w a) (hb : Below w.heap.size w w') : DTy t w' a := fun hp => by
  obtain ⟨b, o, cur, e, hh⟩ := h hp
  exact ⟨b, o, cur, e, (hb.block b (lt_of_block hh)).trans hh⟩
theorem OwnG.typed {α : Type} {f : α → Value} {t : TypeId} {w wr : World} {p : Option Addr} {n c : Nat} {os : List α} (h : OwnG t f w wr (.slice p n c) os) (hp : 0 < os.length) : ∃ b o cur, p = some ⟨b, o, none⟩ ∧ w.heap.size ≤ b ∧ wr.heap[b]? = some (.cells cur t (0, 0)) := by
  rcases h.1.2 with ⟨hv, hn⟩ | ⟨g, cap, cur, hv, hb, hh, _⟩
  · omega
  · simp only [Value.slice.injEq] at hv
    exact ⟨g, 0, cur, hv.1, hb, hh⟩
theorem FaIn.grown {t e : TypeId} {w w0 w' : World} {a : FA} {v : Value} {l : List FA} (h : FaIn w a) (hd : DTy t w a) (ho : OwnF e w0 w v l) (hne : ¬ e = t) (hg : w.grownBy w' v.ownBlock) : FaIn w' a ∧ DTy t w' a := by
  have key : ∀ (b : Nat) (cur : Array Value), w.heap[b]? = some (Obj.cells cur t (0, 0)) → w'.heap[b]? = w.heap[b]? := fun b cur hb => by
    refine hg.block b (lt_of_block hb) (fun e2 => ?_)
    rcases ho.1.2 with ⟨hv, _⟩ | ⟨k, cap, cur2, hv, _, hh, _⟩
    · rw [hv] at e2; cases e2
    · rw [hv] at e2
      simp only [Value.ownBlock, Option.some.injEq] at e2
      subst e2
      rw [hb] at hh
      simp only [Option.some.injEq, Obj.cells.injEq] at hh
      exact hne hh.2.1.symm
  refine ⟨⟨h.1, h.2.1, h.2.2.1, ?_⟩, fun hp => ?_⟩
  · obtain ⟨g1, g2, g3, g4, g5⟩ := h.2.2.2
    refine ⟨g1, g2, g3, fun hp => ?_, g5⟩
    obtain ⟨b, o, cur, e, hh⟩ := hd hp
    obtain ⟨b', o', e', hb', hc'⟩ := g4 hp
    rw [e] at e'
    simp only [Option.some.injEq, Addr.mk.injEq] at e'
    obtain ⟨rfl, rfl, _⟩ := e'
    exact ⟨b, o, e, Nat.lt_of_lt_of_le hb' hg.size, fun i hi => (World.cell?_of_block (w := w) (key b cur hh)).trans (hc' i hi)⟩
  · obtain ⟨b, o, cur, e, hh⟩ := hd hp
    exact ⟨b, o, cur, e, (key b cur hh).trans hh⟩
theorem DTy.set5 {t : TypeId} {w : World} {a : FA} {g r B : Nat} (h : DTy t w a) (hF : Fresh B w a.q a.d.length) (hg : g < B) (hr : r < B) (j : Nat) (u u0 u1 u2 u3 : Value) :
    DTy t (((((w.setCell ⟨g, j, none⟩ u).setCell ⟨r, 0, none⟩ u0).setCell ⟨r, 1, none⟩ u1).setCell ⟨r, 2, none⟩ u2).setCell ⟨r, 3, none⟩ u3) a := fun hp => by
  obtain ⟨b, o, cur, e, hh⟩ := h hp
  have hb := (hF b o e hp).1
  refine ⟨b, o, cur, e, ?_⟩
  rw [Below.heap_setCell _ _ _ _ (by simp; omega), Below.heap_setCell _ _ _ _ (by simp; omega), Below.heap_setCell _ _ _ _ (by simp; omega), Below.heap_setCell _ _ _ _ (by simp; omega), Below.heap_setCell _ _ _ _ (by simp; omega)]
  exact hh
end Go.Proofs.Ytbcmfgohbppndaa
