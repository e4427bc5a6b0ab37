import Derived.Test.YtbepkmehnghmcaaIF

/-
  Layer 5: stores into a tensor that is one's own; what the statements write over.
-/
namespace Go.Proofs.Ytbepkmehnghmcaa
open Go.RowKit
set_option linter.unusedVariables false

theorem Ls.store {α : Type} [Inhabited α] {f : α → Value} {w : World} {b o c : Nat} {xs : List α} (h : Ls f w (some ⟨b, o, none⟩) c xs) (i : Nat) (hi : i < xs.length) (x : α) :
    Ls f (w.setCell ⟨b, o + i, none⟩ (f x)) (some ⟨b, o, none⟩) c (xs.set i x) := by
  obtain ⟨b', o', e, g1, g2⟩ := h.lies (by omega)
  simp only [Option.some.injEq, Addr.mk.injEq] at e
  obtain ⟨rfl, rfl, _⟩ := e
  refine ⟨by simpa using h.1, h.2.1, fun hp => ⟨b, o, rfl, by simpa [World.setCell] using g1, fun j hj => ?_⟩, fun h => by cases h⟩
  rw [List.length_set] at hj
  by_cases e : i = j
  · subst e
    rw [World.cell?_setCell_same _ _ _ (g2 i hi), List.getD_eq_getElem?_getD, List.getElem?_set]
    simp [hi]
  · rw [World.cell?_setCell_other _ _ _ _ (fun h => e (by simp only [Addr.mk.injEq] at h; omega)), g2 j hj, List.getD_eq_getElem?_getD, List.getD_eq_getElem?_getD, List.getElem?_set, if_neg e]
theorem Ls.far {α : Type} [Inhabited α] {f : α → Value} {w : World} {p : Option Addr} {c b k : Nat} {v : Value} {xs : List α} (h : Ls f w p c xs) (hne : ∀ b' o', p = some ⟨b', o', none⟩ → 0 < xs.length → b' ≠ b) : Ls f (w.setCell ⟨b, k, none⟩ v) p c xs := by
  obtain ⟨h1, h2, h4, h5⟩ := h
  refine ⟨h1, h2, fun hp => ?_, h5⟩
  obtain ⟨b', o', e, g1, g2⟩ := h4 hp
  exact ⟨b', o', e, by simpa [World.setCell] using g1, fun i hi => (World.cell?_setCell_other _ _ _ _ (fun h => hne b' o' e hp (by simp only [Addr.mk.injEq] at h; omega))).trans (g2 i hi)⟩
theorem Fresh.set {B : Nat} {w : World} {p : Option Addr} {n : Nat} (h : Fresh B w p n) (a : Addr) (v : Value) : Fresh B (w.setCell a v) p n :=
  fun b o e hp => ⟨(h b o e hp).1, fun i hi => by rw [World.frozen?_setCell]; exact (h b o e hp).2 i hi⟩
theorem wf_set {k : IntKind} {xs : List Int} {i : Nat} {x : Int} (h : ∀ y ∈ xs, (Lit.int k y).wf = true) (hx : (Lit.int k x).wf = true) : ∀ y ∈ xs.set i x, (Lit.int k y).wf = true := by
  intro y hy
  rcases List.mem_or_eq_of_mem_set hy with g | g
  · exact h y g
  · rw [g]; exact hx
theorem apart_len {p q : Option Addr} {n m n' m' : Nat} (h : Apart p q n m) (h1 : n' = n) (h2 : m' = m) : Apart p q n' m' := by subst h1; subst h2; exact h
theorem Apart.symm {p q : Option Addr} {n m : Nat} (h : Apart p q n m) : Apart q p m n := fun b o c u h1 h2 g1 g2 e => h c u b o h2 h1 g2 g1 e.symm
theorem TenOwn.storeD {B : Nat} {w : World} {ty : Int} {ds fs is : List Int} {bs : List Bool} {pf pi pb : Option Addr} {cd cf ci cb b o : Nat} (h : TenOwn B w (ty, ds, fs, is, bs) ⟨some ⟨b, o, none⟩, cd, pf, cf, pi, ci, pb, cb⟩) (i : Nat) (hi : i < ds.length) (x : Int) (hx : (Lit.int .i64 x).wf = true) :
    TenOwn B (w.setCell ⟨b, o + i, none⟩ (.int .i64 x)) (ty, ds.set i x, fs, is, bs) ⟨some ⟨b, o, none⟩, cd, pf, cf, pi, ci, pb, cb⟩ := by
  obtain ⟨⟨g0, g1, g2, g3, g4⟩, h1, h2, h3, h4, h5, h6, h7, h8, h9, h10⟩ := h
  simp only at g0 g1 g2 g3 g4 h1 h2 h3 h4 h5 h6 h7 h8 h9 h10
  refine ⟨⟨g0, (g1.ls.store i hi x).ints (wf_set g1.2.2.1 hx), (g2.ls.far (fun b' o' e hp => Ne.symm (h5 b o b' o' rfl e (by omega) hp))).ints g2.2.2.1, (g3.ls.far (fun b' o' e hp => Ne.symm (h6 b o b' o' rfl e (by omega) hp))).ints g3.2.2.1, g4.far (fun b' o' e hp => Ne.symm (h7 b o b' o' rfl e (by omega) hp))⟩, ?_⟩
  exact ⟨(by rw [List.length_set]; exact h1.set _ _), h2.set _ _, h3.set _ _, h4.set _ _, apart_len h5 (by simp) (rfl), apart_len h6 (by simp) (rfl), apart_len h7 (by simp) (rfl), apart_len h8 (rfl) (rfl), apart_len h9 (rfl) (rfl), apart_len h10 (rfl) (rfl)⟩
theorem TenOwn.storeF {B : Nat} {w : World} {ty : Int} {ds fs is : List Int} {bs : List Bool} {pd pi pb : Option Addr} {cd cf ci cb b o : Nat} (h : TenOwn B w (ty, ds, fs, is, bs) ⟨pd, cd, some ⟨b, o, none⟩, cf, pi, ci, pb, cb⟩) (i : Nat) (hi : i < fs.length) (x : Int) (hx : (Lit.int .u32 x).wf = true) :
    TenOwn B (w.setCell ⟨b, o + i, none⟩ (.int .u32 x)) (ty, ds, fs.set i x, is, bs) ⟨pd, cd, some ⟨b, o, none⟩, cf, pi, ci, pb, cb⟩ := by
  obtain ⟨⟨g0, g1, g2, g3, g4⟩, h1, h2, h3, h4, h5, h6, h7, h8, h9, h10⟩ := h
  simp only at g0 g1 g2 g3 g4 h1 h2 h3 h4 h5 h6 h7 h8 h9 h10
  refine ⟨⟨g0, (g1.ls.far (fun b' o' e hp => h5 b' o' b o e rfl hp (by omega))).ints g1.2.2.1, (g2.ls.store i hi x).ints (wf_set g2.2.2.1 hx), (g3.ls.far (fun b' o' e hp => Ne.symm (h8 b o b' o' rfl e (by omega) hp))).ints g3.2.2.1, g4.far (fun b' o' e hp => Ne.symm (h9 b o b' o' rfl e (by omega) hp))⟩, ?_⟩
  exact ⟨h1.set _ _, (by rw [List.length_set]; exact h2.set _ _), h3.set _ _, h4.set _ _, apart_len h5 (rfl) (by simp), apart_len h6 (rfl) (rfl), apart_len h7 (rfl) (rfl), apart_len h8 (by simp) (rfl), apart_len h9 (by simp) (rfl), apart_len h10 (rfl) (rfl)⟩
theorem TenOwn.storeI {B : Nat} {w : World} {ty : Int} {ds fs is : List Int} {bs : List Bool} {pd pf pb : Option Addr} {cd cf ci cb b o : Nat} (h : TenOwn B w (ty, ds, fs, is, bs) ⟨pd, cd, pf, cf, some ⟨b, o, none⟩, ci, pb, cb⟩) (i : Nat) (hi : i < is.length) (x : Int) (hx : (Lit.int .i64 x).wf = true) :
    TenOwn B (w.setCell ⟨b, o + i, none⟩ (.int .i64 x)) (ty, ds, fs, is.set i x, bs) ⟨pd, cd, pf, cf, some ⟨b, o, none⟩, ci, pb, cb⟩ := by
  obtain ⟨⟨g0, g1, g2, g3, g4⟩, h1, h2, h3, h4, h5, h6, h7, h8, h9, h10⟩ := h
  simp only at g0 g1 g2 g3 g4 h1 h2 h3 h4 h5 h6 h7 h8 h9 h10
  refine ⟨⟨g0, (g1.ls.far (fun b' o' e hp => h6 b' o' b o e rfl hp (by omega))).ints g1.2.2.1, (g2.ls.far (fun b' o' e hp => h8 b' o' b o e rfl hp (by omega))).ints g2.2.2.1, (g3.ls.store i hi x).ints (wf_set g3.2.2.1 hx), g4.far (fun b' o' e hp => Ne.symm (h10 b o b' o' rfl e (by omega) hp))⟩, ?_⟩
  exact ⟨h1.set _ _, h2.set _ _, (by rw [List.length_set]; exact h3.set _ _), h4.set _ _, apart_len h5 (rfl) (rfl), apart_len h6 (rfl) (by simp), apart_len h7 (rfl) (rfl), apart_len h8 (rfl) (by simp), apart_len h9 (rfl) (rfl), apart_len h10 (by simp) (rfl)⟩
theorem TenOwn.storeB {B : Nat} {w : World} {ty : Int} {ds fs is : List Int} {bs : List Bool} {pd pf pi : Option Addr} {cd cf ci cb b o : Nat} (h : TenOwn B w (ty, ds, fs, is, bs) ⟨pd, cd, pf, cf, pi, ci, some ⟨b, o, none⟩, cb⟩) (i : Nat) (hi : i < bs.length) (x : Bool) :
    TenOwn B (w.setCell ⟨b, o + i, none⟩ (.bool x)) (ty, ds, fs, is, bs.set i x) ⟨pd, cd, pf, cf, pi, ci, some ⟨b, o, none⟩, cb⟩ := by
  obtain ⟨⟨g0, g1, g2, g3, g4⟩, h1, h2, h3, h4, h5, h6, h7, h8, h9, h10⟩ := h
  simp only at g0 g1 g2 g3 g4 h1 h2 h3 h4 h5 h6 h7 h8 h9 h10
  refine ⟨⟨g0, (g1.ls.far (fun b' o' e hp => h7 b' o' b o e rfl hp (by omega))).ints g1.2.2.1, (g2.ls.far (fun b' o' e hp => h9 b' o' b o e rfl hp (by omega))).ints g2.2.2.1, (g3.ls.far (fun b' o' e hp => h10 b' o' b o e rfl hp (by omega))).ints g3.2.2.1, g4.store i hi x⟩, ?_⟩
  exact ⟨h1.set _ _, h2.set _ _, h3.set _ _, (by rw [List.length_set]; exact h4.set _ _), apart_len h5 (rfl) (rfl), apart_len h6 (rfl) (rfl), apart_len h7 (rfl) (by simp), apart_len h8 (rfl) (rfl), apart_len h9 (rfl) (by simp), apart_len h10 (rfl) (by simp)⟩
end Go.Proofs.Ytbepkmehnghmcaa
