import Derived.Test.YtbepkmehnghmcaaIH

/-
  Layer 5: the document's Put.
-/
namespace Go.Proofs.Ytbepkmehnghmcaa
open Go.RowKit
set_option linter.unusedVariables false

theorem al2' (w : World) (a b : Obj) {B : Nat} (h : B ≤ w.heap.size) : Below B w ((w.alloc a).alloc b) := ((Below.refl _ _).alloc h _).alloc (by simp; omega) _
theorem Box.mid {w w' : World} {g lo hi : Nat} {cs : Array Value} {t : TypeId} (h : Box w g cs t) (m : Mid lo hi w w') (hg : g < lo ∨ hi ≤ g) : Box w' g cs t := (m.2 g h.lt hg).trans h

set_option maxRecDepth 100000 in
set_option maxHeartbeats 4000000 in
theorem rput_F (B : Nat) (ds fs is : List Int) (bs : List Bool) (pd pi pb : Option Addr) (cd cf ci cb b o : Nat) (U : Ten) (C : TA) (i k : Nat) (w : World)
    (h : TenOwn B w (1, ds, fs, is, bs) ⟨pd, cd, some ⟨b, o, none⟩, cf, pi, ci, pb, cb⟩) (h2 : TenIn w U C) (hB : B ≤ w.heap.size) (hi : i < fs.length) (hk : k < U.2.2.1.length) :
    Calls Try.prog 53 #[tenV (1, ds, fs, is, bs) ⟨pd, cd, some ⟨b, o, none⟩, cf, pi, ci, pb, cb⟩, .int .i64 i, tenV U C, .int .i64 k] w fun e w' => e = .returned (.tuple #[]) ∧ TenOwn B w' (1, ds, fs.set i (U.2.2.1.getD k 0), is, bs) ⟨pd, cd, some ⟨b, o, none⟩, cf, pi, ci, pb, cb⟩ ∧ Below B w w' ∧ Mid b (b + 1) w w' := by
  obtain ⟨uy, us, gs, js, cs⟩ := U
  obtain ⟨qd, ed, qf, ef, qi, ei, qb, eb⟩ := C
  have H := hide h
  simp only at hk
  obtain ⟨e0, e1, e2, e3, e4⟩ := h2
  simp only at e0 e1 e2 e3 e4
  have n1 : fs.length ≤ 9223372036854775807 := (unhide H).1.2.2.1.len
  have n2 : gs.length ≤ 9223372036854775807 := e2.len
  obtain ⟨b1, o1, hq, hb1, hc1⟩ := e2.lies (by omega)
  subst hq
  have k1 := hc1 k hk
  obtain ⟨b2, o2, hq2, hb2, hc2⟩ := (unhide H).1.2.2.1.lies (show 0 < fs.length by omega)
  simp only [Option.some.injEq, Addr.mk.injEq] at hq2
  obtain ⟨rfl, rfl, _⟩ := hq2
  have k2 := hc2 i hi
  have z2 : w.frozen? ⟨b, o + i, none⟩ = false := ((unhide H).2.2.1 b o rfl (show 0 < fs.length by omega)).2 i hi
  have hBb : B ≤ b := ((unhide H).2.2.1 b o rfl (show 0 < fs.length by omega)).1
  have hik : (i : Int) < (fs.length : Int) := by omega
  have hkk : (k : Int) < (gs.length : Int) := by omega
  have O2 := hide ((unhide H).storeF i hi (gs.getD k 0) (e2.wf k hk))
  simp only at k1 k2 ⊢
  unfold tenV tenCells
  simp only
  clear hc1 hc2 e0 e1 e2 e3 e4 h
  generalize gs.getD k 0 = x at k1 O2 ⊢
  generalize fs.getD i 0 = x2 at k2
  go_enter Try.func53, Try.ntmps53
  go_wp2_with fail
  go_region
  go_wp2_with fail
  exact bodyPost_end (v := .tuple #[]) (by simp [results, Try.results53]) rfl ⟨rfl, ((unhide O2).below (al2 _ _ _)).below (bdrew _), ((((Below.refl _ _).setCell hBb _).alloc (by simp [World.setCell]; exact hB) _).alloc (by simp [World.setCell]; omega) _).drew, ((((Mid.refl _ _ _).setCell (Nat.le_refl _) (Nat.lt_succ_self _) _).below (al2 _ _ _)).below (bdrew _))⟩

set_option maxRecDepth 100000 in
set_option maxHeartbeats 4000000 in
theorem rput_I (B : Nat) (ds fs is : List Int) (bs : List Bool) (pd pf pb : Option Addr) (cd cf ci cb b o : Nat) (U : Ten) (C : TA) (i k : Nat) (w : World)
    (h : TenOwn B w (7, ds, fs, is, bs) ⟨pd, cd, pf, cf, some ⟨b, o, none⟩, ci, pb, cb⟩) (h2 : TenIn w U C) (hB : B ≤ w.heap.size) (hi : i < is.length) (hk : k < U.2.2.2.1.length) :
    Calls Try.prog 53 #[tenV (7, ds, fs, is, bs) ⟨pd, cd, pf, cf, some ⟨b, o, none⟩, ci, pb, cb⟩, .int .i64 i, tenV U C, .int .i64 k] w fun e w' => e = .returned (.tuple #[]) ∧ TenOwn B w' (7, ds, fs, is.set i (U.2.2.2.1.getD k 0), bs) ⟨pd, cd, pf, cf, some ⟨b, o, none⟩, ci, pb, cb⟩ ∧ Below B w w' ∧ Mid b (b + 1) w w' := by
  obtain ⟨uy, us, gs, js, cs⟩ := U
  obtain ⟨qd, ed, qf, ef, qi, ei, qb, eb⟩ := C
  have H := hide h
  simp only at hk
  obtain ⟨e0, e1, e2, e3, e4⟩ := h2
  simp only at e0 e1 e2 e3 e4
  have n1 : is.length ≤ 9223372036854775807 := (unhide H).1.2.2.2.1.len
  have n2 : js.length ≤ 9223372036854775807 := e3.len
  obtain ⟨b1, o1, hq, hb1, hc1⟩ := e3.lies (by omega)
  subst hq
  have k1 := hc1 k hk
  obtain ⟨b2, o2, hq2, hb2, hc2⟩ := (unhide H).1.2.2.2.1.lies (show 0 < is.length by omega)
  simp only [Option.some.injEq, Addr.mk.injEq] at hq2
  obtain ⟨rfl, rfl, _⟩ := hq2
  have k2 := hc2 i hi
  have z2 : w.frozen? ⟨b, o + i, none⟩ = false := ((unhide H).2.2.2.1 b o rfl (show 0 < is.length by omega)).2 i hi
  have hBb : B ≤ b := ((unhide H).2.2.2.1 b o rfl (show 0 < is.length by omega)).1
  have hik : (i : Int) < (is.length : Int) := by omega
  have hkk : (k : Int) < (js.length : Int) := by omega
  have O2 := hide ((unhide H).storeI i hi (js.getD k 0) (e3.wf k hk))
  simp only at k1 k2 ⊢
  unfold tenV tenCells
  simp only
  clear hc1 hc2 e0 e1 e2 e3 e4 h
  generalize js.getD k 0 = x at k1 O2 ⊢
  generalize is.getD i 0 = x2 at k2
  go_enter Try.func53, Try.ntmps53
  go_wp2_with fail
  go_region
  go_wp2_with fail
  exact bodyPost_end (v := .tuple #[]) (by simp [results, Try.results53]) rfl ⟨rfl, ((unhide O2).below (al2 _ _ _)).below (bdrew _), ((((Below.refl _ _).setCell hBb _).alloc (by simp [World.setCell]; exact hB) _).alloc (by simp [World.setCell]; omega) _).drew, ((((Mid.refl _ _ _).setCell (Nat.le_refl _) (Nat.lt_succ_self _) _).below (al2 _ _ _)).below (bdrew _))⟩

set_option maxRecDepth 100000 in
set_option maxHeartbeats 4000000 in
theorem rput_B (B : Nat) (ds fs is : List Int) (bs : List Bool) (pd pf pi : Option Addr) (cd cf ci cb b o : Nat) (U : Ten) (C : TA) (i k : Nat) (w : World)
    (h : TenOwn B w (9, ds, fs, is, bs) ⟨pd, cd, pf, cf, pi, ci, some ⟨b, o, none⟩, cb⟩) (h2 : TenIn w U C) (hB : B ≤ w.heap.size) (hi : i < bs.length) (hk : k < U.2.2.2.2.length) :
    Calls Try.prog 53 #[tenV (9, ds, fs, is, bs) ⟨pd, cd, pf, cf, pi, ci, some ⟨b, o, none⟩, cb⟩, .int .i64 i, tenV U C, .int .i64 k] w fun e w' => e = .returned (.tuple #[]) ∧ TenOwn B w' (9, ds, fs, is, bs.set i (U.2.2.2.2.getD k false)) ⟨pd, cd, pf, cf, pi, ci, some ⟨b, o, none⟩, cb⟩ ∧ Below B w w' ∧ Mid b (b + 1) w w' := by
  obtain ⟨uy, us, gs, js, cs⟩ := U
  obtain ⟨qd, ed, qf, ef, qi, ei, qb, eb⟩ := C
  have H := hide h
  simp only at hk
  obtain ⟨e0, e1, e2, e3, e4⟩ := h2
  simp only at e0 e1 e2 e3 e4
  have n1 : bs.length ≤ 9223372036854775807 := (unhide H).1.2.2.2.2.len
  have n2 : cs.length ≤ 9223372036854775807 := e4.len
  obtain ⟨b1, o1, hq, hb1, hc1⟩ := e4.lies (by omega)
  subst hq
  have k1 := hc1 k hk
  obtain ⟨b2, o2, hq2, hb2, hc2⟩ := (unhide H).1.2.2.2.2.lies (show 0 < bs.length by omega)
  simp only [Option.some.injEq, Addr.mk.injEq] at hq2
  obtain ⟨rfl, rfl, _⟩ := hq2
  have k2 := hc2 i hi
  have z2 : w.frozen? ⟨b, o + i, none⟩ = false := ((unhide H).2.2.2.2.1 b o rfl (show 0 < bs.length by omega)).2 i hi
  have hBb : B ≤ b := ((unhide H).2.2.2.2.1 b o rfl (show 0 < bs.length by omega)).1
  have hik : (i : Int) < (bs.length : Int) := by omega
  have hkk : (k : Int) < (cs.length : Int) := by omega
  have e9 : ∀ (l : List Bool) n, l.getD n default = l.getD n false := fun _ _ => rfl
  simp only [e9] at k1 k2
  have O2 := hide ((unhide H).storeB i hi (cs.getD k false))
  simp only at k1 k2 ⊢
  unfold tenV tenCells
  simp only
  clear hc1 hc2 e0 e1 e2 e3 e4 h e9
  generalize cs.getD k false = x at k1 O2 ⊢
  generalize bs.getD i false = x2 at k2
  go_enter Try.func53, Try.ntmps53
  go_wp2_with fail
  go_region
  go_wp2_with fail
  exact bodyPost_end (v := .tuple #[]) (by simp [results, Try.results53]) rfl ⟨rfl, ((unhide O2).below (al2 _ _ _)).below (bdrew _), ((((Below.refl _ _).setCell hBb _).alloc (by simp [World.setCell]; exact hB) _).alloc (by simp [World.setCell]; omega) _).drew, ((((Mid.refl _ _ _).setCell (Nat.le_refl _) (Nat.lt_succ_self _) _).below (al2 _ _ _)).below (bdrew _))⟩
end Go.Proofs.Ytbepkmehnghmcaa
