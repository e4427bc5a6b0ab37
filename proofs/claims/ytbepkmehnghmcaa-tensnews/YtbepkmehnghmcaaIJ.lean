import Derived.Test.YtbepkmehnghmcaaII

/-
  Layer 5: the document's Pick.
-/
namespace Go.Proofs.Ytbepkmehnghmcaa
open Go.RowKit
set_option linter.unusedVariables false

theorem TenOwn.mid {B lo hi : Nat} {w w' : World} {T : Ten} {A : TA} (h : TenOwn B w T A) (m : Mid lo hi w w') (hB : hi ≤ B) : TenOwn B w' T A := by
  obtain ⟨⟨g0, g1, g2, g3, g4⟩, h1, h2, h3, h4, h5⟩ := h
  have a1 : ∀ b o, A.pd = some ⟨b, o, none⟩ → 0 < T.2.1.length → b < lo ∨ hi ≤ b := fun b o e hp => .inr (Nat.le_trans hB (h1 b o e hp).1)
  have a2 : ∀ b o, A.pf = some ⟨b, o, none⟩ → 0 < T.2.2.1.length → b < lo ∨ hi ≤ b := fun b o e hp => .inr (Nat.le_trans hB (h2 b o e hp).1)
  have a3 : ∀ b o, A.pi = some ⟨b, o, none⟩ → 0 < T.2.2.2.1.length → b < lo ∨ hi ≤ b := fun b o e hp => .inr (Nat.le_trans hB (h3 b o e hp).1)
  have a4 : ∀ b o, A.pb = some ⟨b, o, none⟩ → 0 < T.2.2.2.2.length → b < lo ∨ hi ≤ b := fun b o e hp => .inr (Nat.le_trans hB (h4 b o e hp).1)
  exact ⟨⟨g0, (g1.ls.mid m a1).ints g1.2.2.1, (g2.ls.mid m a2).ints g2.2.2.1, (g3.ls.mid m a3).ints g3.2.2.1, g4.mid m a4⟩, h1.mid g1.ls rfl m a1, h2.mid g2.ls rfl m a2, h3.mid g3.ls rfl m a3, h4.mid g4 rfl m a4, h5⟩
def pkI (xs : List Int) (a : Int) : Int := if a < 0 then 0 else xs.getD a.toNat 0
def pkB (xs : List Bool) (a : Int) : Bool := if a < 0 then false else xs.getD a.toNat false
def haveN (T : Ten) : Nat := T.2.2.1.length + T.2.2.2.1.length + T.2.2.2.2.length
/-- Pick: the tensor and the error. -/
def pickE (T : Ten) (ds at' : List Int) : Int :=
  if checkV T ≠ 0 then checkV T else if newE T.1 ds ≠ 0 then newE T.1 ds else if (at'.length : Int) ≠ (sizeV ds).1 then 3 else if (∃ a ∈ at', a < -1 ∨ (haveN T : Int) ≤ a) then 2 else 0
def pickT (T : Ten) (ds at' : List Int) : Ten :=
  (T.1, ds, if T.1 = 1 then at'.map (pkI T.2.2.1) else [], if T.1 = 7 then at'.map (pkI T.2.2.2.1) else [], if T.1 = 9 then at'.map (pkB T.2.2.2.2) else [])
def pickV (T : Ten) (ds at' : List Int) : Ten := if pickE T ds at' = 0 then pickT T ds at' else noTen
theorem part_set {α : Type} (l : List α) (m : Nat) (z x : α) : (l ++ List.replicate (m + 1) z).set l.length x = (l ++ [x]) ++ List.replicate m z := by
  rw [List.set_append_right _ _ (Nat.le_refl _), Nat.sub_self, List.replicate_succ, List.set_cons_zero]; simp
/-- The elements picked so far, and the noughts behind them. -/
def partL {α : Type} (f : Int → α) (z : α) (at' : List Int) (n : Nat) : List α := (at'.take n).map f ++ List.replicate (at'.length - n) z
theorem partL_length {α : Type} (f : Int → α) (z : α) (at' : List Int) (n : Nat) (h : n ≤ at'.length) : (partL f z at' n).length = at'.length := by
  unfold partL; simp; omega
theorem partL_zero {α : Type} (f : Int → α) (z : α) (at' : List Int) : partL f z at' 0 = List.replicate at'.length z := by unfold partL; simp
theorem partL_all {α : Type} (f : Int → α) (z : α) (at' : List Int) (n : Nat) (h : n = at'.length) : partL f z at' n = at'.map f := by
  subst h; unfold partL; simp
theorem partL_set {α : Type} (f : Int → α) (z : α) (at' : List Int) (n : Nat) (h : n < at'.length) (x : α) (hx : x = f (at'.getD n 0)) : (partL f z at' n).set n x = partL f z at' (n + 1) := by
  unfold partL
  have e : at'.length - n = (at'.length - (n + 1)) + 1 := by omega
  have el : ((at'.take n).map f).length = n := by simp; omega
  rw [e]
  have := part_set ((at'.take n).map f) (at'.length - (n + 1)) z x
  rw [el] at this
  rw [this, take_succ at' n h, List.map_append, hx]; rfl
theorem partL_skip {α : Type} (f : Int → α) (z : α) (at' : List Int) (n : Nat) (h : n < at'.length) (hx : f (at'.getD n 0) = z) : partL f z at' n = partL f z at' (n + 1) := by
  rw [← partL_set f z at' n h z hx.symm]
  unfold partL
  have e : at'.length - n = (at'.length - (n + 1)) + 1 := by omega
  have el : ((at'.take n).map f).length = n := by simp; omega
  rw [e]
  have := part_set ((at'.take n).map f) (at'.length - (n + 1)) z z
  rw [el] at this
  rw [this, List.replicate_succ]; simp
theorem check_known {T : Ten} (h : checkV T = 0) : known T.1 = true ∧ (sizeV T.2.1).2 = 0 := by
  unfold checkV at h
  by_cases c1 : known T.1 = false
  · rw [if_pos c1] at h; cases h
  · rw [if_neg c1] at h
    refine ⟨by simpa using c1, ?_⟩
    by_cases c2 : (sizeV T.2.1).2 ≠ 0
    · rw [if_pos c2] at h; exact h
    · simpa using c2
theorem check_lens {T : Ten} (h : checkV T = 0) : (T.2.2.1.length : Int) = (if T.1 = 1 then (sizeV T.2.1).1 else 0) ∧ (T.2.2.2.1.length : Int) = (if T.1 = 7 then (sizeV T.2.1).1 else 0) ∧ (T.2.2.2.2.length : Int) = (if T.1 = 9 then (sizeV T.2.1).1 else 0) := by
  have hh := h
  obtain ⟨k1, k2⟩ := check_known h
  unfold checkV at hh
  rw [if_neg (by rw [k1]; decide), if_neg (by rw [k2]; simp)] at hh
  by_cases c : (T.2.2.1.length : Int) = (if T.1 = 1 then (sizeV T.2.1).1 else 0) ∧ (T.2.2.2.1.length : Int) = (if T.1 = 7 then (sizeV T.2.1).1 else 0) ∧ (T.2.2.2.2.length : Int) = (if T.1 = 9 then (sizeV T.2.1).1 else 0)
  · exact c
  · rw [if_neg c] at hh; cases hh
theorem check_small {T : Ten} (h : checkV T = 0) : T.2.2.1.length ≤ 4096 ∧ T.2.2.2.1.length ≤ 4096 ∧ T.2.2.2.2.length ≤ 4096 := by
  obtain ⟨a, b, c⟩ := check_lens h
  obtain ⟨n, hn, h4⟩ := size_nat T.2.1
  rw [hn] at a b c
  refine ⟨?_, ?_, ?_⟩
  · split at a <;> omega
  · split at b <;> omega
  · split at c <;> omega

set_option maxRecDepth 100000 in
set_option maxHeartbeats 4000000 in
theorem rpick_check (T : Ten) (A : TA) (p2 p3 : Option Addr) (c2 c3 : Nat) (ds2 at' : List Int) (w : World) (h : TenIn w T A) (h2 : Ints .i64 w p2 c2 ds2) (h3 : Ints .i64 w p3 c3 at') (hc : checkV T ≠ 0) :
    Calls Try.prog 25 #[tenV T A, .slice p2 ds2.length c2, .slice p3 at'.length c3] w fun e w' => (∃ C, e = .returned (.tuple #[tenV (pickV T ds2 at') C, .int .i64 (pickE T ds2 at')]) ∧ TenOwn w.heap.size w' (pickV T ds2 at') C) ∧ Below w.heap.size w w' := by
  obtain ⟨ty, ds, fs, is, bs⟩ := T
  obtain ⟨pd, cd, pf, cf, pi, ci, pb, cb⟩ := A
  have e1 : pickE (ty, ds, fs, is, bs) ds2 at' = checkV (ty, ds, fs, is, bs) := by unfold pickE; rw [if_pos hc]
  have e2 : pickV (ty, ds, fs, is, bs) ds2 at' = noTen := by unfold pickV; rw [if_neg (by rw [e1]; exact hc)]
  rw [e1, e2]
  have CK := hide (fun w h => rcheck_any (ty, ds, fs, is, bs) ⟨pd, cd, pf, cf, pi, ci, pb, cb⟩ w h)
  obtain ⟨E, hE⟩ : ∃ E, checkV (ty, ds, fs, is, bs) = E := ⟨_, rfl⟩
  rw [hE] at CK hc ⊢
  have hen : (E != 0) = true := by simp [hc]
  have H := hide h
  unfold tenV tenCells at CK
  simp only at CK
  unfold tenV tenCells
  simp only
  clear e1 e2 hE hc h h2 h3
  go_enter Try.func25, Try.ntmps25
  go_wp2_with fail
  refine (unhide CK _ ((unhide H).below (al2 _ _ _))).mono ?_
  rintro e w1 ⟨rfl, hb⟩
  have X1 := hide (Box.below (Box.new (w.alloc _) #[.int .i64 0, .slice none 0 0, .slice none 0 0, .slice none 0 0, .slice none 0 0] 27) hb)
  simp only [alloc_size] at X1
  have B1 := hide (bl_tr (al2 _ _ _) hb)
  have x1 := (unhide X1).cell
  have y1 := (unhide X1).frozen
  have z1 := (unhide X1).lt
  clear hb CK
  go_wp2_with fail
  exact bodyPost_ret (v := .tuple #[tenV noTen noTA, .int .i64 E]) (by simp [results, Try.results25, go_sem, tenV, tenCells, noTen, noTA, x1]) rfl ⟨⟨noTA, rfl, noTen_own _ _⟩, (((((unhide B1).setCell (by simp) _).setCell (by simp) _).setCell (by simp) _).setCell (by simp) _).setCell (by simp) _⟩
end Go.Proofs.Ytbepkmehnghmcaa
