import Derived.Test.YtbepkmehnghmcaaJH

/-
  Layer 5: the code's Pick.
-/
namespace Go.Proofs.Ytbepkmehnghmcaa
open Go.RowKit
set_option linter.unusedVariables false

theorem pkI_wf {k : IntKind} {xs at' : List Int} (h : ∀ x ∈ xs, (Lit.int k x).wf = true) (h0 : (Lit.int k 0).wf = true) : ∀ x ∈ at'.map (pkI xs), (Lit.int k x).wf = true := by
  intro x hx
  obtain ⟨a, _, rfl⟩ := List.mem_map.1 hx
  unfold pkI
  split
  · exact h0
  · by_cases hl : a.toNat < xs.length
    · exact h _ (getD_mem5 hl)
    · rw [List.getD_eq_getElem?_getD, List.getElem?_eq_none (by omega)]; exact h0
theorem endg_F {v w2 : World} {B r g : Nat} {k : Int} {ds : List Int} {xs : List Int} {q1 q2 : Option Addr} {d1 d2 : Nat} (hk : (Lit.int .i64 k).wf = true) (m : Below v.heap.size v w2) (hr : r < B) (hB : B ≤ v.heap.size) (hg : g < v.heap.size)
    (l1 : Ls (Value.int .i64) v q1 d1 ds) (f1 : Fresh B v q1 ds.length) (hg1 : ∀ b o, q1 = some ⟨b, o, none⟩ → 0 < ds.length → b ≠ g) (wd : ∀ x ∈ ds, (Lit.int .i64 x).wf = true) (l2 : Ls (Value.int .u32) w2 q2 d2 xs) (g2 : Fresh v.heap.size w2 q2 xs.length) (wx : ∀ x ∈ xs, (Lit.int .u32 x).wf = true) (j : Nat) (u u0 u1 u2 u3 u4 : Value) :
    TenOwn B ((((((w2.setCell ⟨g, j, none⟩ u).setCell ⟨r, 0, none⟩ u0).setCell ⟨r, 1, none⟩ u1).setCell ⟨r, 2, none⟩ u2).setCell ⟨r, 3, none⟩ u3).setCell ⟨r, 4, none⟩ u4) (k, ds, xs, [], []) ⟨q1, d1, q2, d2, none, 0, none, 0⟩ := by
  have hr1 : ∀ b o, q1 = some ⟨b, o, none⟩ → 0 < ds.length → b ≠ r := fun b o e hp => by have := (f1 b o e hp).1; omega
  have hg2 : ∀ b o, q2 = some ⟨b, o, none⟩ → 0 < xs.length → b ≠ g := fun b o e hp => by have := (g2 b o e hp).1; omega
  have hr2 : ∀ b o, q2 = some ⟨b, o, none⟩ → 0 < xs.length → b ≠ r := fun b o e hp => by have := (g2 b o e hp).1; omega
  have f2 : Fresh B w2 q2 xs.length := g2.mono hB
  have ap : Apart q1 q2 ds.length xs.length := fresh_apart l1 rfl (Nat.le_refl _) g2
  exact ⟨⟨hk, ((l1.below m).far6 hg1 hr1 _ _ _ _ _ _ _).ints wd, (l2.far6 hg2 hr2 _ _ _ _ _ _ _).ints wx, nilInts _ _, Ls.nil _⟩, (f1.below l1 rfl m).set6 _ _ _ _ _ _ _, f2.set6 _ _ _ _ _ _ _, Fresh.nil _ _, Fresh.nil _ _, ap, apart_none2, apart_none2, apart_none2, apart_none2, apart_none⟩
theorem endg_I {v w2 : World} {B r g : Nat} {k : Int} {ds : List Int} {xs : List Int} {q1 q2 : Option Addr} {d1 d2 : Nat} (hk : (Lit.int .i64 k).wf = true) (m : Below v.heap.size v w2) (hr : r < B) (hB : B ≤ v.heap.size) (hg : g < v.heap.size)
    (l1 : Ls (Value.int .i64) v q1 d1 ds) (f1 : Fresh B v q1 ds.length) (hg1 : ∀ b o, q1 = some ⟨b, o, none⟩ → 0 < ds.length → b ≠ g) (wd : ∀ x ∈ ds, (Lit.int .i64 x).wf = true) (l2 : Ls (Value.int .i64) w2 q2 d2 xs) (g2 : Fresh v.heap.size w2 q2 xs.length) (wx : ∀ x ∈ xs, (Lit.int .i64 x).wf = true) (j : Nat) (u u0 u1 u2 u3 u4 : Value) :
    TenOwn B ((((((w2.setCell ⟨g, j, none⟩ u).setCell ⟨r, 0, none⟩ u0).setCell ⟨r, 1, none⟩ u1).setCell ⟨r, 2, none⟩ u2).setCell ⟨r, 3, none⟩ u3).setCell ⟨r, 4, none⟩ u4) (k, ds, [], xs, []) ⟨q1, d1, none, 0, q2, d2, none, 0⟩ := by
  have hr1 : ∀ b o, q1 = some ⟨b, o, none⟩ → 0 < ds.length → b ≠ r := fun b o e hp => by have := (f1 b o e hp).1; omega
  have hg2 : ∀ b o, q2 = some ⟨b, o, none⟩ → 0 < xs.length → b ≠ g := fun b o e hp => by have := (g2 b o e hp).1; omega
  have hr2 : ∀ b o, q2 = some ⟨b, o, none⟩ → 0 < xs.length → b ≠ r := fun b o e hp => by have := (g2 b o e hp).1; omega
  have f2 : Fresh B w2 q2 xs.length := g2.mono hB
  have ap : Apart q1 q2 ds.length xs.length := fresh_apart l1 rfl (Nat.le_refl _) g2
  exact ⟨⟨hk, ((l1.below m).far6 hg1 hr1 _ _ _ _ _ _ _).ints wd, nilInts _ _, (l2.far6 hg2 hr2 _ _ _ _ _ _ _).ints wx, Ls.nil _⟩, (f1.below l1 rfl m).set6 _ _ _ _ _ _ _, Fresh.nil _ _, f2.set6 _ _ _ _ _ _ _, Fresh.nil _ _, apart_none2, ap, apart_none2, apart_none, apart_none, apart_none2⟩
theorem endg_B {v w2 : World} {B r g : Nat} {k : Int} {ds : List Int} {xs : List Bool} {q1 q2 : Option Addr} {d1 d2 : Nat} (hk : (Lit.int .i64 k).wf = true) (m : Below v.heap.size v w2) (hr : r < B) (hB : B ≤ v.heap.size) (hg : g < v.heap.size)
    (l1 : Ls (Value.int .i64) v q1 d1 ds) (f1 : Fresh B v q1 ds.length) (hg1 : ∀ b o, q1 = some ⟨b, o, none⟩ → 0 < ds.length → b ≠ g) (wd : ∀ x ∈ ds, (Lit.int .i64 x).wf = true) (l2 : Ls (Value.bool) w2 q2 d2 xs) (g2 : Fresh v.heap.size w2 q2 xs.length) (j : Nat) (u u0 u1 u2 u3 u4 : Value) :
    TenOwn B ((((((w2.setCell ⟨g, j, none⟩ u).setCell ⟨r, 0, none⟩ u0).setCell ⟨r, 1, none⟩ u1).setCell ⟨r, 2, none⟩ u2).setCell ⟨r, 3, none⟩ u3).setCell ⟨r, 4, none⟩ u4) (k, ds, [], [], xs) ⟨q1, d1, none, 0, none, 0, q2, d2⟩ := by
  have hr1 : ∀ b o, q1 = some ⟨b, o, none⟩ → 0 < ds.length → b ≠ r := fun b o e hp => by have := (f1 b o e hp).1; omega
  have hg2 : ∀ b o, q2 = some ⟨b, o, none⟩ → 0 < xs.length → b ≠ g := fun b o e hp => by have := (g2 b o e hp).1; omega
  have hr2 : ∀ b o, q2 = some ⟨b, o, none⟩ → 0 < xs.length → b ≠ r := fun b o e hp => by have := (g2 b o e hp).1; omega
  have f2 : Fresh B w2 q2 xs.length := g2.mono hB
  have ap : Apart q1 q2 ds.length xs.length := fresh_apart l1 rfl (Nat.le_refl _) g2
  exact ⟨⟨hk, ((l1.below m).far6 hg1 hr1 _ _ _ _ _ _ _).ints wd, nilInts _ _, nilInts _ _, (l2.far6 hg2 hr2 _ _ _ _ _ _ _)⟩, (f1.below l1 rfl m).set6 _ _ _ _ _ _ _, Fresh.nil _ _, Fresh.nil _ _, f2.set6 _ _ _ _ _ _ _, apart_none2, apart_none2, ap, apart_none, apart_none, apart_none⟩
set_option maxRecDepth 100000 in
set_option maxHeartbeats 400000 in
theorem tpick_check (T : Ten) (A : TA) (p2 p3 : Option Addr) (c2 c3 : Nat) (ds2 at' : List Int) (w : World) (h : TenIn w T A) (h2 : Ints .i64 w p2 c2 ds2) (h3 : Ints .i64 w p3 c3 at') (hc : checkV T ≠ 0) :
    Calls Try.prog 24 #[tenV T A, .slice p2 ds2.length c2, .slice p3 at'.length c3] w fun e w' => (∃ C, e = .returned (.tuple #[tenV (pickV T ds2 at') C, .int .i64 (pickE T ds2 at')]) ∧ TenOwn w.heap.size w' (pickV T ds2 at') C) ∧ Below w.heap.size w w' := by
  obtain ⟨ty, ds, fs, is, bs⟩ := T
  obtain ⟨pd, cd, pf, cf, pi, ci, pb, cb⟩ := A
  have CK := hide (fun v (hv : Below w.heap.size w v) => tcheck_any (ty, ds, fs, is, bs) ⟨pd, cd, pf, cf, pi, ci, pb, cb⟩ v (h.below hv))
  have SZ := hide (fun v (hv : Below w.heap.size w v) => csize_any p2 c2 ds2 v (h2.below hv))
  have al := h3.len
  unfold tenV tenCells at CK
  simp only at CK
  have e1 : pickE (ty, ds, fs, is, bs) ds2 at' = checkV (ty, ds, fs, is, bs) := by unfold pickE; rw [if_pos hc]
  have e2 : pickV (ty, ds, fs, is, bs) ds2 at' = noTen := by unfold pickV; rw [if_neg (by rw [e1]; exact hc)]
  rw [e1, e2]
  generalize checkV (ty, ds, fs, is, bs) = E at CK hc
  have tl : (E != 0) = true := bneT hc
  unfold tenV tenCells
  simp only
  clear e1 e2 hc h h2 h3 SZ
  go_enter Try.func24, Try.ntmps24
  go_wp2_with fail
  refine (unhide CK _ (al2 _ _ _)).mono ?_
  rintro e w1 ⟨rfl, hb⟩
  have X1 := hide (Box.below (Box.alloc (Box.new w #[.int .i64 ty, .slice pd ds.length cd, .slice pf fs.length cf, .slice pi is.length ci, .slice pb bs.length cb] 27) _) hb)
  have R1 := hide (Box.below (Box.new (w.alloc _) #[.int .i64 0, .slice none 0 0, .slice none 0 0, .slice none 0 0, .slice none 0 0] 27) hb)
  simp only [alloc_size] at R1
  have B1 := hide (bl_tr (al2 _ _ _) hb)
  have x1 := (unhide X1).cell
  have r1 := (unhide R1).cell
  have f1 := (unhide R1).frozen
  have z1 : w.heap.size + 1 < w1.heap.size := (unhide R1).lt
  clear hb CK
  go_wp2_with fail
  exact bodyPost_ret (v := .tuple #[tenV noTen noTA, .int .i64 E]) (by simp [results, Try.results24, go_sem, tenV, tenCells, noTen, noTA, ((unhide R1).set5 (.int .i64 0) (.slice none 0 0) (.slice none 0 0) (.slice none 0 0) (.slice none 0 0)).cell]) rfl ⟨⟨noTA, rfl, noTen_own _ _⟩, bset5 (unhide B1) (by omega) _ _ _ _ _⟩
set_option maxRecDepth 100000 in
set_option maxHeartbeats 400000 in
theorem tpick_new (T : Ten) (A : TA) (p2 p3 : Option Addr) (c2 c3 : Nat) (ds2 at' : List Int) (w : World) (h : TenIn w T A) (h2 : Ints .i64 w p2 c2 ds2) (h3 : Ints .i64 w p3 c3 at') (hc : checkV T = 0) (hn : (sizeV ds2).2 ≠ 0) :
    Calls Try.prog 24 #[tenV T A, .slice p2 ds2.length c2, .slice p3 at'.length c3] w fun e w' => (∃ C, e = .returned (.tuple #[tenV (pickV T ds2 at') C, .int .i64 (pickE T ds2 at')]) ∧ TenOwn w.heap.size w' (pickV T ds2 at') C) ∧ Below w.heap.size w w' := by
  obtain ⟨ty, ds, fs, is, bs⟩ := T
  obtain ⟨pd, cd, pf, cf, pi, ci, pb, cb⟩ := A
  have CK := hide (fun v (hv : Below w.heap.size w v) => tcheck_any (ty, ds, fs, is, bs) ⟨pd, cd, pf, cf, pi, ci, pb, cb⟩ v (h.below hv))
  have SZ := hide (fun v (hv : Below w.heap.size w v) => csize_any p2 c2 ds2 v (h2.below hv))
  have al := h3.len
  unfold tenV tenCells at CK
  simp only at CK
  rw [hc] at CK
  have e0 := newE_of (ds := ds2) hc
  simp only at e0
  have e1 : pickE (ty, ds, fs, is, bs) ds2 at' = (sizeV ds2).2 := by unfold pickE; rw [if_neg (by simp [hc]), if_pos (by simp only; rw [e0]; exact hn)]; exact e0
  have e2 : pickV (ty, ds, fs, is, bs) ds2 at' = noTen := by unfold pickV; rw [if_neg (by rw [e1]; exact hn)]
  rw [e1, e2]
  generalize (sizeV ds2).2 = E at SZ hn
  generalize (sizeV ds2).1 = N at SZ
  have tl : (E != 0) = true := bneT hn
  unfold tenV tenCells
  simp only
  clear e1 e2 hc hn e0 h h2 h3
  go_enter Try.func24, Try.ntmps24
  go_wp2_with fail
  refine (unhide CK _ (al2 _ _ _)).mono ?_
  rintro e w1 ⟨rfl, hb⟩
  have X1 := hide (Box.below (Box.alloc (Box.new w #[.int .i64 ty, .slice pd ds.length cd, .slice pf fs.length cf, .slice pi is.length ci, .slice pb bs.length cb] 27) _) hb)
  have R1 := hide (Box.below (Box.new (w.alloc _) #[.int .i64 0, .slice none 0 0, .slice none 0 0, .slice none 0 0, .slice none 0 0] 27) hb)
  simp only [alloc_size] at R1
  have B1 := hide (bl_tr (al2 _ _ _) hb)
  have x1 := (unhide X1).cell
  have r1 := (unhide R1).cell
  have f1 := (unhide R1).frozen
  have z1 : w.heap.size + 1 < w1.heap.size := (unhide R1).lt
  clear hb CK
  go_wp2_with fail
  refine (unhide SZ _ (unhide B1)).mono ?_
  rintro e v ⟨rfl, hv⟩
  replace hv := hv.symm
  subst hv
  clear SZ
  go_wp2_with fail
  exact bodyPost_ret (v := .tuple #[tenV noTen noTA, .int .i64 E]) (by simp [results, Try.results24, go_sem, tenV, tenCells, noTen, noTA, ((unhide R1).set5 (.int .i64 0) (.slice none 0 0) (.slice none 0 0) (.slice none 0 0) (.slice none 0 0)).cell]) rfl ⟨⟨noTA, rfl, noTen_own _ _⟩, bset5 (unhide B1) (by omega) _ _ _ _ _⟩
set_option maxRecDepth 100000 in
set_option maxHeartbeats 400000 in
theorem tpick_len (T : Ten) (A : TA) (p2 p3 : Option Addr) (c2 c3 : Nat) (ds2 at' : List Int) (w : World) (h : TenIn w T A) (h2 : Ints .i64 w p2 c2 ds2) (h3 : Ints .i64 w p3 c3 at') (hc : checkV T = 0) (hn : (sizeV ds2).2 = 0) (hl : ¬ (at'.length : Int) = (sizeV ds2).1) :
    Calls Try.prog 24 #[tenV T A, .slice p2 ds2.length c2, .slice p3 at'.length c3] w fun e w' => (∃ C, e = .returned (.tuple #[tenV (pickV T ds2 at') C, .int .i64 (pickE T ds2 at')]) ∧ TenOwn w.heap.size w' (pickV T ds2 at') C) ∧ Below w.heap.size w w' := by
  obtain ⟨ty, ds, fs, is, bs⟩ := T
  obtain ⟨pd, cd, pf, cf, pi, ci, pb, cb⟩ := A
  have CK := hide (fun v (hv : Below w.heap.size w v) => tcheck_any (ty, ds, fs, is, bs) ⟨pd, cd, pf, cf, pi, ci, pb, cb⟩ v (h.below hv))
  have SZ := hide (fun v (hv : Below w.heap.size w v) => csize_any p2 c2 ds2 v (h2.below hv))
  have al := h3.len
  unfold tenV tenCells at CK
  simp only at CK
  rw [hc] at CK
  have e0 := newE_of (ds := ds2) hc
  simp only at e0
  rw [hn] at SZ
  have e1 : pickE (ty, ds, fs, is, bs) ds2 at' = 3 := by unfold pickE; rw [if_neg (by simp [hc]), if_neg (by simp only; rw [e0]; simp [hn]), if_pos hl]
  have e2 : pickV (ty, ds, fs, is, bs) ds2 at' = noTen := by unfold pickV; rw [if_neg (by rw [e1]; decide)]
  rw [e1, e2]
  generalize (sizeV ds2).1 = N at SZ hl
  have tl : ((at'.length : Int) != N) = true := bneT hl
  unfold tenV tenCells
  simp only
  clear e1 e2 hc hn hl e0 h h2 h3
  go_enter Try.func24, Try.ntmps24
  go_wp2_with fail
  refine (unhide CK _ (al2 _ _ _)).mono ?_
  rintro e w1 ⟨rfl, hb⟩
  have X1 := hide (Box.below (Box.alloc (Box.new w #[.int .i64 ty, .slice pd ds.length cd, .slice pf fs.length cf, .slice pi is.length ci, .slice pb bs.length cb] 27) _) hb)
  have R1 := hide (Box.below (Box.new (w.alloc _) #[.int .i64 0, .slice none 0 0, .slice none 0 0, .slice none 0 0, .slice none 0 0] 27) hb)
  simp only [alloc_size] at R1
  have B1 := hide (bl_tr (al2 _ _ _) hb)
  have x1 := (unhide X1).cell
  have r1 := (unhide R1).cell
  have f1 := (unhide R1).frozen
  have z1 : w.heap.size + 1 < w1.heap.size := (unhide R1).lt
  clear hb CK
  go_wp2_with fail
  refine (unhide SZ _ (unhide B1)).mono ?_
  rintro e v ⟨rfl, hv⟩
  replace hv := hv.symm
  subst hv
  clear SZ
  go_wp2_with fail
  exact bodyPost_ret (v := .tuple #[tenV noTen noTA, .int .i64 3]) (by simp [results, Try.results24, go_sem, tenV, tenCells, noTen, noTA, ((unhide R1).set5 (.int .i64 0) (.slice none 0 0) (.slice none 0 0) (.slice none 0 0) (.slice none 0 0)).cell]) rfl ⟨⟨noTA, rfl, noTen_own _ _⟩, bset5 (unhide B1) (by omega) _ _ _ _ _⟩
set_option maxRecDepth 100000 in
set_option maxHeartbeats 400000 in
theorem tpick_bad (T : Ten) (A : TA) (p2 p3 : Option Addr) (c2 c3 : Nat) (ds2 at' : List Int) (w : World) (h : TenIn w T A) (h2 : Ints .i64 w p2 c2 ds2) (h3 : Ints .i64 w p3 c3 at') (hc : checkV T = 0) (hn : (sizeV ds2).2 = 0) (hl : (at'.length : Int) = (sizeV ds2).1) (hb : ∃ a ∈ at', a < -1 ∨ (haveN T : Int) ≤ a) :
    Calls Try.prog 24 #[tenV T A, .slice p2 ds2.length c2, .slice p3 at'.length c3] w fun e w' => (∃ C, e = .returned (.tuple #[tenV (pickV T ds2 at') C, .int .i64 (pickE T ds2 at')]) ∧ TenOwn w.heap.size w' (pickV T ds2 at') C) ∧ Below w.heap.size w w' := by
  obtain ⟨ty, ds, fs, is, bs⟩ := T
  obtain ⟨pd, cd, pf, cf, pi, ci, pb, cb⟩ := A
  have CK := hide (fun v (hv : Below w.heap.size w v) => tcheck_any (ty, ds, fs, is, bs) ⟨pd, cd, pf, cf, pi, ci, pb, cb⟩ v (h.below hv))
  have SZ := hide (fun v (hv : Below w.heap.size w v) => csize_any p2 c2 ds2 v (h2.below hv))
  have al := h3.len
  unfold tenV tenCells at CK
  simp only at CK
  rw [hc] at CK
  have e0 := newE_of (ds := ds2) hc
  simp only at e0
  rw [hn] at SZ
  rw [← hl] at SZ
  have WI := hide (fun X (hX : X = ((haveN (ty, ds, fs, is, bs) : Nat) : Int)) v (hv : Below w.heap.size w v) => (by subst hX; exact twithin_any p3 c3 at' (haveN (ty, ds, fs, is, bs)) v (h3.below hv) : Calls Try.prog 49 #[.slice p3 at'.length c3, .int .i64 X] v fun e w' => e = .returned (.bool (decide (¬ ∃ a ∈ at', a < -1 ∨ (haveN (ty, ds, fs, is, bs) : Int) ≤ a))) ∧ w' = v))
  have tl : ((at'.length : Int) != (at'.length : Int)) = false := bneF rfl
  obtain ⟨sf, si, sb⟩ := check_small hc
  simp only at sf si sb
  obtain ⟨e1, e2⟩ := pick_bad hc hn hl hb
  rw [decide_eq_false (fun k => k hb)] at WI
  rw [e1, e2]
  unfold tenV tenCells
  simp only [haveN] at WI ⊢
  clear e1 e2 hc hn hl hb e0 h h2 h3
  go_enter Try.func24, Try.ntmps24
  go_wp2_with fail
  refine (unhide CK _ (al2 _ _ _)).mono ?_
  rintro e w1 ⟨rfl, hb⟩
  have X1 := hide (Box.below (Box.alloc (Box.new w #[.int .i64 ty, .slice pd ds.length cd, .slice pf fs.length cf, .slice pi is.length ci, .slice pb bs.length cb] 27) _) hb)
  have R1 := hide (Box.below (Box.new (w.alloc _) #[.int .i64 0, .slice none 0 0, .slice none 0 0, .slice none 0 0, .slice none 0 0] 27) hb)
  simp only [alloc_size] at R1
  have B1 := hide (bl_tr (al2 _ _ _) hb)
  have x1 := (unhide X1).cell
  have r1 := (unhide R1).cell
  have f1 := (unhide R1).frozen
  have z1 : w.heap.size + 1 < w1.heap.size := (unhide R1).lt
  clear hb CK
  go_wp2_with fail
  refine (unhide SZ _ (unhide B1)).mono ?_
  rintro e v ⟨rfl, hv⟩
  replace hv := hv.symm
  subst hv
  clear SZ
  go_wp2_with fail
  refine (unhide WI _ (by omega) _ (unhide B1)).mono ?_
  rintro e v ⟨rfl, hv⟩
  replace hv := hv.symm
  subst hv
  clear WI
  go_wp2_with fail
  exact bodyPost_ret (v := .tuple #[tenV noTen noTA, .int .i64 2]) (by simp [results, Try.results24, go_sem, tenV, tenCells, noTen, noTA, ((unhide R1).set5 (.int .i64 0) (.slice none 0 0) (.slice none 0 0) (.slice none 0 0) (.slice none 0 0)).cell]) rfl ⟨⟨noTA, rfl, noTen_own _ _⟩, bset5 (unhide B1) (by omega) _ _ _ _ _⟩
set_option maxRecDepth 100000 in
set_option maxHeartbeats 2000000 in
theorem tpick_F (T : Ten) (A : TA) (p2 p3 : Option Addr) (c2 c3 : Nat) (ds2 at' : List Int) (w : World) (h : TenIn w T A) (h2 : Ints .i64 w p2 c2 ds2) (h3 : Ints .i64 w p3 c3 at') (hc : checkV T = 0) (hn : (sizeV ds2).2 = 0) (hl : (at'.length : Int) = (sizeV ds2).1) (hb : ¬ ∃ a ∈ at', a < -1 ∨ (haveN T : Int) ≤ a) (hk : T.1 = 1) :
    Calls Try.prog 24 #[tenV T A, .slice p2 ds2.length c2, .slice p3 at'.length c3] w fun e w' => (∃ C, e = .returned (.tuple #[tenV (pickV T ds2 at') C, .int .i64 (pickE T ds2 at')]) ∧ TenOwn w.heap.size w' (pickV T ds2 at') C) ∧ Below w.heap.size w w' := by
  obtain ⟨ty, ds, fs, is, bs⟩ := T
  obtain ⟨pd, cd, pf, cf, pi, ci, pb, cb⟩ := A
  simp only at hk
  subst hk
  have CK := hide (fun v (hv : Below w.heap.size w v) => tcheck_any (1, ds, fs, is, bs) ⟨pd, cd, pf, cf, pi, ci, pb, cb⟩ v (h.below hv))
  have SZ := hide (fun v (hv : Below w.heap.size w v) => csize_any p2 c2 ds2 v (h2.below hv))
  have al := h3.len
  unfold tenV tenCells at CK
  simp only at CK
  rw [hc] at CK
  have e0 := newE_of (ds := ds2) hc
  simp only at e0
  rw [hn] at SZ
  rw [← hl] at SZ
  have WI := hide (fun X (hX : X = ((haveN (1, ds, fs, is, bs) : Nat) : Int)) v (hv : Below w.heap.size w v) => (by subst hX; exact twithin_any p3 c3 at' (haveN (1, ds, fs, is, bs)) v (h3.below hv) : Calls Try.prog 49 #[.slice p3 at'.length c3, .int .i64 X] v fun e w' => e = .returned (.bool (decide (¬ ∃ a ∈ at', a < -1 ∨ (haveN (1, ds, fs, is, bs) : Int) ≤ a))) ∧ w' = v))
  have tl : ((at'.length : Int) != (at'.length : Int)) = false := bneF rfl
  obtain ⟨sf, si, sb⟩ := check_small hc
  simp only at sf si sb
  obtain ⟨e1, e2⟩ := pick_good hc hn hl hb
  have hls := check_lens hc
  simp at hls
  have hin : ∀ a ∈ at', ¬ (a < -1 ∨ (fs.length : Int) ≤ a) := fun a ha hh => hb ⟨a, ha, by
    rcases hh with hh | hh
    · exact .inl hh
    · refine .inr ?_
      have : haveN (1, ds, fs, is, bs) = fs.length := by simp only [haveN]; simp [hls]
      rw [this]; exact hh⟩
  rw [decide_eq_true hb] at WI
  rw [e1, e2]
  have eT : pickT (1, ds, fs, is, bs) ds2 at' = (1, ds2, at'.map (pkI fs), [], []) := rfl
  rw [eT]
  have dl := size_len hn
  obtain ⟨n4, hN4, hn4⟩ := size_nat ds2
  have al4 : at'.length ≤ 4096 := by omega
  have CP := hide (fun v (hv : Below w.heap.size w v) => copied_int p2 c2 ds2 v (h2.below hv).ls (by omega))
  have PK := hide (fun v (hv : Below w.heap.size w v) => picked_uint32 pf p3 cf c3 fs at' v (h.2.2.1.below hv).ls (h3.below hv) hin al4)
  have wd := hide h2.2.2.1
  have WX := hide (pkI_wf (at' := at') h.2.2.1.2.2.1 (by decide))
  unfold tenV tenCells
  simp only [haveN, List.length_map, List.length_nil] at WI ⊢
  clear e1 e2 eT hc hn hl hb e0 h h2 h3 hN4 hn4 hin hls
  go_enter Try.func24, Try.ntmps24
  go_wp2_with fail
  refine (unhide CK _ (al2 _ _ _)).mono ?_
  rintro e w1 ⟨rfl, hb⟩
  have X1 := hide (Box.below (Box.alloc (Box.new w #[.int .i64 1, .slice pd ds.length cd, .slice pf fs.length cf, .slice pi is.length ci, .slice pb bs.length cb] 27) _) hb)
  have R1 := hide (Box.below (Box.new (w.alloc _) #[.int .i64 0, .slice none 0 0, .slice none 0 0, .slice none 0 0, .slice none 0 0] 27) hb)
  simp only [alloc_size] at R1
  have B1 := hide (bl_tr (al2 _ _ _) hb)
  have x1 := (unhide X1).cell
  have r1 := (unhide R1).cell
  have f1 := (unhide R1).frozen
  have z1 : w.heap.size + 1 < w1.heap.size := (unhide R1).lt
  clear hb CK
  go_wp2_with fail
  refine (unhide SZ _ (unhide B1)).mono ?_
  rintro e v ⟨rfl, hv⟩
  replace hv := hv.symm
  subst hv
  clear SZ
  go_wp2_with fail
  refine (unhide WI _ (by omega) _ (unhide B1)).mono ?_
  rintro e v ⟨rfl, hv⟩
  replace hv := hv.symm
  subst hv
  clear WI
  go_wp2_with fail
  have x1' := ((unhide X1).below (bdrew _)).cell
  go_region_held3 (fun w' => (∀ j, w'.cell? ⟨w.heap.size, j, none⟩ = (#[.int .i64 1, .slice pd ds.length cd, .slice pf fs.length cf, .slice pi is.length ci, .slice pb bs.length cb] : Array Value)[j]?)) (first | with_reducible assumption | with_reducible exact ((unhide X2).alloc _).cell | with_reducible exact (unhide S3) _ _ _ _ _ | with_reducible exact (((unhide X1).alloc _).below (bdrew _)).cell)
    (first
      | (go_at_call 33; (refine (unhide CP _ (bl_tr (unhide B1) (bdrew _))).mono ?_; rintro e w2 ⟨⟨q1, d1, rfl, L1, F1⟩, hb⟩; have HL1 := hide L1; have HF1 := hide F1; have M2 := hide (bl_tr (bdrew _) hb); have X2 := hide ((unhide X1).below (unhide M2)); have R2 := hide ((unhide R1).below (unhide M2)); have B2 := hide (bl_tr (unhide B1) (unhide M2)); clear x1 x1' L1 F1 hb; have x2 := (unhide X2).cell))
      | (go_at_call 33; (refine (unhide CP _ (bl_tr (bl_tr (unhide B1) (al1 _ _)) (bdrew _))).mono ?_; rintro e w2 ⟨⟨q1, d1, rfl, L1, F1⟩, hb⟩; have HL1 := hide L1; have HF1 := hide F1; have M2 := hide (bl_tr (bl_tr (al1 _ _) (bdrew _)) hb); have X3 := hide ((unhide X1).below (unhide M2)); have R2 := hide ((unhide R1).below (unhide M2)); have B2 := hide (bl_tr (unhide B1) (unhide M2)); have G2 := hide (Box.below (Box.below (Box.new w1 #[.int .i64 0, .slice none 0 0, .slice none 0 0, .slice none 0 0, .slice none 0 0] 27) (bdrew _)) hb); have S3 : Hid (∀ u0 u1 u2 u3 u4 j, (((((w2.setCell ⟨w1.heap.size, 0, none⟩ u0).setCell ⟨w1.heap.size, 1, none⟩ u1).setCell ⟨w1.heap.size, 2, none⟩ u2).setCell ⟨w1.heap.size, 3, none⟩ u3).setCell ⟨w1.heap.size, 4, none⟩ u4).cell? ⟨w.heap.size, j, none⟩ = (#[.int .i64 1, .slice pd ds.length cd, .slice pf fs.length cf, .slice pi is.length ci, .slice pb bs.length cb] : Array Value)[j]?) := hide (fun _ _ _ _ _ j => Box.cell (((((Box.other (unhide X3) (by simp <;> omega) 0 _).other (by simp <;> omega) 1 _).other (by simp <;> omega) 2 _).other (by simp <;> omega) 3 _).other (by simp <;> omega) 4 _) j); clear x1 x1' L1 F1 hb; have x2 := (unhide X3).cell; have g2 := (unhide G2).cell; have gf := (unhide G2).frozen; have gz := (unhide G2).lt)))
  · obtain ⟨v, hv⟩ : ∃ v, v = w2.alloc (Obj.cells #[.int .i64 1, .slice q1 ds2.length d1, .slice none 0 0, .slice none 0 0, .slice none 0 0] 27) := ⟨_, rfl⟩
    rw [← hv]
    have sz2 := (unhide M2).size
    have XT : Hid (Box v w.heap.size #[.int .i64 1, .slice pd ds.length cd, .slice pf fs.length cf, .slice pi is.length ci, .slice pb bs.length cb] 27) := hide (by rw [hv]; exact (unhide X2).alloc _)
    have XR : Hid (Box v (w.heap.size + 1) #[.int .i64 0, .slice none 0 0, .slice none 0 0, .slice none 0 0, .slice none 0 0] 27) := hide (by rw [hv]; exact (unhide R2).alloc _)
    have XG : Hid (Box v w2.heap.size #[.int .i64 1, .slice q1 ds2.length d1, .slice none 0 0, .slice none 0 0, .slice none 0 0] 27) := hide (by rw [hv]; exact Box.new _ _ _)
    have BV : Hid (Below w.heap.size w v) := hide (by rw [hv]; exact bl_tr (unhide B2) (al1 _ _))
    have HLD : Hid (Ls (Value.int .i64) v q1 d1 ds2) := hide (by rw [hv]; exact (unhide HL1).below (al1 _ _))
    have HFD : Hid (Fresh (w.heap.size + 2) v q1 ds2.length) := hide (by rw [hv]; exact ((unhide HF1).below (unhide HL1) rfl (al1 _ _)).mono (by simp; omega))
    have NE : Hid (∀ b o, q1 = some ⟨b, o, none⟩ → 0 < ds2.length → b ≠ w2.heap.size) := hide (fun b o e hp => by
      obtain ⟨b', o', e', hb, _⟩ := (unhide HL1).lies hp
      rw [e] at e'
      simp only [Option.some.injEq, Addr.mk.injEq] at e'
      omega)
    have hg : w.heap.size + 2 ≤ w2.heap.size := by omega
    have zv : w.heap.size + 2 ≤ v.heap.size := by have := (unhide XG).lt; omega
    clear hv x2 X1 X2 R1 R2 B1 B2 M2 HL1 HF1 CP r1 f1
    have xt := (unhide XT).cell
    have xr := (unhide XR).cell
    have xg := (unhide XG).cell
    have fr := (unhide XR).frozen
    have fg := (unhide XG).frozen
    go_wp2_with fail
    refine (unhide PK _ (unhide BV)).mono ?_
    rintro e w5 ⟨⟨q2, d2, rfl, L2, F2⟩, hb⟩
    have HL2 := hide L2
    have HF2 := hide F2
    have M5 := hide hb
    have XR5 := hide ((unhide XR).below hb)
    have XG5 := hide ((unhide XG).below hb)
    have B5 := hide (bl_tr (unhide BV) hb)
    clear xt xr xg fr fg L2 F2 hb PK
    simp only [List.length_map]
    have xr := (unhide XR5).cell
    have xg := (unhide XG5).cell
    have fr := (unhide XR5).frozen
    have fg := (unhide XG5).frozen
    have zr : w.heap.size + 1 < w5.heap.size := (unhide XR5).lt
    have zg : w2.heap.size < w5.heap.size := (unhide XG5).lt
    have hgr : w.heap.size + 1 ≠ w2.heap.size := by omega
    go_wp2_with fail
    refine bodyPost_ret (v := .tuple #[.agg #[.int .i64 1, .slice q1 ds2.length d1, .slice q2 at'.length d2, .slice none 0 0, .slice none 0 0], .int .i64 0]) (by simp [results, Try.results24, go_sem, ((unhide XR5).other (k := w2.heap.size) (by omega) 2 (.slice q2 at'.length d2)).set5 (.int .i64 1) (.slice q1 ds2.length d1) (.slice q2 at'.length d2) (.slice none 0 0) (.slice none 0 0) |>.cell]) rfl ⟨⟨⟨q1, d1, q2, d2, none, 0, none, 0⟩, by simp, ?_⟩, bset5 ((unhide B5).setCell (by simp <;> omega) _) (by omega) _ _ _ _ _⟩
    exact (endg_F rfl (unhide M5) (show w.heap.size + 1 < w.heap.size + 2 by omega) (by omega) (unhide XG).lt (unhide HLD) (unhide HFD) (unhide NE) (unhide wd) (unhide HL2) (unhide HF2) (unhide WX) _ _ _ _ _ _ _).mono (by omega)
  · obtain ⟨v, hv⟩ : ∃ v, v = ((((w2.setCell ⟨w1.heap.size, 0, none⟩ (.int .i64 1)).setCell ⟨w1.heap.size, 1, none⟩ (.slice q1 ds2.length d1)).setCell ⟨w1.heap.size, 2, none⟩ (.slice none 0 0)).setCell ⟨w1.heap.size, 3, none⟩ (.slice none 0 0)).setCell ⟨w1.heap.size, 4, none⟩ (.slice none 0 0) := ⟨_, rfl⟩
    rw [← hv]
    have sz2 := (unhide M2).size
    have NE : Hid (∀ b o, q1 = some ⟨b, o, none⟩ → 0 < ds2.length → b ≠ w1.heap.size) := hide (fun b o e hp => by have := (unhide HF1 b o e hp).1; simp at this; omega)
    have n1 : w.heap.size ≠ w1.heap.size := by omega
    have n2 : w.heap.size + 1 ≠ w1.heap.size := by omega
    have XT : Hid (Box v w.heap.size #[.int .i64 1, .slice pd ds.length cd, .slice pf fs.length cf, .slice pi is.length ci, .slice pb bs.length cb] 27) := hide (by rw [hv]; exact ((((Box.other (unhide X3) n1 0 _).other n1 1 _).other n1 2 _).other n1 3 _).other n1 4 _)
    have XR : Hid (Box v (w.heap.size + 1) #[.int .i64 0, .slice none 0 0, .slice none 0 0, .slice none 0 0, .slice none 0 0] 27) := hide (by rw [hv]; exact ((((Box.other (unhide R2) n2 0 _).other n2 1 _).other n2 2 _).other n2 3 _).other n2 4 _)
    have XG : Hid (Box v w1.heap.size #[.int .i64 1, .slice q1 ds2.length d1, .slice none 0 0, .slice none 0 0, .slice none 0 0] 27) := hide (by rw [hv]; exact (unhide G2).set5 _ _ _ _ _)
    have BV : Hid (Below w.heap.size w v) := hide (by rw [hv]; exact bset5 (unhide B2) (by omega) _ _ _ _ _)
    have HLD : Hid (Ls (Value.int .i64) v q1 d1 ds2) := hide (by rw [hv]; exact (((((unhide HL1).far (unhide NE)).far (unhide NE)).far (unhide NE)).far (unhide NE)).far (unhide NE))
    have HFD : Hid (Fresh (w.heap.size + 2) v q1 ds2.length) := hide (by rw [hv]; exact ((((((unhide HF1).set _ _).set _ _).set _ _).set _ _).set _ _).mono (by simp; omega))
    have hg : w.heap.size + 2 ≤ w1.heap.size := by omega
    have zv : w.heap.size + 2 ≤ v.heap.size := by have := (unhide XG).lt; omega
    clear hv x2 g2 gf gz X1 X3 R1 R2 B1 B2 M2 HL1 HF1 CP r1 f1 G2 S3 n1 n2
    have xt := (unhide XT).cell
    have xr := (unhide XR).cell
    have xg := (unhide XG).cell
    have fr := (unhide XR).frozen
    have fg := (unhide XG).frozen
    go_wp2_with fail
    refine (unhide PK _ (unhide BV)).mono ?_
    rintro e w5 ⟨⟨q2, d2, rfl, L2, F2⟩, hb⟩
    have HL2 := hide L2
    have HF2 := hide F2
    have M5 := hide hb
    have XR5 := hide ((unhide XR).below hb)
    have XG5 := hide ((unhide XG).below hb)
    have B5 := hide (bl_tr (unhide BV) hb)
    clear xt xr xg fr fg L2 F2 hb PK
    simp only [List.length_map]
    have xr := (unhide XR5).cell
    have xg := (unhide XG5).cell
    have fr := (unhide XR5).frozen
    have fg := (unhide XG5).frozen
    have zr : w.heap.size + 1 < w5.heap.size := (unhide XR5).lt
    have zg : w1.heap.size < w5.heap.size := (unhide XG5).lt
    have hgr : w.heap.size + 1 ≠ w1.heap.size := by omega
    go_wp2_with fail
    refine bodyPost_ret (v := .tuple #[.agg #[.int .i64 1, .slice q1 ds2.length d1, .slice q2 at'.length d2, .slice none 0 0, .slice none 0 0], .int .i64 0]) (by simp [results, Try.results24, go_sem, ((unhide XR5).other (k := w1.heap.size) (by omega) 2 (.slice q2 at'.length d2)).set5 (.int .i64 1) (.slice q1 ds2.length d1) (.slice q2 at'.length d2) (.slice none 0 0) (.slice none 0 0) |>.cell]) rfl ⟨⟨⟨q1, d1, q2, d2, none, 0, none, 0⟩, by simp, ?_⟩, bset5 ((unhide B5).setCell (by simp <;> omega) _) (by omega) _ _ _ _ _⟩
    exact (endg_F rfl (unhide M5) (show w.heap.size + 1 < w.heap.size + 2 by omega) (by omega) (unhide XG).lt (unhide HLD) (unhide HFD) (unhide NE) (unhide wd) (unhide HL2) (unhide HF2) (unhide WX) _ _ _ _ _ _ _).mono (by omega)
set_option maxRecDepth 100000 in
set_option maxHeartbeats 2000000 in
theorem tpick_I (T : Ten) (A : TA) (p2 p3 : Option Addr) (c2 c3 : Nat) (ds2 at' : List Int) (w : World) (h : TenIn w T A) (h2 : Ints .i64 w p2 c2 ds2) (h3 : Ints .i64 w p3 c3 at') (hc : checkV T = 0) (hn : (sizeV ds2).2 = 0) (hl : (at'.length : Int) = (sizeV ds2).1) (hb : ¬ ∃ a ∈ at', a < -1 ∨ (haveN T : Int) ≤ a) (hk : T.1 = 7) :
    Calls Try.prog 24 #[tenV T A, .slice p2 ds2.length c2, .slice p3 at'.length c3] w fun e w' => (∃ C, e = .returned (.tuple #[tenV (pickV T ds2 at') C, .int .i64 (pickE T ds2 at')]) ∧ TenOwn w.heap.size w' (pickV T ds2 at') C) ∧ Below w.heap.size w w' := by
  obtain ⟨ty, ds, fs, is, bs⟩ := T
  obtain ⟨pd, cd, pf, cf, pi, ci, pb, cb⟩ := A
  simp only at hk
  subst hk
  have CK := hide (fun v (hv : Below w.heap.size w v) => tcheck_any (7, ds, fs, is, bs) ⟨pd, cd, pf, cf, pi, ci, pb, cb⟩ v (h.below hv))
  have SZ := hide (fun v (hv : Below w.heap.size w v) => csize_any p2 c2 ds2 v (h2.below hv))
  have al := h3.len
  unfold tenV tenCells at CK
  simp only at CK
  rw [hc] at CK
  have e0 := newE_of (ds := ds2) hc
  simp only at e0
  rw [hn] at SZ
  rw [← hl] at SZ
  have WI := hide (fun X (hX : X = ((haveN (7, ds, fs, is, bs) : Nat) : Int)) v (hv : Below w.heap.size w v) => (by subst hX; exact twithin_any p3 c3 at' (haveN (7, ds, fs, is, bs)) v (h3.below hv) : Calls Try.prog 49 #[.slice p3 at'.length c3, .int .i64 X] v fun e w' => e = .returned (.bool (decide (¬ ∃ a ∈ at', a < -1 ∨ (haveN (7, ds, fs, is, bs) : Int) ≤ a))) ∧ w' = v))
  have tl : ((at'.length : Int) != (at'.length : Int)) = false := bneF rfl
  obtain ⟨sf, si, sb⟩ := check_small hc
  simp only at sf si sb
  obtain ⟨e1, e2⟩ := pick_good hc hn hl hb
  have hls := check_lens hc
  simp at hls
  have hin : ∀ a ∈ at', ¬ (a < -1 ∨ (is.length : Int) ≤ a) := fun a ha hh => hb ⟨a, ha, by
    rcases hh with hh | hh
    · exact .inl hh
    · refine .inr ?_
      have : haveN (7, ds, fs, is, bs) = is.length := by simp only [haveN]; simp [hls]
      rw [this]; exact hh⟩
  rw [decide_eq_true hb] at WI
  rw [e1, e2]
  have eT : pickT (7, ds, fs, is, bs) ds2 at' = (7, ds2, [], at'.map (pkI is), []) := rfl
  rw [eT]
  have dl := size_len hn
  obtain ⟨n4, hN4, hn4⟩ := size_nat ds2
  have al4 : at'.length ≤ 4096 := by omega
  have CP := hide (fun v (hv : Below w.heap.size w v) => copied_int p2 c2 ds2 v (h2.below hv).ls (by omega))
  have PK := hide (fun v (hv : Below w.heap.size w v) => picked_int64 pi p3 ci c3 is at' v (h.2.2.2.1.below hv).ls (h3.below hv) hin al4)
  have wd := hide h2.2.2.1
  have WX := hide (pkI_wf (at' := at') h.2.2.2.1.2.2.1 (by decide))
  unfold tenV tenCells
  simp only [haveN, List.length_map, List.length_nil] at WI ⊢
  clear e1 e2 eT hc hn hl hb e0 h h2 h3 hN4 hn4 hin hls
  go_enter Try.func24, Try.ntmps24
  go_wp2_with fail
  refine (unhide CK _ (al2 _ _ _)).mono ?_
  rintro e w1 ⟨rfl, hb⟩
  have X1 := hide (Box.below (Box.alloc (Box.new w #[.int .i64 7, .slice pd ds.length cd, .slice pf fs.length cf, .slice pi is.length ci, .slice pb bs.length cb] 27) _) hb)
  have R1 := hide (Box.below (Box.new (w.alloc _) #[.int .i64 0, .slice none 0 0, .slice none 0 0, .slice none 0 0, .slice none 0 0] 27) hb)
  simp only [alloc_size] at R1
  have B1 := hide (bl_tr (al2 _ _ _) hb)
  have x1 := (unhide X1).cell
  have r1 := (unhide R1).cell
  have f1 := (unhide R1).frozen
  have z1 : w.heap.size + 1 < w1.heap.size := (unhide R1).lt
  clear hb CK
  go_wp2_with fail
  refine (unhide SZ _ (unhide B1)).mono ?_
  rintro e v ⟨rfl, hv⟩
  replace hv := hv.symm
  subst hv
  clear SZ
  go_wp2_with fail
  refine (unhide WI _ (by omega) _ (unhide B1)).mono ?_
  rintro e v ⟨rfl, hv⟩
  replace hv := hv.symm
  subst hv
  clear WI
  go_wp2_with fail
  have x1' := ((unhide X1).below (bdrew _)).cell
  go_region_held3 (fun w' => (∀ j, w'.cell? ⟨w.heap.size, j, none⟩ = (#[.int .i64 7, .slice pd ds.length cd, .slice pf fs.length cf, .slice pi is.length ci, .slice pb bs.length cb] : Array Value)[j]?)) (first | with_reducible assumption | with_reducible exact ((unhide X2).alloc _).cell | with_reducible exact (unhide S3) _ _ _ _ _ | with_reducible exact (((unhide X1).alloc _).below (bdrew _)).cell)
    (first
      | (go_at_call 33; (refine (unhide CP _ (bl_tr (unhide B1) (bdrew _))).mono ?_; rintro e w2 ⟨⟨q1, d1, rfl, L1, F1⟩, hb⟩; have HL1 := hide L1; have HF1 := hide F1; have M2 := hide (bl_tr (bdrew _) hb); have X2 := hide ((unhide X1).below (unhide M2)); have R2 := hide ((unhide R1).below (unhide M2)); have B2 := hide (bl_tr (unhide B1) (unhide M2)); clear x1 x1' L1 F1 hb; have x2 := (unhide X2).cell))
      | (go_at_call 33; (refine (unhide CP _ (bl_tr (bl_tr (unhide B1) (al1 _ _)) (bdrew _))).mono ?_; rintro e w2 ⟨⟨q1, d1, rfl, L1, F1⟩, hb⟩; have HL1 := hide L1; have HF1 := hide F1; have M2 := hide (bl_tr (bl_tr (al1 _ _) (bdrew _)) hb); have X3 := hide ((unhide X1).below (unhide M2)); have R2 := hide ((unhide R1).below (unhide M2)); have B2 := hide (bl_tr (unhide B1) (unhide M2)); have G2 := hide (Box.below (Box.below (Box.new w1 #[.int .i64 0, .slice none 0 0, .slice none 0 0, .slice none 0 0, .slice none 0 0] 27) (bdrew _)) hb); have S3 : Hid (∀ u0 u1 u2 u3 u4 j, (((((w2.setCell ⟨w1.heap.size, 0, none⟩ u0).setCell ⟨w1.heap.size, 1, none⟩ u1).setCell ⟨w1.heap.size, 2, none⟩ u2).setCell ⟨w1.heap.size, 3, none⟩ u3).setCell ⟨w1.heap.size, 4, none⟩ u4).cell? ⟨w.heap.size, j, none⟩ = (#[.int .i64 7, .slice pd ds.length cd, .slice pf fs.length cf, .slice pi is.length ci, .slice pb bs.length cb] : Array Value)[j]?) := hide (fun _ _ _ _ _ j => Box.cell (((((Box.other (unhide X3) (by simp <;> omega) 0 _).other (by simp <;> omega) 1 _).other (by simp <;> omega) 2 _).other (by simp <;> omega) 3 _).other (by simp <;> omega) 4 _) j); clear x1 x1' L1 F1 hb; have x2 := (unhide X3).cell; have g2 := (unhide G2).cell; have gf := (unhide G2).frozen; have gz := (unhide G2).lt)))
  · obtain ⟨v, hv⟩ : ∃ v, v = w2.alloc (Obj.cells #[.int .i64 7, .slice q1 ds2.length d1, .slice none 0 0, .slice none 0 0, .slice none 0 0] 27) := ⟨_, rfl⟩
    rw [← hv]
    have sz2 := (unhide M2).size
    have XT : Hid (Box v w.heap.size #[.int .i64 7, .slice pd ds.length cd, .slice pf fs.length cf, .slice pi is.length ci, .slice pb bs.length cb] 27) := hide (by rw [hv]; exact (unhide X2).alloc _)
    have XR : Hid (Box v (w.heap.size + 1) #[.int .i64 0, .slice none 0 0, .slice none 0 0, .slice none 0 0, .slice none 0 0] 27) := hide (by rw [hv]; exact (unhide R2).alloc _)
    have XG : Hid (Box v w2.heap.size #[.int .i64 7, .slice q1 ds2.length d1, .slice none 0 0, .slice none 0 0, .slice none 0 0] 27) := hide (by rw [hv]; exact Box.new _ _ _)
    have BV : Hid (Below w.heap.size w v) := hide (by rw [hv]; exact bl_tr (unhide B2) (al1 _ _))
    have HLD : Hid (Ls (Value.int .i64) v q1 d1 ds2) := hide (by rw [hv]; exact (unhide HL1).below (al1 _ _))
    have HFD : Hid (Fresh (w.heap.size + 2) v q1 ds2.length) := hide (by rw [hv]; exact ((unhide HF1).below (unhide HL1) rfl (al1 _ _)).mono (by simp; omega))
    have NE : Hid (∀ b o, q1 = some ⟨b, o, none⟩ → 0 < ds2.length → b ≠ w2.heap.size) := hide (fun b o e hp => by
      obtain ⟨b', o', e', hb, _⟩ := (unhide HL1).lies hp
      rw [e] at e'
      simp only [Option.some.injEq, Addr.mk.injEq] at e'
      omega)
    have hg : w.heap.size + 2 ≤ w2.heap.size := by omega
    have zv : w.heap.size + 2 ≤ v.heap.size := by have := (unhide XG).lt; omega
    clear hv x2 X1 X2 R1 R2 B1 B2 M2 HL1 HF1 CP r1 f1
    have xt := (unhide XT).cell
    have xr := (unhide XR).cell
    have xg := (unhide XG).cell
    have fr := (unhide XR).frozen
    have fg := (unhide XG).frozen
    go_wp2_with fail
    refine (unhide PK _ (unhide BV)).mono ?_
    rintro e w5 ⟨⟨q2, d2, rfl, L2, F2⟩, hb⟩
    have HL2 := hide L2
    have HF2 := hide F2
    have M5 := hide hb
    have XR5 := hide ((unhide XR).below hb)
    have XG5 := hide ((unhide XG).below hb)
    have B5 := hide (bl_tr (unhide BV) hb)
    clear xt xr xg fr fg L2 F2 hb PK
    simp only [List.length_map]
    have xr := (unhide XR5).cell
    have xg := (unhide XG5).cell
    have fr := (unhide XR5).frozen
    have fg := (unhide XG5).frozen
    have zr : w.heap.size + 1 < w5.heap.size := (unhide XR5).lt
    have zg : w2.heap.size < w5.heap.size := (unhide XG5).lt
    have hgr : w.heap.size + 1 ≠ w2.heap.size := by omega
    go_wp2_with fail
    refine bodyPost_ret (v := .tuple #[.agg #[.int .i64 7, .slice q1 ds2.length d1, .slice none 0 0, .slice q2 at'.length d2, .slice none 0 0], .int .i64 0]) (by simp [results, Try.results24, go_sem, ((unhide XR5).other (k := w2.heap.size) (by omega) 3 (.slice q2 at'.length d2)).set5 (.int .i64 7) (.slice q1 ds2.length d1) (.slice none 0 0) (.slice q2 at'.length d2) (.slice none 0 0) |>.cell]) rfl ⟨⟨⟨q1, d1, none, 0, q2, d2, none, 0⟩, by simp, ?_⟩, bset5 ((unhide B5).setCell (by simp <;> omega) _) (by omega) _ _ _ _ _⟩
    exact (endg_I rfl (unhide M5) (show w.heap.size + 1 < w.heap.size + 2 by omega) (by omega) (unhide XG).lt (unhide HLD) (unhide HFD) (unhide NE) (unhide wd) (unhide HL2) (unhide HF2) (unhide WX) _ _ _ _ _ _ _).mono (by omega)
  · obtain ⟨v, hv⟩ : ∃ v, v = ((((w2.setCell ⟨w1.heap.size, 0, none⟩ (.int .i64 7)).setCell ⟨w1.heap.size, 1, none⟩ (.slice q1 ds2.length d1)).setCell ⟨w1.heap.size, 2, none⟩ (.slice none 0 0)).setCell ⟨w1.heap.size, 3, none⟩ (.slice none 0 0)).setCell ⟨w1.heap.size, 4, none⟩ (.slice none 0 0) := ⟨_, rfl⟩
    rw [← hv]
    have sz2 := (unhide M2).size
    have NE : Hid (∀ b o, q1 = some ⟨b, o, none⟩ → 0 < ds2.length → b ≠ w1.heap.size) := hide (fun b o e hp => by have := (unhide HF1 b o e hp).1; simp at this; omega)
    have n1 : w.heap.size ≠ w1.heap.size := by omega
    have n2 : w.heap.size + 1 ≠ w1.heap.size := by omega
    have XT : Hid (Box v w.heap.size #[.int .i64 7, .slice pd ds.length cd, .slice pf fs.length cf, .slice pi is.length ci, .slice pb bs.length cb] 27) := hide (by rw [hv]; exact ((((Box.other (unhide X3) n1 0 _).other n1 1 _).other n1 2 _).other n1 3 _).other n1 4 _)
    have XR : Hid (Box v (w.heap.size + 1) #[.int .i64 0, .slice none 0 0, .slice none 0 0, .slice none 0 0, .slice none 0 0] 27) := hide (by rw [hv]; exact ((((Box.other (unhide R2) n2 0 _).other n2 1 _).other n2 2 _).other n2 3 _).other n2 4 _)
    have XG : Hid (Box v w1.heap.size #[.int .i64 7, .slice q1 ds2.length d1, .slice none 0 0, .slice none 0 0, .slice none 0 0] 27) := hide (by rw [hv]; exact (unhide G2).set5 _ _ _ _ _)
    have BV : Hid (Below w.heap.size w v) := hide (by rw [hv]; exact bset5 (unhide B2) (by omega) _ _ _ _ _)
    have HLD : Hid (Ls (Value.int .i64) v q1 d1 ds2) := hide (by rw [hv]; exact (((((unhide HL1).far (unhide NE)).far (unhide NE)).far (unhide NE)).far (unhide NE)).far (unhide NE))
    have HFD : Hid (Fresh (w.heap.size + 2) v q1 ds2.length) := hide (by rw [hv]; exact ((((((unhide HF1).set _ _).set _ _).set _ _).set _ _).set _ _).mono (by simp; omega))
    have hg : w.heap.size + 2 ≤ w1.heap.size := by omega
    have zv : w.heap.size + 2 ≤ v.heap.size := by have := (unhide XG).lt; omega
    clear hv x2 g2 gf gz X1 X3 R1 R2 B1 B2 M2 HL1 HF1 CP r1 f1 G2 S3 n1 n2
    have xt := (unhide XT).cell
    have xr := (unhide XR).cell
    have xg := (unhide XG).cell
    have fr := (unhide XR).frozen
    have fg := (unhide XG).frozen
    go_wp2_with fail
    refine (unhide PK _ (unhide BV)).mono ?_
    rintro e w5 ⟨⟨q2, d2, rfl, L2, F2⟩, hb⟩
    have HL2 := hide L2
    have HF2 := hide F2
    have M5 := hide hb
    have XR5 := hide ((unhide XR).below hb)
    have XG5 := hide ((unhide XG).below hb)
    have B5 := hide (bl_tr (unhide BV) hb)
    clear xt xr xg fr fg L2 F2 hb PK
    simp only [List.length_map]
    have xr := (unhide XR5).cell
    have xg := (unhide XG5).cell
    have fr := (unhide XR5).frozen
    have fg := (unhide XG5).frozen
    have zr : w.heap.size + 1 < w5.heap.size := (unhide XR5).lt
    have zg : w1.heap.size < w5.heap.size := (unhide XG5).lt
    have hgr : w.heap.size + 1 ≠ w1.heap.size := by omega
    go_wp2_with fail
    refine bodyPost_ret (v := .tuple #[.agg #[.int .i64 7, .slice q1 ds2.length d1, .slice none 0 0, .slice q2 at'.length d2, .slice none 0 0], .int .i64 0]) (by simp [results, Try.results24, go_sem, ((unhide XR5).other (k := w1.heap.size) (by omega) 3 (.slice q2 at'.length d2)).set5 (.int .i64 7) (.slice q1 ds2.length d1) (.slice none 0 0) (.slice q2 at'.length d2) (.slice none 0 0) |>.cell]) rfl ⟨⟨⟨q1, d1, none, 0, q2, d2, none, 0⟩, by simp, ?_⟩, bset5 ((unhide B5).setCell (by simp <;> omega) _) (by omega) _ _ _ _ _⟩
    exact (endg_I rfl (unhide M5) (show w.heap.size + 1 < w.heap.size + 2 by omega) (by omega) (unhide XG).lt (unhide HLD) (unhide HFD) (unhide NE) (unhide wd) (unhide HL2) (unhide HF2) (unhide WX) _ _ _ _ _ _ _).mono (by omega)
set_option maxRecDepth 100000 in
set_option maxHeartbeats 2000000 in
theorem tpick_B (T : Ten) (A : TA) (p2 p3 : Option Addr) (c2 c3 : Nat) (ds2 at' : List Int) (w : World) (h : TenIn w T A) (h2 : Ints .i64 w p2 c2 ds2) (h3 : Ints .i64 w p3 c3 at') (hc : checkV T = 0) (hn : (sizeV ds2).2 = 0) (hl : (at'.length : Int) = (sizeV ds2).1) (hb : ¬ ∃ a ∈ at', a < -1 ∨ (haveN T : Int) ≤ a) (hk : T.1 = 9) :
    Calls Try.prog 24 #[tenV T A, .slice p2 ds2.length c2, .slice p3 at'.length c3] w fun e w' => (∃ C, e = .returned (.tuple #[tenV (pickV T ds2 at') C, .int .i64 (pickE T ds2 at')]) ∧ TenOwn w.heap.size w' (pickV T ds2 at') C) ∧ Below w.heap.size w w' := by
  obtain ⟨ty, ds, fs, is, bs⟩ := T
  obtain ⟨pd, cd, pf, cf, pi, ci, pb, cb⟩ := A
  simp only at hk
  subst hk
  have CK := hide (fun v (hv : Below w.heap.size w v) => tcheck_any (9, ds, fs, is, bs) ⟨pd, cd, pf, cf, pi, ci, pb, cb⟩ v (h.below hv))
  have SZ := hide (fun v (hv : Below w.heap.size w v) => csize_any p2 c2 ds2 v (h2.below hv))
  have al := h3.len
  unfold tenV tenCells at CK
  simp only at CK
  rw [hc] at CK
  have e0 := newE_of (ds := ds2) hc
  simp only at e0
  rw [hn] at SZ
  rw [← hl] at SZ
  have WI := hide (fun X (hX : X = ((haveN (9, ds, fs, is, bs) : Nat) : Int)) v (hv : Below w.heap.size w v) => (by subst hX; exact twithin_any p3 c3 at' (haveN (9, ds, fs, is, bs)) v (h3.below hv) : Calls Try.prog 49 #[.slice p3 at'.length c3, .int .i64 X] v fun e w' => e = .returned (.bool (decide (¬ ∃ a ∈ at', a < -1 ∨ (haveN (9, ds, fs, is, bs) : Int) ≤ a))) ∧ w' = v))
  have tl : ((at'.length : Int) != (at'.length : Int)) = false := bneF rfl
  obtain ⟨sf, si, sb⟩ := check_small hc
  simp only at sf si sb
  obtain ⟨e1, e2⟩ := pick_good hc hn hl hb
  have hls := check_lens hc
  simp at hls
  have hin : ∀ a ∈ at', ¬ (a < -1 ∨ (bs.length : Int) ≤ a) := fun a ha hh => hb ⟨a, ha, by
    rcases hh with hh | hh
    · exact .inl hh
    · refine .inr ?_
      have : haveN (9, ds, fs, is, bs) = bs.length := by simp only [haveN]; simp [hls]
      rw [this]; exact hh⟩
  rw [decide_eq_true hb] at WI
  rw [e1, e2]
  have eT : pickT (9, ds, fs, is, bs) ds2 at' = (9, ds2, [], [], at'.map (pkB bs)) := rfl
  rw [eT]
  have dl := size_len hn
  obtain ⟨n4, hN4, hn4⟩ := size_nat ds2
  have al4 : at'.length ≤ 4096 := by omega
  have CP := hide (fun v (hv : Below w.heap.size w v) => copied_int p2 c2 ds2 v (h2.below hv).ls (by omega))
  have PK := hide (fun v (hv : Below w.heap.size w v) => picked_bool pb p3 cb c3 bs at' v (h.2.2.2.2.below hv) (h3.below hv) hin al4)
  have wd := hide h2.2.2.1
  unfold tenV tenCells
  simp only [haveN, List.length_map, List.length_nil] at WI ⊢
  clear e1 e2 eT hc hn hl hb e0 h h2 h3 hN4 hn4 hin hls
  go_enter Try.func24, Try.ntmps24
  go_wp2_with fail
  refine (unhide CK _ (al2 _ _ _)).mono ?_
  rintro e w1 ⟨rfl, hb⟩
  have X1 := hide (Box.below (Box.alloc (Box.new w #[.int .i64 9, .slice pd ds.length cd, .slice pf fs.length cf, .slice pi is.length ci, .slice pb bs.length cb] 27) _) hb)
  have R1 := hide (Box.below (Box.new (w.alloc _) #[.int .i64 0, .slice none 0 0, .slice none 0 0, .slice none 0 0, .slice none 0 0] 27) hb)
  simp only [alloc_size] at R1
  have B1 := hide (bl_tr (al2 _ _ _) hb)
  have x1 := (unhide X1).cell
  have r1 := (unhide R1).cell
  have f1 := (unhide R1).frozen
  have z1 : w.heap.size + 1 < w1.heap.size := (unhide R1).lt
  clear hb CK
  go_wp2_with fail
  refine (unhide SZ _ (unhide B1)).mono ?_
  rintro e v ⟨rfl, hv⟩
  replace hv := hv.symm
  subst hv
  clear SZ
  go_wp2_with fail
  refine (unhide WI _ (by omega) _ (unhide B1)).mono ?_
  rintro e v ⟨rfl, hv⟩
  replace hv := hv.symm
  subst hv
  clear WI
  go_wp2_with fail
  have x1' := ((unhide X1).below (bdrew _)).cell
  go_region_held3 (fun w' => (∀ j, w'.cell? ⟨w.heap.size, j, none⟩ = (#[.int .i64 9, .slice pd ds.length cd, .slice pf fs.length cf, .slice pi is.length ci, .slice pb bs.length cb] : Array Value)[j]?)) (first | with_reducible assumption | with_reducible exact ((unhide X2).alloc _).cell | with_reducible exact (unhide S3) _ _ _ _ _ | with_reducible exact (((unhide X1).alloc _).below (bdrew _)).cell)
    (first
      | (go_at_call 33; (refine (unhide CP _ (bl_tr (unhide B1) (bdrew _))).mono ?_; rintro e w2 ⟨⟨q1, d1, rfl, L1, F1⟩, hb⟩; have HL1 := hide L1; have HF1 := hide F1; have M2 := hide (bl_tr (bdrew _) hb); have X2 := hide ((unhide X1).below (unhide M2)); have R2 := hide ((unhide R1).below (unhide M2)); have B2 := hide (bl_tr (unhide B1) (unhide M2)); clear x1 x1' L1 F1 hb; have x2 := (unhide X2).cell))
      | (go_at_call 33; (refine (unhide CP _ (bl_tr (bl_tr (unhide B1) (al1 _ _)) (bdrew _))).mono ?_; rintro e w2 ⟨⟨q1, d1, rfl, L1, F1⟩, hb⟩; have HL1 := hide L1; have HF1 := hide F1; have M2 := hide (bl_tr (bl_tr (al1 _ _) (bdrew _)) hb); have X3 := hide ((unhide X1).below (unhide M2)); have R2 := hide ((unhide R1).below (unhide M2)); have B2 := hide (bl_tr (unhide B1) (unhide M2)); have G2 := hide (Box.below (Box.below (Box.new w1 #[.int .i64 0, .slice none 0 0, .slice none 0 0, .slice none 0 0, .slice none 0 0] 27) (bdrew _)) hb); have S3 : Hid (∀ u0 u1 u2 u3 u4 j, (((((w2.setCell ⟨w1.heap.size, 0, none⟩ u0).setCell ⟨w1.heap.size, 1, none⟩ u1).setCell ⟨w1.heap.size, 2, none⟩ u2).setCell ⟨w1.heap.size, 3, none⟩ u3).setCell ⟨w1.heap.size, 4, none⟩ u4).cell? ⟨w.heap.size, j, none⟩ = (#[.int .i64 9, .slice pd ds.length cd, .slice pf fs.length cf, .slice pi is.length ci, .slice pb bs.length cb] : Array Value)[j]?) := hide (fun _ _ _ _ _ j => Box.cell (((((Box.other (unhide X3) (by simp <;> omega) 0 _).other (by simp <;> omega) 1 _).other (by simp <;> omega) 2 _).other (by simp <;> omega) 3 _).other (by simp <;> omega) 4 _) j); clear x1 x1' L1 F1 hb; have x2 := (unhide X3).cell; have g2 := (unhide G2).cell; have gf := (unhide G2).frozen; have gz := (unhide G2).lt)))
  · obtain ⟨v, hv⟩ : ∃ v, v = w2.alloc (Obj.cells #[.int .i64 9, .slice q1 ds2.length d1, .slice none 0 0, .slice none 0 0, .slice none 0 0] 27) := ⟨_, rfl⟩
    rw [← hv]
    have sz2 := (unhide M2).size
    have XT : Hid (Box v w.heap.size #[.int .i64 9, .slice pd ds.length cd, .slice pf fs.length cf, .slice pi is.length ci, .slice pb bs.length cb] 27) := hide (by rw [hv]; exact (unhide X2).alloc _)
    have XR : Hid (Box v (w.heap.size + 1) #[.int .i64 0, .slice none 0 0, .slice none 0 0, .slice none 0 0, .slice none 0 0] 27) := hide (by rw [hv]; exact (unhide R2).alloc _)
    have XG : Hid (Box v w2.heap.size #[.int .i64 9, .slice q1 ds2.length d1, .slice none 0 0, .slice none 0 0, .slice none 0 0] 27) := hide (by rw [hv]; exact Box.new _ _ _)
    have BV : Hid (Below w.heap.size w v) := hide (by rw [hv]; exact bl_tr (unhide B2) (al1 _ _))
    have HLD : Hid (Ls (Value.int .i64) v q1 d1 ds2) := hide (by rw [hv]; exact (unhide HL1).below (al1 _ _))
    have HFD : Hid (Fresh (w.heap.size + 2) v q1 ds2.length) := hide (by rw [hv]; exact ((unhide HF1).below (unhide HL1) rfl (al1 _ _)).mono (by simp; omega))
    have NE : Hid (∀ b o, q1 = some ⟨b, o, none⟩ → 0 < ds2.length → b ≠ w2.heap.size) := hide (fun b o e hp => by
      obtain ⟨b', o', e', hb, _⟩ := (unhide HL1).lies hp
      rw [e] at e'
      simp only [Option.some.injEq, Addr.mk.injEq] at e'
      omega)
    have hg : w.heap.size + 2 ≤ w2.heap.size := by omega
    have zv : w.heap.size + 2 ≤ v.heap.size := by have := (unhide XG).lt; omega
    clear hv x2 X1 X2 R1 R2 B1 B2 M2 HL1 HF1 CP r1 f1
    have xt := (unhide XT).cell
    have xr := (unhide XR).cell
    have xg := (unhide XG).cell
    have fr := (unhide XR).frozen
    have fg := (unhide XG).frozen
    go_wp2_with fail
    refine (unhide PK _ (unhide BV)).mono ?_
    rintro e w5 ⟨⟨q2, d2, rfl, L2, F2⟩, hb⟩
    have HL2 := hide L2
    have HF2 := hide F2
    have M5 := hide hb
    have XR5 := hide ((unhide XR).below hb)
    have XG5 := hide ((unhide XG).below hb)
    have B5 := hide (bl_tr (unhide BV) hb)
    clear xt xr xg fr fg L2 F2 hb PK
    simp only [List.length_map]
    have xr := (unhide XR5).cell
    have xg := (unhide XG5).cell
    have fr := (unhide XR5).frozen
    have fg := (unhide XG5).frozen
    have zr : w.heap.size + 1 < w5.heap.size := (unhide XR5).lt
    have zg : w2.heap.size < w5.heap.size := (unhide XG5).lt
    have hgr : w.heap.size + 1 ≠ w2.heap.size := by omega
    go_wp2_with fail
    refine bodyPost_ret (v := .tuple #[.agg #[.int .i64 9, .slice q1 ds2.length d1, .slice none 0 0, .slice none 0 0, .slice q2 at'.length d2], .int .i64 0]) (by simp [results, Try.results24, go_sem, ((unhide XR5).other (k := w2.heap.size) (by omega) 4 (.slice q2 at'.length d2)).set5 (.int .i64 9) (.slice q1 ds2.length d1) (.slice none 0 0) (.slice none 0 0) (.slice q2 at'.length d2) |>.cell]) rfl ⟨⟨⟨q1, d1, none, 0, none, 0, q2, d2⟩, by simp, ?_⟩, bset5 ((unhide B5).setCell (by simp <;> omega) _) (by omega) _ _ _ _ _⟩
    exact (endg_B rfl (unhide M5) (show w.heap.size + 1 < w.heap.size + 2 by omega) (by omega) (unhide XG).lt (unhide HLD) (unhide HFD) (unhide NE) (unhide wd) (unhide HL2) (unhide HF2) _ _ _ _ _ _ _).mono (by omega)
  · obtain ⟨v, hv⟩ : ∃ v, v = ((((w2.setCell ⟨w1.heap.size, 0, none⟩ (.int .i64 9)).setCell ⟨w1.heap.size, 1, none⟩ (.slice q1 ds2.length d1)).setCell ⟨w1.heap.size, 2, none⟩ (.slice none 0 0)).setCell ⟨w1.heap.size, 3, none⟩ (.slice none 0 0)).setCell ⟨w1.heap.size, 4, none⟩ (.slice none 0 0) := ⟨_, rfl⟩
    rw [← hv]
    have sz2 := (unhide M2).size
    have NE : Hid (∀ b o, q1 = some ⟨b, o, none⟩ → 0 < ds2.length → b ≠ w1.heap.size) := hide (fun b o e hp => by have := (unhide HF1 b o e hp).1; simp at this; omega)
    have n1 : w.heap.size ≠ w1.heap.size := by omega
    have n2 : w.heap.size + 1 ≠ w1.heap.size := by omega
    have XT : Hid (Box v w.heap.size #[.int .i64 9, .slice pd ds.length cd, .slice pf fs.length cf, .slice pi is.length ci, .slice pb bs.length cb] 27) := hide (by rw [hv]; exact ((((Box.other (unhide X3) n1 0 _).other n1 1 _).other n1 2 _).other n1 3 _).other n1 4 _)
    have XR : Hid (Box v (w.heap.size + 1) #[.int .i64 0, .slice none 0 0, .slice none 0 0, .slice none 0 0, .slice none 0 0] 27) := hide (by rw [hv]; exact ((((Box.other (unhide R2) n2 0 _).other n2 1 _).other n2 2 _).other n2 3 _).other n2 4 _)
    have XG : Hid (Box v w1.heap.size #[.int .i64 9, .slice q1 ds2.length d1, .slice none 0 0, .slice none 0 0, .slice none 0 0] 27) := hide (by rw [hv]; exact (unhide G2).set5 _ _ _ _ _)
    have BV : Hid (Below w.heap.size w v) := hide (by rw [hv]; exact bset5 (unhide B2) (by omega) _ _ _ _ _)
    have HLD : Hid (Ls (Value.int .i64) v q1 d1 ds2) := hide (by rw [hv]; exact (((((unhide HL1).far (unhide NE)).far (unhide NE)).far (unhide NE)).far (unhide NE)).far (unhide NE))
    have HFD : Hid (Fresh (w.heap.size + 2) v q1 ds2.length) := hide (by rw [hv]; exact ((((((unhide HF1).set _ _).set _ _).set _ _).set _ _).set _ _).mono (by simp; omega))
    have hg : w.heap.size + 2 ≤ w1.heap.size := by omega
    have zv : w.heap.size + 2 ≤ v.heap.size := by have := (unhide XG).lt; omega
    clear hv x2 g2 gf gz X1 X3 R1 R2 B1 B2 M2 HL1 HF1 CP r1 f1 G2 S3 n1 n2
    have xt := (unhide XT).cell
    have xr := (unhide XR).cell
    have xg := (unhide XG).cell
    have fr := (unhide XR).frozen
    have fg := (unhide XG).frozen
    go_wp2_with fail
    refine (unhide PK _ (unhide BV)).mono ?_
    rintro e w5 ⟨⟨q2, d2, rfl, L2, F2⟩, hb⟩
    have HL2 := hide L2
    have HF2 := hide F2
    have M5 := hide hb
    have XR5 := hide ((unhide XR).below hb)
    have XG5 := hide ((unhide XG).below hb)
    have B5 := hide (bl_tr (unhide BV) hb)
    clear xt xr xg fr fg L2 F2 hb PK
    simp only [List.length_map]
    have xr := (unhide XR5).cell
    have xg := (unhide XG5).cell
    have fr := (unhide XR5).frozen
    have fg := (unhide XG5).frozen
    have zr : w.heap.size + 1 < w5.heap.size := (unhide XR5).lt
    have zg : w1.heap.size < w5.heap.size := (unhide XG5).lt
    have hgr : w.heap.size + 1 ≠ w1.heap.size := by omega
    go_wp2_with fail
    refine bodyPost_ret (v := .tuple #[.agg #[.int .i64 9, .slice q1 ds2.length d1, .slice none 0 0, .slice none 0 0, .slice q2 at'.length d2], .int .i64 0]) (by simp [results, Try.results24, go_sem, ((unhide XR5).other (k := w1.heap.size) (by omega) 4 (.slice q2 at'.length d2)).set5 (.int .i64 9) (.slice q1 ds2.length d1) (.slice none 0 0) (.slice none 0 0) (.slice q2 at'.length d2) |>.cell]) rfl ⟨⟨⟨q1, d1, none, 0, none, 0, q2, d2⟩, by simp, ?_⟩, bset5 ((unhide B5).setCell (by simp <;> omega) _) (by omega) _ _ _ _ _⟩
    exact (endg_B rfl (unhide M5) (show w.heap.size + 1 < w.heap.size + 2 by omega) (by omega) (unhide XG).lt (unhide HLD) (unhide HFD) (unhide NE) (unhide wd) (unhide HL2) (unhide HF2) _ _ _ _ _ _ _).mono (by omega)
theorem tpick_any (T : Ten) (A : TA) (p2 p3 : Option Addr) (c2 c3 : Nat) (ds2 at' : List Int) (w : World) (h : TenIn w T A) (h2 : Ints .i64 w p2 c2 ds2) (h3 : Ints .i64 w p3 c3 at') :
    Calls Try.prog 24 #[tenV T A, .slice p2 ds2.length c2, .slice p3 at'.length c3] w fun e w' => (∃ C, e = .returned (.tuple #[tenV (pickV T ds2 at') C, .int .i64 (pickE T ds2 at')]) ∧ TenOwn w.heap.size w' (pickV T ds2 at') C) ∧ Below w.heap.size w w' := by
  by_cases hc : checkV T = 0
  · by_cases hn : (sizeV ds2).2 = 0
    · by_cases hl : (at'.length : Int) = (sizeV ds2).1
      · by_cases hb : ∃ a ∈ at', a < -1 ∨ (haveN T : Int) ≤ a
        · exact tpick_bad T A p2 p3 c2 c3 ds2 at' w h h2 h3 hc hn hl hb
        · rcases known_cases (check_known hc).1 with g | g | g
          · exact tpick_F T A p2 p3 c2 c3 ds2 at' w h h2 h3 hc hn hl hb g
          · exact tpick_I T A p2 p3 c2 c3 ds2 at' w h h2 h3 hc hn hl hb g
          · exact tpick_B T A p2 p3 c2 c3 ds2 at' w h h2 h3 hc hn hl hb g
      · exact tpick_len T A p2 p3 c2 c3 ds2 at' w h h2 h3 hc hn hl
    · exact tpick_new T A p2 p3 c2 c3 ds2 at' w h h2 h3 hc hn
  · exact tpick_check T A p2 p3 c2 c3 ds2 at' w h h2 h3 hc
end Go.Proofs.Ytbepkmehnghmcaa
