import Derived.Test.YtbepkmehnghmcaaIJ

/-
  Layer 5: the document's Pick, where the tensor may be.
-/
namespace Go.Proofs.Ytbepkmehnghmcaa
open Go.RowKit
set_option linter.unusedVariables false

theorem newE_of {T : Ten} {ds : List Int} (h : checkV T = 0) : newE T.1 ds = (sizeV ds).2 := by
  unfold newE; rw [if_neg (by rw [(check_known h).1]; decide)]

set_option maxRecDepth 100000 in
set_option maxHeartbeats 4000000 in
theorem rpick_new (T : Ten) (A : TA) (p2 p3 : Option Addr) (c2 c3 : Nat) (ds2 at' : List Int) (w : World) (h : TenIn w T A) (h2 : Ints .i64 w p2 c2 ds2) (h3 : Ints .i64 w p3 c3 at') (hc : checkV T = 0) (hn : (sizeV ds2).2 ≠ 0) :
    Calls Try.prog 25 #[tenV T A, .slice p2 ds2.length c2, .slice p3 at'.length c3] w fun e w' => (∃ C, e = .returned (.tuple #[tenV (pickV T ds2 at') C, .int .i64 (pickE T ds2 at')]) ∧ TenOwn w.heap.size w' (pickV T ds2 at') C) ∧ Below w.heap.size w w' := by
  obtain ⟨ty, ds, fs, is, bs⟩ := T
  obtain ⟨pd, cd, pf, cf, pi, ci, pb, cb⟩ := A
  have hty := h.1
  simp only at hty
  have e0 := newE_of (ds := ds2) hc
  have e1 : pickE (ty, ds, fs, is, bs) ds2 at' = newE ty ds2 := by unfold pickE; rw [if_neg (by rw [hc]; simp), if_pos (by rw [e0]; exact hn)]
  have e2 : pickV (ty, ds, fs, is, bs) ds2 at' = noTen := by unfold pickV; rw [if_neg (by rw [e1, e0]; exact hn)]
  have e3 : newV ty ds2 = noTen := by unfold newV; rw [if_neg (by rw [e0]; exact hn)]
  rw [e1, e2, e0]
  have CK := hide (fun w h => rcheck_any (ty, ds, fs, is, bs) ⟨pd, cd, pf, cf, pi, ci, pb, cb⟩ w h)
  have NW := hide (fun w h => rnew_any ty p2 c2 ds2 w (show (Lit.int .i64 ty).wf = true from hty) h)
  rw [hc] at CK
  simp only at e0
  rw [e3, e0] at NW
  obtain ⟨E, hE⟩ : ∃ E, (sizeV ds2).2 = E := ⟨_, rfl⟩
  rw [hE] at NW hn ⊢
  have hen : (E != 0) = true := by simp [hn]
  have H := hide h
  have H2 := hide h2
  unfold tenV tenCells at CK
  simp only at CK
  unfold tenV tenCells
  simp only
  clear e0 e1 e2 e3 hE hc h h2 h3 hn hty
  go_enter Try.func25, Try.ntmps25
  go_wp2_with fail
  refine (unhide CK _ ((unhide H).below (al2 _ _ _))).mono ?_
  rintro e w1 ⟨rfl, hb⟩
  have X0 := hide (Box.below (Box.alloc (Box.new w #[.int .i64 ty, .slice pd ds.length cd, .slice pf fs.length cf, .slice pi is.length ci, .slice pb bs.length cb] 27) _) hb)
  have X1 := hide (Box.below (Box.new (w.alloc _) #[.int .i64 0, .slice none 0 0, .slice none 0 0, .slice none 0 0, .slice none 0 0] 27) hb)
  simp only [alloc_size] at X1
  have B1 := hide (bl_tr (al2 _ _ _) hb)
  have x0 := (unhide X0).cell
  have x1 := (unhide X1).cell
  have y1 := (unhide X1).frozen
  have z1 : w.heap.size + 1 < w1.heap.size := (unhide X1).lt
  clear hb CK
  go_wp2_with fail
  refine (unhide NW w1 ((unhide H2).below (unhide B1))).mono ?_
  rintro e w2 ⟨⟨C, rfl, hO⟩, hb⟩
  obtain ⟨qd, ed, qf, ef, qi, ei, qb, eb⟩ := C
  have X2 := hide ((unhide X1).below hb)
  have B2 := hide (bl_tr (unhide B1) hb)
  unfold tenV tenCells noTen
  simp only
  have z2 : w.heap.size + 1 < w2.heap.size := (unhide X2).lt
  have x2 := (unhide X2).cell
  have y2 := (unhide X2).frozen
  clear x0 x1 y1 hb hO NW
  go_wp2_with fail
  exact bodyPost_ret (v := .tuple #[tenV noTen noTA, .int .i64 E]) (by simp [results, Try.results25, go_sem, tenV, tenCells, noTen, noTA, x2, z2]) rfl ⟨⟨noTA, rfl, noTen_own _ _⟩, (((((((unhide B2).setCell (by simp) _).setCell (by simp) _).setCell (by simp) _).setCell (by simp) _).setCell (by simp) _).alloc (by simp [World.setCell]; omega) _)⟩

set_option maxRecDepth 100000 in
set_option maxHeartbeats 4000000 in
theorem rpick_len (T : Ten) (A : TA) (p2 p3 : Option Addr) (c2 c3 : Nat) (ds2 at' : List Int) (w : World) (h : TenIn w T A) (h2 : Ints .i64 w p2 c2 ds2) (h3 : Ints .i64 w p3 c3 at') (hc : checkV T = 0) (hn : (sizeV ds2).2 = 0) (hl : ¬ (at'.length : Int) = (sizeV ds2).1) :
    Calls Try.prog 25 #[tenV T A, .slice p2 ds2.length c2, .slice p3 at'.length c3] w fun e w' => (∃ C, e = .returned (.tuple #[tenV (pickV T ds2 at') C, .int .i64 (pickE T ds2 at')]) ∧ TenOwn w.heap.size w' (pickV T ds2 at') C) ∧ Below w.heap.size w w' := by
  obtain ⟨ty, ds, fs, is, bs⟩ := T
  obtain ⟨pd, cd, pf, cf, pi, ci, pb, cb⟩ := A
  have hty := h.1
  simp only at hty
  have e0 := newE_of (ds := ds2) hc
  have e1 : pickE (ty, ds, fs, is, bs) ds2 at' = 3 := by unfold pickE; rw [if_neg (by rw [hc]; simp), if_neg (by rw [e0, hn]; simp), if_pos hl]
  have e2 : pickV (ty, ds, fs, is, bs) ds2 at' = noTen := by unfold pickV; rw [if_neg (by rw [e1]; decide)]
  rw [e1, e2]
  have CK := hide (fun w h => rcheck_any (ty, ds, fs, is, bs) ⟨pd, cd, pf, cf, pi, ci, pb, cb⟩ w h)
  have NW := hide (fun w h => rnew_any ty p2 c2 ds2 w (show (Lit.int .i64 ty).wf = true from hty) h)
  have SZ := hide (fun w h => rsize_any p2 c2 ds2 w h)
  obtain ⟨sf, si, sb⟩ := check_small hc
  simp only at sf si sb
  rw [hc] at CK
  simp only at e0
  rw [e0, hn] at NW
  rw [hn] at SZ
  obtain ⟨NT, hNT⟩ : ∃ NT, newV ty ds2 = NT := ⟨_, rfl⟩
  obtain ⟨N, hN⟩ : ∃ N, (sizeV ds2).1 = N := ⟨_, rfl⟩
  rw [hNT] at NW
  rw [hN] at SZ hl
  obtain ⟨ny, nd, nf, ni, nb⟩ := NT
  have hen : ((at'.length : Int) != N) = true := bneT hl
  have hal := h3.len
  have H := hide h
  have H2 := hide h2
  unfold tenV tenCells at CK
  simp only at CK
  unfold tenV tenCells
  simp only
  clear e0 e1 e2 hNT hc h h2 h3 hn hty hl hN
  go_enter Try.func25, Try.ntmps25
  go_wp2_with fail
  refine (unhide CK _ ((unhide H).below (al2 _ _ _))).mono ?_
  rintro e w1 ⟨rfl, hb⟩
  have X0 := hide (Box.below (Box.alloc (Box.new w #[.int .i64 ty, .slice pd ds.length cd, .slice pf fs.length cf, .slice pi is.length ci, .slice pb bs.length cb] 27) _) hb)
  have X1 := hide (Box.below (Box.new (w.alloc _) #[.int .i64 0, .slice none 0 0, .slice none 0 0, .slice none 0 0, .slice none 0 0] 27) hb)
  simp only [alloc_size] at X1
  have B1 := hide (bl_tr (al2 _ _ _) hb)
  have x0 := (unhide X0).cell
  have x1 := (unhide X1).cell
  have y1 := (unhide X1).frozen
  have z1 : w.heap.size + 1 < w1.heap.size := (unhide X1).lt
  clear hb CK
  go_wp2_with fail
  refine (unhide NW w1 ((unhide H2).below (unhide B1))).mono ?_
  rintro e w2 ⟨⟨C, rfl, hO⟩, hb⟩
  obtain ⟨qd, ed, qf, ef, qi, ei, qb, eb⟩ := C
  have X2 := hide ((unhide X1).below hb)
  have X3 := hide ((unhide X0).below hb)
  have B2 := hide (bl_tr (unhide B1) hb)
  unfold tenV tenCells
  simp only
  have z2 : w.heap.size + 1 < w2.heap.size := (unhide X2).lt
  have z3 : w.heap.size < w2.heap.size := by omega
  have x2 := (unhide X2).cell
  have x3 := (unhide X3).cell
  have y2 := (unhide X2).frozen
  clear x0 x1 y1 hb hO NW
  go_wp2_with fail
  refine (unhide SZ _ ((unhide H2).below (bl_tr (unhide B2) (al1 _ _)))).mono ?_
  rintro e w3 ⟨rfl, rfl⟩
  clear SZ
  go_wp2_with fail
  exact bodyPost_ret (v := .tuple #[tenV noTen noTA, .int .i64 3]) (by simp [results, Try.results25, go_sem, tenV, tenCells, noTen, noTA, x2, z2]) rfl ⟨⟨noTA, rfl, noTen_own _ _⟩, (((((((unhide B2).setCell (by simp) _).setCell (by simp) _).setCell (by simp) _).setCell (by simp) _).setCell (by simp) _).alloc (by simp [World.setCell]; omega) _)⟩
end Go.Proofs.Ytbepkmehnghmcaa
