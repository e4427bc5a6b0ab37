import Derived.Test.YtbepkmehnghmcaaJC
import Derived.Test.YtbepkmehnghmcaaIL
import Derived.Deep.RegionHeld3

/-
  Layer 5: the code's Copy.
-/
namespace Go.Proofs.Ytbepkmehnghmcaa
open Go.RowKit
set_option linter.unusedVariables false

set_option maxRecDepth 100000 in
set_option maxHeartbeats 2000000 in
theorem tcopy_any (T : Ten) (A : TA) (w : World) (h : TenIn w T A) (hs : okLen T) :
    Calls Try.prog 11 #[tenV T A] w fun e w' => (∃ C, e = .returned (tenV (T) C) ∧ TenOwn w.heap.size w' (T) C) ∧ Below w.heap.size w w' := by
  obtain ⟨ty, ds, fs, is, bs⟩ := T
  obtain ⟨pd, cd, pf, cf, pi, ci, pb, cb⟩ := A
  obtain ⟨a0, a1, a2, a3, a4⟩ := h
  obtain ⟨s1, s2, s3, s4⟩ := hs
  simp only at a0 a1 a2 a3 a4 s1 s2 s3 s4
  unfold tenV tenCells
  simp only
  have wfd := hide a1.2.2.1
  have wff := hide a2.2.2.1
  have wfi := hide a3.2.2.1
  have C1 := hide (fun v (hv : Below w.heap.size w v) => copied_int pd cd ds v (a1.below hv).ls s1)
  have C2 := hide (fun v (hv : Below w.heap.size w v) => copied_uint32 pf cf fs v (a2.below hv).ls s2)
  have C3 := hide (fun v (hv : Below w.heap.size w v) => copied_int64 pi ci is v (a3.below hv).ls s3)
  have C4 := hide (fun v (hv : Below w.heap.size w v) => copied_bool pb cb bs v (a4.below hv) (by omega))
  clear a1 a2 a3 a4 s1 s2 s3 s4
  go_enter Try.func11, Try.ntmps11
  go_wp2_with fail
  obtain ⟨v0, hv0⟩ : ∃ v0, v0 = ((w.alloc (Obj.cells #[.int .i64 ty, .slice pd ds.length cd, .slice pf fs.length cf, .slice pi is.length ci, .slice pb bs.length cb] 27)).alloc (Obj.cells #[.int .i64 0, .slice none 0 0, .slice none 0 0, .slice none 0 0, .slice none 0 0] 27)) := ⟨_, rfl⟩
  have X0 : Hid (Box v0 w.heap.size #[.int .i64 ty, .slice pd ds.length cd, .slice pf fs.length cf, .slice pi is.length ci, .slice pb bs.length cb] 27) := hide (by rw [hv0]; exact Box.alloc (Box.new w _ _) _)
  have R0 : Hid (Box v0 (w.heap.size + 1) #[.int .i64 0, .slice none 0 0, .slice none 0 0, .slice none 0 0, .slice none 0 0] 27) := hide (by rw [hv0]; have := Box.new (w.alloc (Obj.cells #[.int .i64 ty, .slice pd ds.length cd, .slice pf fs.length cf, .slice pi is.length ci, .slice pb bs.length cb] 27)) #[.int .i64 0, .slice none 0 0, .slice none 0 0, .slice none 0 0, .slice none 0 0] 27; rw [alloc_size] at this; exact this)
  have B0 : Hid (Below w.heap.size w v0) := hide (by rw [hv0]; exact al2 _ _ _)
  have Z0 : Hid (v0.heap.size = w.heap.size + 2) := hide (by rw [hv0]; simp)
  rw [← hv0]
  clear hv0
  have x0 := (unhide X0).cell
  have x0' := ((unhide X0).below (bdrew _)).cell
  go_region_held3 (fun w' => (∀ j, w'.cell? ⟨w.heap.size, j, none⟩ = (#[.int .i64 ty, .slice pd ds.length cd, .slice pf fs.length cf, .slice pi is.length ci, .slice pb bs.length cb] : Array Value)[j]?)) (first | with_reducible assumption | with_reducible exact unhide S4 _ _ _ _ _)
    (first
      | (go_at_call 36; (refine (unhide C4 _ (unhide B3)).mono ?_; rintro e w4 ⟨⟨q4, d4, rfl, L4, F4⟩, hb⟩; have HL4 := hide L4; have HF4 := hide F4; have X4 := hide ((unhide X3).below hb); have R4 := hide ((unhide R3).below hb); have B4 := hide (bl_tr (unhide B3) hb); have M4 := hide hb; clear x3 L4 F4; have x4 := (unhide X4).cell; have r4 := (unhide R4).cell; have f4 := (unhide R4).frozen; have S4 : Hid (∀ u0 u1 u2 u3 u4 j, (((((w4.setCell ⟨w.heap.size + 1, 0, none⟩ u0).setCell ⟨w.heap.size + 1, 1, none⟩ u1).setCell ⟨w.heap.size + 1, 2, none⟩ u2).setCell ⟨w.heap.size + 1, 3, none⟩ u3).setCell ⟨w.heap.size + 1, 4, none⟩ u4).cell? ⟨w.heap.size, j, none⟩ = (#[.int .i64 ty, .slice pd ds.length cd, .slice pf fs.length cf, .slice pi is.length ci, .slice pb bs.length cb] : Array Value)[j]?) := hide (fun _ _ _ _ _ j => Box.cell (((((Box.other (unhide X4) (by omega) 0 _).other (by omega) 1 _).other (by omega) 2 _).other (by omega) 3 _).other (by omega) 4 _) j); have z4 : w.heap.size + 1 < w4.heap.size := (unhide R4).lt; clear hb))
      | (go_at_call 35; (refine (unhide C3 _ (unhide B2)).mono ?_; rintro e w3 ⟨⟨q3, d3, rfl, L3, F3⟩, hb⟩; have HL3 := hide L3; have HF3 := hide F3; have X3 := hide ((unhide X2).below hb); have R3 := hide ((unhide R2).below hb); have B3 := hide (bl_tr (unhide B2) hb); have M3 := hide hb; clear x2 L3 F3; have x3 := (unhide X3).cell; clear hb))
      | (go_at_call 34; (refine (unhide C2 _ (unhide B1)).mono ?_; rintro e w2 ⟨⟨q2, d2, rfl, L2, F2⟩, hb⟩; have HL2 := hide L2; have HF2 := hide F2; have X2 := hide ((unhide X1).below hb); have R2 := hide ((unhide R1).below hb); have B2 := hide (bl_tr (unhide B1) hb); have M2 := hide hb; clear x1 L2 F2; have x2 := (unhide X2).cell; clear hb))
      | (go_at_call 33; (refine (unhide C1 _ (bl_tr (unhide B0) (bdrew _))).mono ?_; rintro e w1 ⟨⟨q1, d1, rfl, L1, F1⟩, hb⟩; have HL1 := hide L1; have HF1 := hide F1; have X1 := hide ((unhide X0).below (bl_tr (bdrew _) hb)); have R1 := hide ((unhide R0).below (bl_tr (bdrew _) hb)); have B1 := hide (bl_tr (unhide B0) (bl_tr (bdrew _) hb)); have M1 := hide hb; clear x0 L1 F1; have x1 := (unhide X1).cell; clear hb)))
  go_wp2_with fail
  have m2 := unhide M2
  have m3 := unhide M3
  have m4 := unhide M4
  have l1 := unhide HL1
  have l2 := unhide HL2
  have l3 := unhide HL3
  have l4 := unhide HL4
  have g1 : Fresh (w.heap.size + 2) w1 q1 ds.length := (unhide HF1).mono (by have := unhide Z0; simp; omega)
  have zz : w.heap.size + 2 ≤ w1.heap.size := by have := unhide Z0; have := (unhide M1).size; simp at this; omega
  have g2 := unhide HF2
  have g3 := unhide HF3
  have g4 := unhide HF4
  have z2 := m2.size
  have z3 := m3.size
  have z4 := m4.size
  have O4 : TenOwn (w.heap.size + 2) w4 (ty, ds, fs, is, bs) ⟨q1, d1, q2, d2, q3, d3, q4, d4⟩ :=
    ⟨⟨a0, (((l1.below m2).below m3).below m4).ints (unhide wfd), ((l2.below m3).below m4).ints (unhide wff), (l3.below m4).ints (unhide wfi), l4⟩,
      ((g1.below l1 rfl m2).below (l1.below m2) rfl m3).below ((l1.below m2).below m3) rfl m4, ((g2.below l2 rfl m3).below (l2.below m3) rfl m4).mono (by omega), (g3.below l3 rfl m4).mono (by omega), g4.mono (by omega),
      fresh_apart l1 rfl (Nat.le_refl _) g2, fresh_apart l1 rfl (by omega) g3, fresh_apart l1 rfl (by omega) g4, fresh_apart l2 rfl (Nat.le_refl _) g3, fresh_apart l2 rfl (by omega) g4, fresh_apart l3 rfl (Nat.le_refl _) g4⟩
  refine bodyPost_ret (v := .agg #[.int .i64 ty, .slice q1 ds.length d1, .slice q2 fs.length d2, .slice q3 is.length d3, .slice q4 bs.length d4]) (by simp [results, Try.results11, go_sem, ((unhide R4).set5 (.int .i64 ty) (.slice q1 ds.length d1) (.slice q2 fs.length d2) (.slice q3 is.length d3) (.slice q4 bs.length d4)).cell]) rfl ⟨⟨⟨q1, d1, q2, d2, q3, d3, q4, d4⟩, rfl, ?_⟩, bset5 (unhide B4) (by omega) _ _ _ _ _⟩
  exact (O4.mid ((Mid.refl (w.heap.size + 1) (w.heap.size + 2) _).set5 (by omega) (by omega) _ _ _ _ _) (by omega)).mono (by omega)
end Go.Proofs.Ytbepkmehnghmcaa
