import Derived.Test.YtbepkmehnghmcaaJK
import Derived.Deep.RegionHeld3

/-
  Layer 5: the code's Bytes.
-/
namespace Go.Proofs.Ytbepkmehnghmcaa
open Go.RowKit
set_option linter.unusedVariables false

theorem bytes_all {T : Ten} (hc : checkV T = 0) : [] ++ bytesOf id 4 T.2.2.1 ++ bytesOf toU 8 T.2.2.2.1 ++ bytesOf b01 1 T.2.2.2.2 = bytesL T := by
  obtain ⟨ty, ds, fs, is, bs⟩ := T
  have hl := check_lens hc
  have nil : ∀ {α : Type} (g : α → Int) (k : Nat), bytesOf g k ([] : List α) = [] := fun _ _ => rfl
  rcases known_cases (check_known hc).1 with g | g | g <;> simp only at g <;> subst g <;> simp at hl
  · obtain ⟨_, h2, h3⟩ := hl
    subst h2 h3
    simp [bytesL, nil]
  · obtain ⟨h1, _, h3⟩ := hl
    subst h1 h3
    simp [bytesL, nil]
  · obtain ⟨h1, h2, _⟩ := hl
    subst h1 h2
    simp [bytesL, nil]
theorem OwnG.drew5 {α : Type} {f : α → Value} {t : TypeId} {w wr : World} {v : Value} {os : List α} (h : OwnG t f w wr v os) : OwnG t f w wr.drew v os := h.below (bdrew _)
set_option maxRecDepth 100000 in
set_option maxHeartbeats 2000000 in
theorem tbytes_any (T : Ten) (A : TA) (w : World) (h : TenIn w T A) :
    Calls Try.prog 28 #[tenV T A] w fun e w' => (∃ q c, e = .returned (.tuple #[.slice q (bytesV T).length c, .int .i64 (checkV T)]) ∧ Ints .u8 w' q c (bytesV T)) ∧ Below w.heap.size w w' := by
  have CK := hide (fun v (hv : Below w.heap.size w v) => tcheck_any T A v (h.below hv))
  have WB : Hid (∀ x ∈ bytesV T, (Lit.int .u8 x).wf = true) := hide (by
    unfold bytesV bytesL
    (repeat' split) <;> first | exact bytesOf_wf _ _ _ | (intro x hx; cases hx))
  by_cases hc : checkV T = 0
  · have hB : bytesV T = [] ++ bytesOf id 4 T.2.2.1 ++ bytesOf toU 8 T.2.2.2.1 ++ bytesOf b01 1 T.2.2.2.2 := by rw [bytes_all hc]; unfold bytesV; rw [if_pos hc]
    have HB := hide hB
    obtain ⟨sf, si, sb⟩ := check_small hc
    rw [hc] at CK ⊢
    generalize bytesV T = L at HB WB ⊢
    obtain ⟨ty, ds, fs, is, bs⟩ := T
    obtain ⟨pd, cd, pf, cf, pi, ci, pb, cb⟩ := A
    obtain ⟨a0, a1, a2, a3, a4⟩ := h
    simp only at sf si sb a0 a1 a2 a3 a4 HB
    have A2 := hide a2
    have A3 := hide a3
    have A4 := hide a4
    have W1 := hide (fun w => twidth_any 1 w)
    have W7 := hide (fun w => twidth_any 7 w)
    have W9 := hide (fun w => twidth_any 9 w)
    have e1 : widthV 1 = 4 := rfl
    have e7 : widthV 7 = 8 := rfl
    have e9 : widthV 9 = 1 := rfl
    rw [e1] at W1
    rw [e7] at W7
    rw [e9] at W9
    have l1 : (bytesOf id 4 fs).length = fs.length * 4 := bytesOf_length _ _ _
    have l2 : (bytesOf toU 8 is).length = is.length * 8 := bytesOf_length _ _ _
    have LL : Hid (([] ++ bytesOf id 4 fs).length = fs.length * 4 ∧ ([] ++ bytesOf id 4 fs ++ bytesOf toU 8 is).length = fs.length * 4 + is.length * 8) := hide (by simp [l1, l2])
    unfold tenV tenCells at CK ⊢
    simp only at CK ⊢
    clear hc hB a1 a2 a3 a4 e1 e7 e9 l1 l2
    go_enter Try.func28, Try.ntmps28
    go_wp2_with fail
    refine (unhide CK _ (al1 _ _)).mono ?_
    rintro e w1 ⟨rfl, hb⟩
    have X1 := hide (Box.below (Box.new w #[.int .i64 ty, .slice pd ds.length cd, .slice pf fs.length cf, .slice pi is.length ci, .slice pb bs.length cb] 27) hb)
    have B1 := hide (bl_tr (al1 _ _) hb)
    have X1' := X1
    have x1 := (unhide X1).cell
    have x1' := ((unhide X1).below (bdrew _)).cell
    have z1 : w.heap.size < w1.heap.size := (unhide X1).lt
    clear hb CK
    have L1 := hide (fun v hv => laid_uint32 pf cf fs w1 v (.slice none 0 0) [] ((unhide A2).below (unhide B1)) hv (by simp; omega))
    have L2 := hide (fun v u hv => laid_int64 pi ci is w1 v u ([] ++ bytesOf id 4 fs) ((unhide A3).below (unhide B1)) hv (by rw [(unhide LL).1]; omega))
    have L3 := hide (fun v u hv => laid_bool pb cb bs w1 v u ([] ++ bytesOf id 4 fs ++ bytesOf toU 8 is) ((unhide A4).below (unhide B1)) hv (by rw [(unhide LL).2]; omega))
    clear A2 A3 A4 LL
    go_wp2_with fail
    go_region_held3 (fun w' => (∀ j, w'.cell? ⟨w.heap.size, j, none⟩ = (#[.int .i64 ty, .slice pd ds.length cd, .slice pf fs.length cf, .slice pi is.length ci, .slice pb bs.length cb] : Array Value)[j]?)) (with_reducible assumption)
      (first
        | (go_at_call 21; (refine (unhide W1 _).mono ?_; rintro e w2 ⟨rfl, hv⟩; replace hv := hv.symm; subst hv))
        | (go_at_call 54; (refine (unhide L1 _ (OwnG.nil _ _ _ (bdrew _))).mono ?_; rintro e w2 ⟨v2, rfl, hO⟩; have O2 := hide hO; have X2 := hide ((unhide X1).below hO.2); clear hO; have x2 := (unhide X2).cell)))
    clear L1 W1 x1 x1' X1
    have x2' := ((unhide X2).below (bdrew _)).cell
    go_wp2_with fail
    go_region_held3 (fun w' => (∀ j, w'.cell? ⟨w.heap.size, j, none⟩ = (#[.int .i64 ty, .slice pd ds.length cd, .slice pf fs.length cf, .slice pi is.length ci, .slice pb bs.length cb] : Array Value)[j]?)) (with_reducible assumption)
      (first
        | (go_at_call 21; (refine (unhide W7 _).mono ?_; rintro e w3 ⟨rfl, hv⟩; replace hv := hv.symm; subst hv))
        | (go_at_call 56; (refine (unhide L2 _ _ (unhide O2).drew5).mono ?_; rintro e w3 ⟨v3, rfl, hO⟩; have O3 := hide hO; have X3 := hide (Box.below (w := w1) (unhide X1') hO.2); clear hO; have x3 := (unhide X3).cell)))
    clear L2 W7 x2 x2' X2 O2
    have x3' := ((unhide X3).below (bdrew _)).cell
    go_wp2_with fail
    go_region_held3 (fun w' => (∀ j, w'.cell? ⟨w.heap.size, j, none⟩ = (#[.int .i64 ty, .slice pd ds.length cd, .slice pf fs.length cf, .slice pi is.length ci, .slice pb bs.length cb] : Array Value)[j]?)) (with_reducible assumption)
      (first
        | (go_at_call 21; (refine (unhide W9 _).mono ?_; rintro e w4 ⟨rfl, hv⟩; replace hv := hv.symm; subst hv))
        | (go_at_call 58; (refine (unhide L3 _ _ (unhide O3).drew5).mono ?_; rintro e w4 ⟨v4, rfl, hO⟩; have O4 := hide hO; have X4 := hide (Box.below (w := w1) (unhide X1') hO.2); clear hO; have x4 := (unhide X4).cell)))
    clear L3 W9 x3 x3' X3 O3 x4
    have O5 := hide (own_eq (unhide O4) (unhide HB).symm)
    clear O4 HB
    obtain ⟨q, c, hv, hL, _⟩ := (unhide O5).form
    have BB := hide (bl_tr (unhide B1) (unhide O5).2)
    have HL := hide (hL.ints (unhide WB))
    subst hv
    clear O5 hL
    go_wp2_with fail
    go_ret2
    exact ⟨⟨q, c, rfl, unhide HL⟩, unhide BB⟩
  · have e2 : bytesV T = [] := by unfold bytesV; rw [if_neg hc]
    rw [e2]
    generalize checkV T = E at CK hc ⊢
    obtain ⟨ty, ds, fs, is, bs⟩ := T
    obtain ⟨pd, cd, pf, cf, pi, ci, pb, cb⟩ := A
    have t1 : (E != 0) = true := bneT hc
    unfold tenV tenCells at CK ⊢
    simp only at CK ⊢
    clear hc e2 h WB
    go_enter Try.func28, Try.ntmps28
    go_wp2_with fail
    refine (unhide CK _ (al1 _ _)).mono ?_
    rintro e w1 ⟨rfl, hb⟩
    have B1 := hide (bl_tr (al1 _ _) hb)
    clear hb CK
    go_wp2_with fail
    go_ret2
    exact ⟨⟨none, 0, rfl, nilInts _ _⟩, unhide B1⟩
end Go.Proofs.Ytbepkmehnghmcaa
