import Derived.Test.YtbepkmehnghmcaaJH
import Derived.Test.YtbepkmehnghmcaaIM

/-
  Layer 5: the code's Ints.
-/
namespace Go.Proofs.Ytbepkmehnghmcaa
open Go.RowKit
set_option linter.unusedVariables false

set_option maxRecDepth 100000 in
set_option maxHeartbeats 1000000 in
theorem tints_any (T : Ten) (A : TA) (w : World) (h : TenIn w T A) :
    Calls Try.prog 26 #[tenV T A] w fun e w' => (∃ q c, e = .returned (.tuple #[.slice q (intsV T).length c, .int .i64 (intsE T)]) ∧ Ints .i64 w' q c (intsV T) ∧ Fresh w.heap.size w' q (intsV T).length) ∧ Below w.heap.size w w' := by
  obtain ⟨ty, ds, fs, is, bs⟩ := T
  obtain ⟨pd, cd, pf, cf, pi, ci, pb, cb⟩ := A
  obtain ⟨i1, hi1, y1, z1, b1⟩ := info_parts Try.infoInt
  have CK := hide (fun w h => tcheck_any (ty, ds, fs, is, bs) ⟨pd, cd, pf, cf, pi, ci, pb, cb⟩ w h)
  have H := hide h
  have dl := h.2.1.len
  simp only at dl
  by_cases hc : checkV (ty, ds, fs, is, bs) = 0
  · obtain ⟨sf, si, sb⟩ := check_small hc
    simp only at sf si sb
    rw [hc] at CK
    by_cases h7 : ty = 7
    · by_cases hd : 1 < ds.length
      · have e1 : intsE (ty, ds, fs, is, bs) = 3 := by unfold intsE; rw [if_neg (by rw [hc]; simp), if_neg (by simp [h7]), if_pos hd]
        have e2 : intsV (ty, ds, fs, is, bs) = [] := by unfold intsV; rw [if_neg (by rw [e1]; decide)]
        rw [e1, e2]
        have hdi : (2 : Int) ≤ (ds.length : Int) := by omega
        subst h7
        unfold tenV tenCells at CK
        simp only at CK
        unfold tenV tenCells
        simp only
        clear e1 e2 hc h
        go_enter Try.func26, Try.ntmps26
        go_wp2_with fail
        refine (unhide CK _ ((unhide H).below (al1 _ _))).mono ?_
        rintro e w1 ⟨rfl, hb⟩
        have X0 := hide (Box.below (Box.new w #[.int .i64 7, .slice pd ds.length cd, .slice pf fs.length cf, .slice pi is.length ci, .slice pb bs.length cb] 27) hb)
        have x0 := (unhide X0).cell
        have B1 := hide (bl_tr (al1 _ _) hb)
        clear hb CK
        go_wp2_with fail
        go_ret2
        exact ⟨⟨none, 0, rfl, nilInts _ _, Fresh.nil _ _⟩, unhide B1⟩
      · have e1 : intsE (ty, ds, fs, is, bs) = 0 := by unfold intsE; rw [if_neg (by rw [hc]; simp), if_neg (by simp [h7]), if_neg hd]
        have e2 : intsV (ty, ds, fs, is, bs) = is := by unfold intsV; rw [if_pos e1]
        rw [e1, e2]
        have hdi : ¬ (2 : Int) ≤ (ds.length : Int) := by omega
        subst h7
        unfold tenV tenCells at CK
        simp only at CK
        unfold tenV tenCells
        simp only
        clear e1 e2 hc h
        go_enter Try.func26, Try.ntmps26
        go_wp2_with fail
        refine (unhide CK _ ((unhide H).below (al1 _ _))).mono ?_
        rintro e w1 ⟨rfl, hb⟩
        have X0 := hide (Box.below (Box.new w #[.int .i64 7, .slice pd ds.length cd, .slice pf fs.length cf, .slice pi is.length ci, .slice pb bs.length cb] 27) hb)
        have x0 := (unhide X0).cell
        have B1 := hide (bl_tr (al1 _ _) hb)
        clear hb CK
        go_wp2_with (at_make; (refine wpList_make_full _ rfl _ _ 22 rfl w1.heap.size 3 i1 (.int .i64 0) 1 Try.underlying22 hi1 y1 z1 _ _ _ _ is.length rfl rfl (by omega) (by omega) (by rw [b1]; omega) (by unfold maxLen; omega) (Nat.le_refl _) ?_; intro w2 hown hgrow; have Q := OwnG.made (f := Value.int .i64) (z := (0 : Int)) (Below.refl _ _) rfl hown hgrow; obtain ⟨q, d, hv, L1, F1⟩ := Q.form; rw [List.length_replicate] at hv F1; rw [hv]; have HL1 := hide L1; have HF1 := hide (F1.mono (unhide B1).size); have B2 := hide (bl_tr (unhide B1) Q.2); have X2 := hide ((unhide X0).below Q.2); clear hown hgrow Q L1 F1 hv x0; have x2 := (unhide X2).cell))
        clear x2
        go_loopw [30] (fun iv wr => ∃ n : Nat, iv = .int .i64 n ∧ n ≤ is.length ∧ Hid (Ls (Value.int .i64) wr q d (partL id 0 is n)) ∧ Hid (Fresh w.heap.size wr q is.length) ∧ Hid (Below w.heap.size w wr)) (fun iv _ => is.length - (intOf iv).toNat)
        case atStart => exact ⟨0, rfl, by omega, hide (by rw [partL_zero]; exact unhide HL1), HF1, B2⟩
        case round =>
          obtain ⟨n, rfl, hn, HL, HF, HB⟩ := hrel
          by_cases hlt : n < is.length
          · have hi : (n : Int) < (is.length : Int) := by omega
            obtain ⟨b3, o3, hq3, hb3, hc3⟩ := ((unhide H).below (unhide HB)).2.2.2.1.lies (show 0 < is.length by omega)
            simp only at hq3
            subst hq3
            have k3 : wr.cell? ⟨b3, o3 + n, none⟩ = some (.int .i64 (is.getD n 0)) := hc3 n hlt
            obtain ⟨r0, r1⟩ := (unhide H).2.2.2.1.i64 n hlt
            simp only at r0 r1
            have HPS : Hid (∀ x, x = id (is.getD n 0) → (partL id 0 is n).set n x = partL id 0 is (n + 1)) := hide (fun x hx => partL_set _ _ is n hlt x hx)
            have hpl : (partL id 0 is n).length = is.length := partL_length _ _ _ _ (by omega)
            obtain ⟨b4, o4, rfl, hb4, hc4⟩ := (unhide HL).lies (by omega)
            have z4 : wr.frozen? ⟨b4, o4 + n, none⟩ = false := (unhide HF b4 o4 rfl (by omega)).2 n hlt
            have hb4b : w.heap.size ≤ b4 := (unhide HF b4 o4 rfl (by omega)).1
            have k4 := hc4 n (by omega)
            have STO := hide (fun x => (unhide HL).store n (by omega) x)
            clear hc3 hc4 hpl
            generalize (partL id 0 is n).getD n default = old at k4
            generalize is.getD n 0 = x at k3 r0 r1 HPS
            have HL2 := hide (unhide STO x)
            rw [unhide HPS x rfl] at HL2
            clear HPS STO
            go_wp2_with fail
            go_roundw
            case rel => exact ⟨n + 1, by go_num, by omega, HL2, hide ((unhide HF).set _ _), hide ((unhide HB).setCell hb4b _)⟩
            case measure => simp [intOf]; omega
          · have hi : ¬ (n : Int) < (is.length : Int) := by omega
            have hl2 := unhide HL
            rw [partL_all _ _ is n (by omega), List.map_id] at hl2
            have HL2 := hide hl2
            clear hl2 HL
            go_wp2_with fail
            go_ret2
            exact ⟨⟨_, _, rfl, (unhide HL2).ints (unhide H).2.2.2.1.2.2.1, unhide HF⟩, unhide HB⟩
    · have e1 : intsE (ty, ds, fs, is, bs) = 5 := by unfold intsE; rw [if_neg (by rw [hc]; simp), if_pos h7]
      have e2 : intsV (ty, ds, fs, is, bs) = [] := by unfold intsV; rw [if_neg (by rw [e1]; decide)]
      rw [e1, e2]
      have h7b : (ty != 7) = true := bneT h7
      unfold tenV tenCells at CK
      simp only at CK
      unfold tenV tenCells
      simp only
      clear e1 e2 hc h h7
      go_enter Try.func26, Try.ntmps26
      go_wp2_with fail
      refine (unhide CK _ ((unhide H).below (al1 _ _))).mono ?_
      rintro e w1 ⟨rfl, hb⟩
      have X0 := hide (Box.below (Box.new w #[.int .i64 ty, .slice pd ds.length cd, .slice pf fs.length cf, .slice pi is.length ci, .slice pb bs.length cb] 27) hb)
      have x0 := (unhide X0).cell
      have B1 := hide (bl_tr (al1 _ _) hb)
      clear hb CK
      go_wp2_with fail
      go_ret2
      exact ⟨⟨none, 0, rfl, nilInts _ _, Fresh.nil _ _⟩, unhide B1⟩
  · have e1 : intsE (ty, ds, fs, is, bs) = checkV (ty, ds, fs, is, bs) := by unfold intsE; rw [if_pos hc]
    have e2 : intsV (ty, ds, fs, is, bs) = [] := by unfold intsV; rw [if_neg (by rw [e1]; exact hc)]
    rw [e1, e2]
    obtain ⟨E, hE⟩ : ∃ E, checkV (ty, ds, fs, is, bs) = E := ⟨_, rfl⟩
    rw [hE] at CK hc ⊢
    have hen : (E != 0) = true := bneT hc
    unfold tenV tenCells at CK
    simp only at CK
    unfold tenV tenCells
    simp only
    clear e1 e2 hc h hE
    go_enter Try.func26, Try.ntmps26
    go_wp2_with fail
    refine (unhide CK _ ((unhide H).below (al1 _ _))).mono ?_
    rintro e w1 ⟨rfl, hb⟩
    have B1 := hide (bl_tr (al1 _ _) hb)
    clear hb CK
    go_wp2_with fail
    go_ret2
    exact ⟨⟨none, 0, rfl, nilInts _ _, Fresh.nil _ _⟩, unhide B1⟩
end Go.Proofs.Ytbepkmehnghmcaa
