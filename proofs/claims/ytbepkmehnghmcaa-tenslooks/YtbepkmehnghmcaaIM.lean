import Derived.Test.YtbepkmehnghmcaaILf
import Derived.Test.YtbepkmehnghmcaaILi
import Derived.Test.YtbepkmehnghmcaaILb

/-
  Layer 5: the document's Pick for every tensor; its Ints.
-/
namespace Go.Proofs.Ytbepkmehnghmcaa
open Go.RowKit
set_option linter.unusedVariables false

theorem rpick_any (T : Ten) (A : TA) (p2 p3 : Option Addr) (c2 c3 : Nat) (ds2 at' : List Int) (w : World) (h : TenIn w T A) (h2 : Ints .i64 w p2 c2 ds2) (h3 : Ints .i64 w p3 c3 at') :
    Calls Try.prog 25 #[tenV T A, .slice p2 ds2.length c2, .slice p3 at'.length c3] w fun e w' => (∃ C, e = .returned (.tuple #[tenV (pickV T ds2 at') C, .int .i64 (pickE T ds2 at')]) ∧ TenOwn w.heap.size w' (pickV T ds2 at') C) ∧ Below w.heap.size w w' := by
  by_cases hc : checkV T = 0
  · by_cases hn : (sizeV ds2).2 = 0
    · by_cases hl : (at'.length : Int) = (sizeV ds2).1
      · obtain ⟨ty, ds, fs, is, bs⟩ := T
        rcases known_cases (check_known hc).1 with g | g | g <;> simp only at g <;> subst g
        · exact rpick_F ds fs is bs A p2 p3 c2 c3 ds2 at' w h h2 h3 hc hn hl
        · exact rpick_I ds fs is bs A p2 p3 c2 c3 ds2 at' w h h2 h3 hc hn hl
        · exact rpick_B ds fs is bs A p2 p3 c2 c3 ds2 at' w h h2 h3 hc hn hl
      · exact rpick_len T A p2 p3 c2 c3 ds2 at' w h h2 h3 hc hn hl
    · exact rpick_new T A p2 p3 c2 c3 ds2 at' w h h2 h3 hc hn
  · exact rpick_check T A p2 p3 c2 c3 ds2 at' w h h2 h3 hc

theorem ls_one {α : Type} [Inhabited α] {f : α → Value} (w : World) (x : α) (t : TypeId) : Ls f (w.alloc (.cells #[f x] t)) (some ⟨w.heap.size, 0, none⟩) 1 [x] := by
  refine ⟨Nat.le_refl _, by omega, fun _ => ⟨w.heap.size, 0, rfl, by simp, fun i hi => ?_⟩, fun h => by cases h⟩
  have : i = 0 := by simp at hi; omega
  subst this; simp
def intsE (T : Ten) : Int := if checkV T ≠ 0 then checkV T else if T.1 ≠ 7 then 5 else if 1 < T.2.1.length then 3 else 0
def intsV (T : Ten) : List Int := if intsE T = 0 then T.2.2.2.1 else []

set_option maxRecDepth 100000 in
set_option maxHeartbeats 4000000 in
theorem rints_any (T : Ten) (A : TA) (w : World) (h : TenIn w T A) :
    Calls Try.prog 27 #[tenV T A] w fun e w' => (∃ q c, e = .returned (.tuple #[.slice q (intsV T).length c, .int .i64 (intsE T)]) ∧ Ints .i64 w' q c (intsV T) ∧ Fresh w.heap.size w' q (intsV T).length) ∧ Below w.heap.size w w' := by
  obtain ⟨ty, ds, fs, is, bs⟩ := T
  obtain ⟨pd, cd, pf, cf, pi, ci, pb, cb⟩ := A
  obtain ⟨i1, hi1, y1, z1, b1⟩ := info_parts Try.infoInt
  have CK := hide (fun w h => rcheck_any (ty, ds, fs, is, bs) ⟨pd, cd, pf, cf, pi, ci, pb, cb⟩ w h)
  have H := hide h
  have dl := h.2.1.len
  simp only at dl
  by_cases hc : checkV (ty, ds, fs, is, bs) = 0
  · obtain ⟨sf, si, sb⟩ := check_small hc
    simp only at sf si sb
    rw [hc] at CK
    by_cases h7 : ty = 7
    · by_cases hd : 1 < ds.length
      · have e1 : intsE (ty, ds, fs, is, bs) = 3 := by unfold intsE; rw [if_neg (by rw [hc]; simp), if_neg (by simp [h7]), if_pos hd]
        have e2 : intsV (ty, ds, fs, is, bs) = [] := by unfold intsV; rw [if_neg (by rw [e1]; decide)]
        rw [e1, e2]
        have hdi : (1 : Int) < (ds.length : Int) := by omega
        subst h7
        unfold tenV tenCells at CK
        simp only at CK
        unfold tenV tenCells
        simp only
        clear e1 e2 hc h
        go_enter Try.func27, Try.ntmps27
        go_wp2_with fail
        refine (unhide CK _ ((unhide H).below (al1 _ _))).mono ?_
        rintro e w1 ⟨rfl, hb⟩
        have X0 := hide (Box.below (Box.new w #[.int .i64 7, .slice pd ds.length cd, .slice pf fs.length cf, .slice pi is.length ci, .slice pb bs.length cb] 27) hb)
        have x0 := (unhide X0).cell
        have B1 := hide (bl_tr (al1 _ _) hb)
        clear hb CK
        go_wp2_with fail
        go_ret2
        exact ⟨⟨none, 0, rfl, nilInts _ _, Fresh.nil _ _⟩, unhide B1⟩
      · have e1 : intsE (ty, ds, fs, is, bs) = 0 := by unfold intsE; rw [if_neg (by rw [hc]; simp), if_neg (by simp [h7]), if_neg hd]
        have e2 : intsV (ty, ds, fs, is, bs) = is := by unfold intsV; rw [if_pos e1]
        rw [e1, e2]
        have hdi : ¬ (1 : Int) < (ds.length : Int) := by omega
        subst h7
        unfold tenV tenCells at CK
        simp only at CK
        unfold tenV tenCells
        simp only
        clear e1 e2 hc h
        go_enter Try.func27, Try.ntmps27
        go_wp2_with fail
        refine (unhide CK _ ((unhide H).below (al1 _ _))).mono ?_
        rintro e w1 ⟨rfl, hb⟩
        have X0 := hide (Box.below (Box.new w #[.int .i64 7, .slice pd ds.length cd, .slice pf fs.length cf, .slice pi is.length ci, .slice pb bs.length cb] 27) hb)
        have x0 := (unhide X0).cell
        have B1 := hide (bl_tr (al1 _ _) hb)
        clear hb CK
        go_wp2_with fail
        clear x0
        go_loopw [5, 6] (fun v iv wr => ∃ n : Nat, iv = .int .i64 n ∧ n ≤ is.length ∧ OwnG 3 (Value.int .i64) w1 wr v (is.take n)) (fun _ iv _ => is.length - (intOf iv).toNat)
        case atStart => exact ⟨0, rfl, by omega, by simpa using OwnG.nil (f := Value.int .i64) 3 w1 w1 (Below.refl _ _)⟩
        case round =>
          obtain ⟨n, rfl, hn, hO⟩ := hrel
          have O := hide hO
          have x0 := ((unhide X0).below hO.2).cell
          have zz := ((unhide X0).below hO.2).lt
          clear hO
          by_cases hlt : n < is.length
          · have hi : (n : Int) < (is.length : Int) := by omega
            obtain ⟨b, o, hq, hb, hc⟩ := (unhide H).2.2.2.1.lies (show 0 < is.length by omega)
            simp only at hq
            subst hq
            have k1 : wr.cell? ⟨b, o + n, none⟩ = some (.int .i64 (is.getD n 0)) := (((unhide B1).trans ((unhide O).2.mono (unhide B1).size)).cell (p := ⟨b, o + n, none⟩) hb).trans (hc n hlt)
            have HT := hide (take_succ is n hlt)
            obtain ⟨r0, r1⟩ := (unhide H).2.2.2.1.i64 n hlt
            simp only at r0 r1
            have hl : (is.take n).length = n := by rw [List.length_take]; omega
            clear hc
            generalize is.getD n 0 = x at k1 HT r0 r1
            go_wp2_with (at_builtin; (refine wpList_append_ls rfl _ _ 22 rfl w1 3 i1 (.int .i64 0) 8 Try.underlying22 hi1 y1 z1 b1 rfl (int_one .i64) _ (is.take n) rfl ((unhide O).below (al1 _ _)) (some ⟨wr.heap.size, 0, none⟩) 1 [x] rfl (ls_one _ _ _) (by unfold maxLen; rw [hl]; simp <;> omega) (by rw [hl]; simp <;> omega) ?_; intro v2 w2 O2; have HO2 := hide O2; clear O2))
            go_roundw
            case rel => exact ⟨n + 1, by go_num, by omega, by rw [unhide HT]; exact unhide HO2⟩
            case measure => simp [intOf]; omega
          · have hi : ¬ (n : Int) < (is.length : Int) := by omega
            obtain ⟨q, c, hv, hL, hF⟩ := (unhide O).form
            have hB := (unhide O).2
            rw [List.take_of_length_le (by omega)] at hv hL hF
            have HF := hide (hF.mono (unhide B1).size)
            subst hv
            have HL := hide hL
            have BB := hide (bl_tr (unhide B1) hB)
            clear hL hB hF O
            go_wp2_with fail
            go_ret2
            exact ⟨⟨q, c, rfl, (unhide HL).ints (unhide H).2.2.2.1.2.2.1, unhide HF⟩, unhide BB⟩
    · have e1 : intsE (ty, ds, fs, is, bs) = 5 := by unfold intsE; rw [if_neg (by rw [hc]; simp), if_pos h7]
      have e2 : intsV (ty, ds, fs, is, bs) = [] := by unfold intsV; rw [if_neg (by rw [e1]; decide)]
      rw [e1, e2]
      have h7b : (ty != 7) = true := bneT h7
      unfold tenV tenCells at CK
      simp only at CK
      unfold tenV tenCells
      simp only
      clear e1 e2 hc h h7
      go_enter Try.func27, Try.ntmps27
      go_wp2_with fail
      refine (unhide CK _ ((unhide H).below (al1 _ _))).mono ?_
      rintro e w1 ⟨rfl, hb⟩
      have X0 := hide (Box.below (Box.new w #[.int .i64 ty, .slice pd ds.length cd, .slice pf fs.length cf, .slice pi is.length ci, .slice pb bs.length cb] 27) hb)
      have x0 := (unhide X0).cell
      have B1 := hide (bl_tr (al1 _ _) hb)
      clear hb CK
      go_wp2_with fail
      go_ret2
      exact ⟨⟨none, 0, rfl, nilInts _ _, Fresh.nil _ _⟩, unhide B1⟩
  · have e1 : intsE (ty, ds, fs, is, bs) = checkV (ty, ds, fs, is, bs) := by unfold intsE; rw [if_pos hc]
    have e2 : intsV (ty, ds, fs, is, bs) = [] := by unfold intsV; rw [if_neg (by rw [e1]; exact hc)]
    rw [e1, e2]
    obtain ⟨E, hE⟩ : ∃ E, checkV (ty, ds, fs, is, bs) = E := ⟨_, rfl⟩
    rw [hE] at CK hc ⊢
    have hen : (E != 0) = true := bneT hc
    unfold tenV tenCells at CK
    simp only at CK
    unfold tenV tenCells
    simp only
    clear e1 e2 hc h hE
    go_enter Try.func27, Try.ntmps27
    go_wp2_with fail
    refine (unhide CK _ ((unhide H).below (al1 _ _))).mono ?_
    rintro e w1 ⟨rfl, hb⟩
    have B1 := hide (bl_tr (al1 _ _) hb)
    clear hb CK
    go_wp2_with fail
    go_ret2
    exact ⟨⟨none, 0, rfl, nilInts _ _, Fresh.nil _ _⟩, unhide B1⟩
end Go.Proofs.Ytbepkmehnghmcaa
