import Derived.Test.YtbepkmehnghmcaaIC

/-
  Layer 5: the document's Check.
-/
namespace Go.Proofs.Ytbepkmehnghmcaa
open Go.RowKit
set_option linter.unusedVariables false

theorem bneT {a b : Int} (h : ¬ a = b) : (a != b) = true := by simp [h]
theorem bneF {a b : Int} (h : a = b) : (a != b) = false := by simp [h]
theorem known_cases {k : Int} (h : known k = true) : k = 1 ∨ k = 7 ∨ k = 9 := by
  unfold known at h
  simp at h
  omega
set_option maxRecDepth 100000 in
set_option maxHeartbeats 4000000 in
theorem rcheck_any (T : Ten) (A : TA) (w : World) (h : TenIn w T A) :
    Calls Try.prog 17 #[tenV T A] w fun e w' => e = .returned (.int .i64 (checkV T)) ∧ Below w.heap.size w w' := by
  obtain ⟨ty, ds, fs, is, bs⟩ := T
  obtain ⟨pd, cd, pf, cf, pi, ci, pb, cb⟩ := A
  obtain ⟨a0, a1, a2, a3, a4⟩ := h
  simp only at a0 a1 a2 a3 a4
  unfold tenV tenCells
  simp only
  have hb : ∀ o, Below w.heap.size w (w.alloc o) := fun o => (Below.refl _ _).alloc (Nat.le_refl _) _
  have HB := hide hb
  cases hk : known ty
  · have KN := hide (fun w => rknown_any ty w)
    rw [hk] at KN
    have HV : Hid (checkV (ty, ds, fs, is, bs) = 5) := hide (by unfold checkV; rw [if_pos hk])
    clear hk hb a1 a2 a3 a4
    go_enter Try.func17, Try.ntmps17
    go_wp2_with fail
    refine (unhide KN _).mono ?_
    rintro e w1 ⟨rfl, rfl⟩
    go_wp2_with fail
    go_ret
    exact ⟨ret_int (unhide HV).symm, unhide HB _⟩
  · have KN := hide (fun w => rknown_any ty w)
    rw [hk] at KN
    have SZ := hide (fun w h => rsize_any pd cd ds w h)
    obtain ⟨N, hN⟩ : ∃ N, (sizeV ds).1 = N := ⟨_, rfl⟩
    obtain ⟨E, hE⟩ : ∃ E, (sizeV ds).2 = E := ⟨_, rfl⟩
    rw [hN, hE] at SZ
    have A1 := hide a1
    by_cases he : E = 0
    · have HV : Hid (checkV (ty, ds, fs, is, bs) = if (fs.length : Int) = (if ty = 1 then N else 0) ∧ (is.length : Int) = (if ty = 7 then N else 0) ∧ (bs.length : Int) = (if ty = 9 then N else 0) then 0 else 3) := hide (by
        unfold checkV; rw [if_neg (by rw [hk]; decide), if_neg (by rw [hE]; simp [he]), hN])
      have fl := a2.len
      have il := a3.len
      have bl := a4.len
      subst he
      clear hb a1 a2 a3 a4 hN hE
      generalize fs.length = n1 at *
      generalize is.length = n2 at *
      generalize bs.length = n3 at *
      rcases known_cases hk with rfl | rfl | rfl
      · clear hk
        by_cases c1 : (n1 : Int) = N
        · have t1 : ((n1 : Int) != N) = false := bneF c1
          by_cases c2 : (n2 : Int) = 0
          · have t2 : ((n2 : Int) != 0) = false := bneF c2
            by_cases c3 : (n3 : Int) = 0
            · have t3 : ((n3 : Int) != 0) = false := bneF c3
              have HV2 := hide ((unhide HV).trans (if_pos ⟨c1, c2, c3⟩))
              clear c1 HV
              go_enter Try.func17, Try.ntmps17
              go_wp2_with fail
              refine (unhide KN _).mono ?_
              rintro e w1 ⟨rfl, rfl⟩
              go_wp2_with fail
              refine (unhide SZ _ ((unhide A1).below (unhide HB _))).mono ?_
              rintro e w2 ⟨rfl, rfl⟩
              go_wp2_with fail
              go_ret
              exact ⟨ret_int (unhide HV2).symm, unhide HB _⟩
            · have t3 : ((n3 : Int) != 0) = true := bneT c3
              have HV2 := hide ((unhide HV).trans (if_neg (fun h => c3 h.2.2)))
              clear c1 HV
              go_enter Try.func17, Try.ntmps17
              go_wp2_with fail
              refine (unhide KN _).mono ?_
              rintro e w1 ⟨rfl, rfl⟩
              go_wp2_with fail
              refine (unhide SZ _ ((unhide A1).below (unhide HB _))).mono ?_
              rintro e w2 ⟨rfl, rfl⟩
              go_wp2_with fail
              go_ret
              exact ⟨ret_int (unhide HV2).symm, unhide HB _⟩
          · have t2 : ((n2 : Int) != 0) = true := bneT c2
            have HV2 := hide ((unhide HV).trans (if_neg (fun h => c2 h.2.1)))
            clear c1 HV
            go_enter Try.func17, Try.ntmps17
            go_wp2_with fail
            refine (unhide KN _).mono ?_
            rintro e w1 ⟨rfl, rfl⟩
            go_wp2_with fail
            refine (unhide SZ _ ((unhide A1).below (unhide HB _))).mono ?_
            rintro e w2 ⟨rfl, rfl⟩
            go_wp2_with fail
            go_ret
            exact ⟨ret_int (unhide HV2).symm, unhide HB _⟩
        · have t1 : ((n1 : Int) != N) = true := bneT c1
          have HV2 := hide ((unhide HV).trans (if_neg (fun h => c1 h.1)))
          clear c1 HV
          go_enter Try.func17, Try.ntmps17
          go_wp2_with fail
          refine (unhide KN _).mono ?_
          rintro e w1 ⟨rfl, rfl⟩
          go_wp2_with fail
          refine (unhide SZ _ ((unhide A1).below (unhide HB _))).mono ?_
          rintro e w2 ⟨rfl, rfl⟩
          go_wp2_with fail
          go_ret
          exact ⟨ret_int (unhide HV2).symm, unhide HB _⟩
      · clear hk
        by_cases c1 : (n1 : Int) = 0
        · have t1 : ((n1 : Int) != 0) = false := bneF c1
          by_cases c2 : (n2 : Int) = N
          · have t2 : ((n2 : Int) != N) = false := bneF c2
            by_cases c3 : (n3 : Int) = 0
            · have t3 : ((n3 : Int) != 0) = false := bneF c3
              have HV2 := hide ((unhide HV).trans (if_pos ⟨c1, c2, c3⟩))
              clear c1 HV
              go_enter Try.func17, Try.ntmps17
              go_wp2_with fail
              refine (unhide KN _).mono ?_
              rintro e w1 ⟨rfl, rfl⟩
              go_wp2_with fail
              refine (unhide SZ _ ((unhide A1).below (unhide HB _))).mono ?_
              rintro e w2 ⟨rfl, rfl⟩
              go_wp2_with fail
              go_ret
              exact ⟨ret_int (unhide HV2).symm, unhide HB _⟩
            · have t3 : ((n3 : Int) != 0) = true := bneT c3
              have HV2 := hide ((unhide HV).trans (if_neg (fun h => c3 h.2.2)))
              clear c1 HV
              go_enter Try.func17, Try.ntmps17
              go_wp2_with fail
              refine (unhide KN _).mono ?_
              rintro e w1 ⟨rfl, rfl⟩
              go_wp2_with fail
              refine (unhide SZ _ ((unhide A1).below (unhide HB _))).mono ?_
              rintro e w2 ⟨rfl, rfl⟩
              go_wp2_with fail
              go_ret
              exact ⟨ret_int (unhide HV2).symm, unhide HB _⟩
          · have t2 : ((n2 : Int) != N) = true := bneT c2
            have HV2 := hide ((unhide HV).trans (if_neg (fun h => c2 h.2.1)))
            clear c1 HV
            go_enter Try.func17, Try.ntmps17
            go_wp2_with fail
            refine (unhide KN _).mono ?_
            rintro e w1 ⟨rfl, rfl⟩
            go_wp2_with fail
            refine (unhide SZ _ ((unhide A1).below (unhide HB _))).mono ?_
            rintro e w2 ⟨rfl, rfl⟩
            go_wp2_with fail
            go_ret
            exact ⟨ret_int (unhide HV2).symm, unhide HB _⟩
        · have t1 : ((n1 : Int) != 0) = true := bneT c1
          have HV2 := hide ((unhide HV).trans (if_neg (fun h => c1 h.1)))
          clear c1 HV
          go_enter Try.func17, Try.ntmps17
          go_wp2_with fail
          refine (unhide KN _).mono ?_
          rintro e w1 ⟨rfl, rfl⟩
          go_wp2_with fail
          refine (unhide SZ _ ((unhide A1).below (unhide HB _))).mono ?_
          rintro e w2 ⟨rfl, rfl⟩
          go_wp2_with fail
          go_ret
          exact ⟨ret_int (unhide HV2).symm, unhide HB _⟩
      · clear hk
        by_cases c1 : (n1 : Int) = 0
        · have t1 : ((n1 : Int) != 0) = false := bneF c1
          by_cases c2 : (n2 : Int) = 0
          · have t2 : ((n2 : Int) != 0) = false := bneF c2
            by_cases c3 : (n3 : Int) = N
            · have t3 : ((n3 : Int) != N) = false := bneF c3
              have HV2 := hide ((unhide HV).trans (if_pos ⟨c1, c2, c3⟩))
              clear c1 HV
              go_enter Try.func17, Try.ntmps17
              go_wp2_with fail
              refine (unhide KN _).mono ?_
              rintro e w1 ⟨rfl, rfl⟩
              go_wp2_with fail
              refine (unhide SZ _ ((unhide A1).below (unhide HB _))).mono ?_
              rintro e w2 ⟨rfl, rfl⟩
              go_wp2_with fail
              go_ret
              exact ⟨ret_int (unhide HV2).symm, unhide HB _⟩
            · have t3 : ((n3 : Int) != N) = true := bneT c3
              have HV2 := hide ((unhide HV).trans (if_neg (fun h => c3 h.2.2)))
              clear c1 HV
              go_enter Try.func17, Try.ntmps17
              go_wp2_with fail
              refine (unhide KN _).mono ?_
              rintro e w1 ⟨rfl, rfl⟩
              go_wp2_with fail
              refine (unhide SZ _ ((unhide A1).below (unhide HB _))).mono ?_
              rintro e w2 ⟨rfl, rfl⟩
              go_wp2_with fail
              go_ret
              exact ⟨ret_int (unhide HV2).symm, unhide HB _⟩
          · have t2 : ((n2 : Int) != 0) = true := bneT c2
            have HV2 := hide ((unhide HV).trans (if_neg (fun h => c2 h.2.1)))
            clear c1 HV
            go_enter Try.func17, Try.ntmps17
            go_wp2_with fail
            refine (unhide KN _).mono ?_
            rintro e w1 ⟨rfl, rfl⟩
            go_wp2_with fail
            refine (unhide SZ _ ((unhide A1).below (unhide HB _))).mono ?_
            rintro e w2 ⟨rfl, rfl⟩
            go_wp2_with fail
            go_ret
            exact ⟨ret_int (unhide HV2).symm, unhide HB _⟩
        · have t1 : ((n1 : Int) != 0) = true := bneT c1
          have HV2 := hide ((unhide HV).trans (if_neg (fun h => c1 h.1)))
          clear c1 HV
          go_enter Try.func17, Try.ntmps17
          go_wp2_with fail
          refine (unhide KN _).mono ?_
          rintro e w1 ⟨rfl, rfl⟩
          go_wp2_with fail
          refine (unhide SZ _ ((unhide A1).below (unhide HB _))).mono ?_
          rintro e w2 ⟨rfl, rfl⟩
          go_wp2_with fail
          go_ret
          exact ⟨ret_int (unhide HV2).symm, unhide HB _⟩
    · have HV : Hid (checkV (ty, ds, fs, is, bs) = E) := hide (by
        unfold checkV; rw [if_neg (by rw [hk]; decide), if_pos (by rw [hE]; exact he), hE])
      have hen : (E != 0) = true := by simp [he]
      clear hb a1 a2 a3 a4 hN hE he hk
      go_enter Try.func17, Try.ntmps17
      go_wp2_with fail
      refine (unhide KN _).mono ?_
      rintro e w1 ⟨rfl, rfl⟩
      go_wp2_with fail
      refine (unhide SZ _ ((unhide A1).below (unhide HB _))).mono ?_
      rintro e w2 ⟨rfl, rfl⟩
      go_wp2_with fail
      go_ret
      exact ⟨ret_int (unhide HV).symm, unhide HB _⟩
end Go.Proofs.Ytbepkmehnghmcaa
