import Derived.Test.YtbepkmehnghmcaaIF
import Derived.Test.YtbepkmehnghmcaaHC

/-
  Layer 5: the code's Width, and what is wrong with a tensor.
-/
namespace Go.Proofs.Ytbepkmehnghmcaa
open Go.RowKit
set_option linter.unusedVariables false

set_option maxRecDepth 100000 in
theorem twidth_any (k : Int) (w : World) : Calls Try.prog 21 #[.int .i64 k] w fun e w' => e = .returned (.int .i64 (widthV k)) ∧ w' = w := by
  unfold widthV
  by_cases h1 : k = 1
  · subst h1
    go_enter Try.func21, Try.ntmps21
    go_wp2_with fail
    go_ret
    exact ⟨rfl, rfl⟩
  · have e1 : (k == 1) = false := by simp [h1]
    rw [if_neg h1]
    by_cases h7 : k = 7
    · subst h7
      go_enter Try.func21, Try.ntmps21
      go_wp2_with fail
      go_ret
      exact ⟨rfl, rfl⟩
    · have e7 : (k == 7) = false := by simp [h7]
      rw [if_neg h7]
      by_cases h9 : k = 9
      · subst h9
        go_enter Try.func21, Try.ntmps21
        go_wp2_with fail
        go_ret
        exact ⟨rfl, rfl⟩
      · have e9 : (k == 9) = false := by simp [h9]
        rw [if_neg h9]
        clear h1 h7 h9
        go_enter Try.func21, Try.ntmps21
        go_wp2_with fail
        go_ret
        exact ⟨rfl, rfl⟩
theorem width_known (k : Int) : (widthV k = 0 ↔ known k = false) := by
  unfold widthV known
  by_cases h1 : k = 1
  · subst h1; decide
  · by_cases h7 : k = 7
    · subst h7; decide
    · by_cases h9 : k = 9
      · subst h9; decide
      · simp [h1, h7, h9]
/-- How many elements a tensor of a type and dims has, and the error. -/
def sizedN (k : Int) (ds : List Int) : Int := if known k = false then 0 else (sizeV ds).1
set_option maxRecDepth 100000 in
theorem sized_any (k : Int) (p : Option Addr) (c : Nat) (ds : List Int) (w : World) (h : Ints .i64 w p c ds) :
    Calls Try.prog 39 #[.int .i64 k, .slice p ds.length c] w fun e w' => e = .returned (.tuple #[.int .i64 (sizedN k ds), .int .i64 (newE k ds)]) ∧ w' = w := by
  have KN := hide (fun w => twidth_any k w)
  have SZ := hide (fun w h => csize_any p c ds w h)
  have A1 := hide h
  clear h
  unfold sizedN newE
  cases hk : known k
  · rw [if_pos rfl, if_pos rfl]
    have e0 : widthV k = 0 := (width_known k).2 hk
    rw [e0] at KN
    clear e0 hk SZ
    go_enter Try.func39, Try.ntmps39
    go_wp2_with fail
    refine (unhide KN _).mono ?_
    rintro e w1 ⟨rfl, rfl⟩
    go_wp2_with fail
    go_ret2
    exact ⟨rfl, rfl⟩
  · rw [if_neg (by decide), if_neg (by decide)]
    obtain ⟨N, hN⟩ : ∃ N, (sizeV ds).1 = N := ⟨_, rfl⟩
    obtain ⟨E, hE⟩ : ∃ E, (sizeV ds).2 = E := ⟨_, rfl⟩
    rw [hN, hE] at SZ ⊢
    have e0 : ¬ widthV k = 0 := fun h => by rw [(width_known k).1 h] at hk; cases hk
    generalize widthV k = W at KN e0
    have e1 : (W == 0) = false := by simp [e0]
    clear hk hN hE e0
    go_enter Try.func39, Try.ntmps39
    go_wp2_with fail
    refine (unhide KN _).mono ?_
    rintro e w1 ⟨rfl, rfl⟩
    go_wp2_with fail
    refine (unhide SZ _ (unhide A1)).mono ?_
    rintro e w1 ⟨rfl, rfl⟩
    go_wp2_with fail
    go_ret2
    exact ⟨rfl, rfl⟩
set_option maxRecDepth 100000 in
theorem fits_uint32 (p : Option Addr) (n c : Nat) (own : Bool) (N : Int) (w : World) :
    Calls Try.prog 40 #[.slice p n c, .bool own, .int .i64 N] w fun e w' => e = .returned (.bool (decide ((n : Int) = if own then N else 0))) ∧ w' = w := by
  cases own
  · rw [if_neg (by decide)]
    go_enter Try.func40, Try.ntmps40
    go_wp2_with fail
    go_ret
    exact ⟨ret_bool (by first | rfl | simp), rfl⟩
  · rw [if_pos rfl]
    go_enter Try.func40, Try.ntmps40
    go_wp2_with fail
    go_ret
    exact ⟨ret_bool (by first | rfl | simp), rfl⟩
set_option maxRecDepth 100000 in
theorem fits_int64 (p : Option Addr) (n c : Nat) (own : Bool) (N : Int) (w : World) :
    Calls Try.prog 41 #[.slice p n c, .bool own, .int .i64 N] w fun e w' => e = .returned (.bool (decide ((n : Int) = if own then N else 0))) ∧ w' = w := by
  cases own
  · rw [if_neg (by decide)]
    go_enter Try.func41, Try.ntmps41
    go_wp2_with fail
    go_ret
    exact ⟨ret_bool (by first | rfl | simp), rfl⟩
  · rw [if_pos rfl]
    go_enter Try.func41, Try.ntmps41
    go_wp2_with fail
    go_ret
    exact ⟨ret_bool (by first | rfl | simp), rfl⟩
set_option maxRecDepth 100000 in
theorem fits_bool (p : Option Addr) (n c : Nat) (own : Bool) (N : Int) (w : World) :
    Calls Try.prog 42 #[.slice p n c, .bool own, .int .i64 N] w fun e w' => e = .returned (.bool (decide ((n : Int) = if own then N else 0))) ∧ w' = w := by
  cases own
  · rw [if_neg (by decide)]
    go_enter Try.func42, Try.ntmps42
    go_wp2_with fail
    go_ret
    exact ⟨ret_bool (by first | rfl | simp), rfl⟩
  · rw [if_pos rfl]
    go_enter Try.func42, Try.ntmps42
    go_wp2_with fail
    go_ret
    exact ⟨ret_bool (by first | rfl | simp), rfl⟩
theorem checkV_eq (T : Ten) : checkV T = if newE T.1 T.2.1 ≠ 0 then newE T.1 T.2.1 else if decide ((T.2.2.1.length : Int) = if (T.1 == 1) then sizedN T.1 T.2.1 else 0) = true ∧ decide ((T.2.2.2.1.length : Int) = if (T.1 == 7) then sizedN T.1 T.2.1 else 0) = true ∧ decide ((T.2.2.2.2.length : Int) = if (T.1 == 9) then sizedN T.1 T.2.1 else 0) = true then 0 else 3 := by
  unfold checkV newE sizedN
  cases hk : known T.1
  · simp
  · simp
set_option maxRecDepth 100000 in
set_option maxHeartbeats 4000000 in
theorem tcheck_any (T : Ten) (A : TA) (w : World) (h : TenIn w T A) :
    Calls Try.prog 16 #[tenV T A] w fun e w' => e = .returned (.int .i64 (checkV T)) ∧ Below w.heap.size w w' := by
  rw [checkV_eq]
  obtain ⟨ty, ds, fs, is, bs⟩ := T
  obtain ⟨pd, cd, pf, cf, pi, ci, pb, cb⟩ := A
  obtain ⟨a0, a1, a2, a3, a4⟩ := h
  simp only at a0 a1 a2 a3 a4
  unfold tenV tenCells
  simp only
  have SZ := hide (fun w h => sized_any ty pd cd ds w h)
  obtain ⟨N, hN⟩ : ∃ N, sizedN ty ds = N := ⟨_, rfl⟩
  obtain ⟨E, hE⟩ : ∃ E, newE ty ds = E := ⟨_, rfl⟩
  rw [hN, hE] at SZ ⊢
  clear hN hE
  have A1 := hide a1
  clear a1 a2 a3 a4
  by_cases he : E = 0
  · subst he
    rw [if_neg (by simp)]
    have F1 := hide (fun w => fits_uint32 pf fs.length cf (ty == 1) N w)
    have F2 := hide (fun w => fits_int64 pi is.length ci (ty == 7) N w)
    have F3 := hide (fun w => fits_bool pb bs.length cb (ty == 9) N w)
    generalize decide ((fs.length : Int) = if (ty == 1) = true then N else 0) = d1 at F1 ⊢
    generalize decide ((is.length : Int) = if (ty == 7) = true then N else 0) = d2 at F2 ⊢
    generalize decide ((bs.length : Int) = if (ty == 9) = true then N else 0) = d3 at F3 ⊢
    cases d1
    · rw [if_neg (by simp)]
      go_enter Try.func16, Try.ntmps16
      go_wp2_with fail
      refine (unhide SZ _ ((unhide A1).below (al1 _ _))).mono ?_
      rintro e w1 ⟨rfl, rfl⟩
      go_wp2_with fail
      refine (unhide F1 _).mono ?_
      rintro e w1 ⟨rfl, rfl⟩
      go_wp2_with fail
      go_ret
      exact ⟨rfl, al1 _ _⟩
    · cases d2
      · rw [if_neg (by simp)]
        go_enter Try.func16, Try.ntmps16
        go_wp2_with fail
        refine (unhide SZ _ ((unhide A1).below (al1 _ _))).mono ?_
        rintro e w1 ⟨rfl, rfl⟩
        go_wp2_with fail
        refine (unhide F1 _).mono ?_
        rintro e w1 ⟨rfl, rfl⟩
        go_wp2_with fail
        refine (unhide F2 _).mono ?_
        rintro e w1 ⟨rfl, rfl⟩
        go_wp2_with fail
        go_ret
        exact ⟨rfl, al1 _ _⟩
      · cases d3
        rw [if_neg (by simp)]
        rotate_left
        rw [if_pos (by simp)]
        all_goals
          go_enter Try.func16, Try.ntmps16
          go_wp2_with fail
          refine (unhide SZ _ ((unhide A1).below (al1 _ _))).mono ?_
          rintro e w1 ⟨rfl, rfl⟩
          go_wp2_with fail
          refine (unhide F1 _).mono ?_
          rintro e w1 ⟨rfl, rfl⟩
          go_wp2_with fail
          refine (unhide F2 _).mono ?_
          rintro e w1 ⟨rfl, rfl⟩
          go_wp2_with fail
          refine (unhide F3 _).mono ?_
          rintro e w1 ⟨rfl, rfl⟩
          go_wp2_with fail
          go_ret
          exact ⟨rfl, al1 _ _⟩
  · rw [if_pos he]
    have t1 : (E != 0) = true := bneT he
    clear he
    go_enter Try.func16, Try.ntmps16
    go_wp2_with fail
    refine (unhide SZ _ ((unhide A1).below (al1 _ _))).mono ?_
    rintro e w1 ⟨rfl, rfl⟩
    go_wp2_with fail
    go_ret
    exact ⟨rfl, al1 _ _⟩
end Go.Proofs.Ytbepkmehnghmcaa
