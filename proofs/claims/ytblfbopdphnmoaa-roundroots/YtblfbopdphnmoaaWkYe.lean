/-
  Walks of the document's answers to roots and fused products and sums where nothing is rounded.
-/
import Derived.Test.YtblfbopdphnmoaaWkYa
import Derived.Test.YtblfbopdphnmoaaWkYc
import Derived.Test.YtblfbopdphnmoaaFltL
namespace Go.Proofs.Ytblfbopdphnmoaa
open Go.RowKit
set_option linter.unusedVariables false

theorem sg_no (a b : Bool) (h : (a == b) = false) (e : a = b) : False := by subst e; simp at h
theorem sg_yes (a b : Bool) (h : (a == b) = true) (e : ¬ a = b) : False := e (by simpa using h)

set_option maxRecDepth 100000 in
set_option maxHeartbeats 1000000 in
theorem rsqrtBy_x (way a : Int) (h0 : 0 ≤ a) (h1 : a < 4294967296) (hx : Flt.isNaN a = true ∨ Flt.absF a = 0 ∨ a = 2139095040 ∨ Flt.sgn a = true) (w : World) :
    Calls Try.prog 15 #[.int .i64 way, .int .u32 a] w fun e w' => e = .returned (.int .u32 (Flt.sqrtX a)) ∧ w' = w := by
  unfold Flt.sqrtX
  cases hn : Flt.isNaN a
  · rw [if_neg (by simp)]
    by_cases hz : Flt.absF a = 0
    · have hz' : (Flt.absF a == 0) = true := by simp [hz]
      rw [if_pos (.inl hz)]
      clear hz hx
      go_enter Try.func15, Try.ntmps15
      go_wp2_with (first | (go_at_call 43; refine (risNone_any _ (by assumption) (by assumption) _).mono ?_; rintro e w' ⟨rfl, rfl⟩) | (go_at_call 42; refine (rabs_any _ (by assumption) (by assumption) _).mono ?_; rintro e w' ⟨rfl, rfl⟩) | (go_at_call 41; refine (rbelow_any _ (by assumption) (by assumption) _).mono ?_; rintro e w' ⟨rfl, rfl⟩))
      go_ret
      exact ⟨rfl, rfl⟩
    · have hz' : (Flt.absF a == 0) = false := by simp [hz]
      by_cases hi : a = 2139095040
      · have hi' : (a == 2139095040) = true := by simp [hi]
        rw [if_pos (.inr hi)]
        clear hz hx hi
        go_enter Try.func15, Try.ntmps15
        go_wp2_with (first | (go_at_call 43; refine (risNone_any _ (by assumption) (by assumption) _).mono ?_; rintro e w' ⟨rfl, rfl⟩) | (go_at_call 42; refine (rabs_any _ (by assumption) (by assumption) _).mono ?_; rintro e w' ⟨rfl, rfl⟩) | (go_at_call 41; refine (rbelow_any _ (by assumption) (by assumption) _).mono ?_; rintro e w' ⟨rfl, rfl⟩))
        go_ret
        exact ⟨rfl, rfl⟩
      · have hi' : (a == 2139095040) = false := by simp [hi]
        have hs : Flt.sgn a = true := by
          rcases hx with h | h | h | h
          · rw [hn] at h; cases h
          · exact absurd h hz
          · exact absurd h hi
          · exact h
        rw [if_neg (fun h => h.elim hz hi)]
        clear hz hx hi
        go_enter Try.func15, Try.ntmps15
        go_wp2_with (first | (go_at_call 43; refine (risNone_any _ (by assumption) (by assumption) _).mono ?_; rintro e w' ⟨rfl, rfl⟩) | (go_at_call 42; refine (rabs_any _ (by assumption) (by assumption) _).mono ?_; rintro e w' ⟨rfl, rfl⟩) | (go_at_call 41; refine (rbelow_any _ (by assumption) (by assumption) _).mono ?_; rintro e w' ⟨rfl, rfl⟩))
        go_ret
        exact ⟨rfl, rfl⟩
  · rw [if_pos rfl]
    clear hx
    go_enter Try.func15, Try.ntmps15
    go_wp2_with (first | (go_at_call 43; refine (risNone_any _ (by assumption) (by assumption) _).mono ?_; rintro e w' ⟨rfl, rfl⟩) | (go_at_call 42; refine (rabs_any _ (by assumption) (by assumption) _).mono ?_; rintro e w' ⟨rfl, rfl⟩) | (go_at_call 41; refine (rbelow_any _ (by assumption) (by assumption) _).mono ?_; rintro e w' ⟨rfl, rfl⟩))
    go_ret
    exact ⟨rfl, rfl⟩

set_option maxRecDepth 100000 in
set_option maxHeartbeats 4000000 in
theorem rfmaBy_x (way a b c : Int) (h0 : 0 ≤ a) (h1 : a < 4294967296) (g0 : 0 ≤ b) (g1 : b < 4294967296) (k0 : 0 ≤ c) (k1 : c < 4294967296)
    (hx : (Flt.isNaN a || Flt.isNaN b || Flt.isNaN c || Flt.isNaN (Flt.mulBy 0 a b) || Flt.isInf a || Flt.isInf b || Flt.isInf c) = true) (w : World) :
    Calls Try.prog 11 #[.int .i64 way, .int .u32 a, .int .u32 b, .int .u32 c] w fun e w' => e = .returned (.int .u32 (Flt.fmaX a b c)) ∧ Below w.heap.size w w' := by
  obtain ⟨q0, q1, _⟩ := Flt.mulBy_good 0 a b h0 g0
  have ia : (Flt.absF a == 2139095040) = Flt.isInf a := by unfold Flt.isInf Flt.absF; rw [Bool.eq_iff_iff]; simp
  have ib : (Flt.absF b == 2139095040) = Flt.isInf b := by unfold Flt.isInf Flt.absF; rw [Bool.eq_iff_iff]; simp
  have ic : (Flt.absF c == 2139095040) = Flt.isInf c := by unfold Flt.isInf Flt.absF; rw [Bool.eq_iff_iff]; simp
  have HX := hide hx
  clear hx
  have M := hide (fun w => rmulBy_any 0 a b h0 h1 g0 g1 w)
  unfold Flt.fmaX
  obtain ⟨p, hp⟩ : ∃ p, Flt.mulBy 0 a b = p := ⟨_, rfl⟩
  rw [hp] at HX M q0 q1 ⊢
  clear hp
  obtain ⟨sg, hsg⟩ : ∃ sg, (Flt.sgn a != Flt.sgn b) = sg := ⟨_, rfl⟩
  have hsg' : (!(Flt.sgn a == Flt.sgn b)) = sg := hsg
  rw [hsg]
  clear hsg
  cases n1 : Flt.isNaN a
  · cases n2 : Flt.isNaN b
    · cases n3 : Flt.isNaN c
      · cases n4 : Flt.isNaN p
        · cases n5 : Flt.isInf a <;> cases n6 : Flt.isInf b <;> cases n7 : Flt.isInf c <;> cases n8 : (Flt.sgn c == sg)
          all_goals rw [n1, n2, n3, n4, n5, n6, n7] at HX
          all_goals first | (exact absurd (unhide HX) (by decide)) | skip
          all_goals clear HX
          all_goals
            go_enter Try.func11, Try.ntmps11
            go_wp2_with fail
            refine (unhide M _).mono ?_
            rintro e x0 ⟨rfl, hb0⟩
            go_wp2_with (first | (go_at_call 43; refine (risNone_any _ (by assumption) (by assumption) _).mono ?_; rintro e w' ⟨rfl, rfl⟩) | (go_at_call 42; refine (rabs_any _ (by assumption) (by assumption) _).mono ?_; rintro e w' ⟨rfl, rfl⟩) | (go_at_call 41; refine (rbelow_any _ (by assumption) (by assumption) _).mono ?_; rintro e w' ⟨rfl, rfl⟩))
          all_goals go_ret
          all_goals (refine ⟨ret_int ?_, hb0⟩)
          all_goals first | rfl | (exfalso; refine sg_no _ _ n8 ?_; assumption) | (exfalso; refine sg_yes _ _ n8 ?_; assumption)
        · go_enter Try.func11, Try.ntmps11
          go_wp2_with fail
          refine (unhide M _).mono ?_
          rintro e x0 ⟨rfl, hb0⟩
          go_wp2_with (first | (go_at_call 43; refine (risNone_any _ (by assumption) (by assumption) _).mono ?_; rintro e w' ⟨rfl, rfl⟩) | (go_at_call 42; refine (rabs_any _ (by assumption) (by assumption) _).mono ?_; rintro e w' ⟨rfl, rfl⟩) | (go_at_call 41; refine (rbelow_any _ (by assumption) (by assumption) _).mono ?_; rintro e w' ⟨rfl, rfl⟩))
          all_goals go_ret
          all_goals exact ⟨ret_int (by simp), hb0⟩
      · go_enter Try.func11, Try.ntmps11
        go_wp2_with fail
        refine (unhide M _).mono ?_
        rintro e x0 ⟨rfl, hb0⟩
        go_wp2_with (first | (go_at_call 43; refine (risNone_any _ (by assumption) (by assumption) _).mono ?_; rintro e w' ⟨rfl, rfl⟩) | (go_at_call 42; refine (rabs_any _ (by assumption) (by assumption) _).mono ?_; rintro e w' ⟨rfl, rfl⟩) | (go_at_call 41; refine (rbelow_any _ (by assumption) (by assumption) _).mono ?_; rintro e w' ⟨rfl, rfl⟩))
        all_goals go_ret
        all_goals exact ⟨ret_int (by simp), hb0⟩
    · go_enter Try.func11, Try.ntmps11
      go_wp2_with fail
      refine (unhide M _).mono ?_
      rintro e x0 ⟨rfl, hb0⟩
      go_wp2_with (first | (go_at_call 43; refine (risNone_any _ (by assumption) (by assumption) _).mono ?_; rintro e w' ⟨rfl, rfl⟩) | (go_at_call 42; refine (rabs_any _ (by assumption) (by assumption) _).mono ?_; rintro e w' ⟨rfl, rfl⟩) | (go_at_call 41; refine (rbelow_any _ (by assumption) (by assumption) _).mono ?_; rintro e w' ⟨rfl, rfl⟩))
      all_goals go_ret
      all_goals exact ⟨ret_int (by simp), hb0⟩
  · go_enter Try.func11, Try.ntmps11
    go_wp2_with fail
    refine (unhide M _).mono ?_
    rintro e x0 ⟨rfl, hb0⟩
    go_wp2_with (first | (go_at_call 43; refine (risNone_any _ (by assumption) (by assumption) _).mono ?_; rintro e w' ⟨rfl, rfl⟩) | (go_at_call 42; refine (rabs_any _ (by assumption) (by assumption) _).mono ?_; rintro e w' ⟨rfl, rfl⟩) | (go_at_call 41; refine (rbelow_any _ (by assumption) (by assumption) _).mono ?_; rintro e w' ⟨rfl, rfl⟩))
    all_goals go_ret
    all_goals exact ⟨ret_int (by simp), hb0⟩
end Go.Proofs.Ytblfbopdphnmoaa
