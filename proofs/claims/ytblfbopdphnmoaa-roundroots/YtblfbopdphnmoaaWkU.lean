/-
  Walks of the document's answers to products and quotients, and to Round.
-/
import Derived.Test.YtblfbopdphnmoaaWkT
namespace Go.Proofs.Ytblfbopdphnmoaa
open Go.RowKit
set_option linter.unusedVariables false

set_option maxRecDepth 100000 in
set_option maxHeartbeats 2000000 in
theorem rmulBy_fin (way a b : Int) (h0 : 0 ≤ a) (h1 : a < 4294967296) (g0 : 0 ≤ b) (g1 : b < 4294967296) (ha : Flt.mg a < 2139095040) (hb : Flt.mg b < 2139095040) (w : World) :
    Calls Try.prog 40 #[.int .i64 way, .int .u32 a, .int .u32 b] w fun e w' => e = .returned (.int .u32 (Flt.mulBy way a b)) ∧ Below w.heap.size w w' := by
  obtain ⟨r, e1, e2⟩ := Flt.mulBy_fin way a b h0 g0 ha hb
  obtain ⟨n1, n2⟩ := (Flt.fin_iff a).2 ha
  obtain ⟨n3, n4⟩ := (Flt.fin_iff b).2 hb
  have ea := mg_cast a h0
  have eb := mg_cast b g0
  rw [e1]
  have HR := hide e2
  clear e1 e2
  obtain ⟨ma, hma⟩ : ∃ ma, Flt.mg a = ma := ⟨_, rfl⟩
  obtain ⟨mb, hmb⟩ : ∃ mb, Flt.mg b = mb := ⟨_, rfl⟩
  rw [hma] at ea ha HR
  rw [hmb] at eb hb HR
  clear hma hmb
  have i1 : ((ma : Int) == 2139095040) = false := by simp; omega
  have i2 : ((mb : Int) == 2139095040) = false := by simp; omega
  go_enter Try.func40, Try.ntmps40
  go_wp2_with (first | (go_at_call 43; refine (risNone_any _ (by assumption) (by assumption) _).mono ?_; rintro e w' ⟨rfl, rfl⟩) | (go_at_call 42; refine (rabs_any _ (by assumption) (by assumption) _).mono ?_; rintro e w' ⟨rfl, rfl⟩) | (go_at_call 41; refine (rbelow_any _ (by assumption) (by assumption) _).mono ?_; rintro e w' ⟨rfl, rfl⟩) | (go_at_call 70; refine (rsigned_any _ _ (by omega) (by omega) _).mono ?_; rintro e w' ⟨rfl, rfl⟩))
  refine (amount_any ma (by omega) _).mono ?_
  rintro e x1 ⟨⟨v1, rfl, hv1⟩, hb1⟩
  go_wp2_with (first | (go_at_call 43; refine (risNone_any _ (by assumption) (by assumption) _).mono ?_; rintro e w' ⟨rfl, rfl⟩) | (go_at_call 42; refine (rabs_any _ (by assumption) (by assumption) _).mono ?_; rintro e w' ⟨rfl, rfl⟩) | (go_at_call 41; refine (rbelow_any _ (by assumption) (by assumption) _).mono ?_; rintro e w' ⟨rfl, rfl⟩) | (go_at_call 70; refine (rsigned_any _ _ (by omega) (by omega) _).mono ?_; rintro e w' ⟨rfl, rfl⟩))
  refine (amount_any mb (by omega) _).mono ?_
  rintro e x2 ⟨⟨v2, rfl, hv2⟩, hb2⟩
  have hbel2 := bl_tr hb1 hb2
  go_wp2_with fail
  refine (times_any v1 v2 _ _ 12 12 (by omega) (by omega) _ (hv1.below hb2) hv2).mono ?_
  rintro e x3 ⟨⟨v3, rfl, hv3⟩, hb3⟩
  have hbel3 := bl_tr hbel2 hb3
  go_wp2_with fail
  refine (of_any 1 (by omega) (by omega) _).mono ?_
  rintro e x4 ⟨⟨v4, rfl, hv4⟩, hb4⟩
  have hbel4 := bl_tr hbel3 hb4
  go_wp2_with fail
  refine (twice_any v4 _ 2 149 (by omega) (by omega) _ hv4).mono ?_
  rintro e x5 ⟨⟨v5, rfl, hv5⟩, hb5⟩
  have hbel5 := bl_tr hbel4 hb5
  go_wp2_with fail
  refine (rounded_any way (Flt.sgn a != Flt.sgn b) v3 v5 _ (2 ^ 149) 24 (by omega) (Nat.two_pow_pos _) _ (hv3.below (bl_tr hb4 hb5)) ((hv5.cast (by simp)).le (by omega))).mono ?_
  rintro e x6 ⟨⟨r', rfl, hr'⟩, hb6⟩
  go_wp2_with fail
  go_ret
  exact ⟨ret_int (by rw [Flt.RN_one (Nat.two_pow_pos _) (unhide HR) hr']), bl_tr hbel5 hb6⟩

set_option maxRecDepth 100000 in
set_option maxHeartbeats 4000000 in
theorem rmulBy_any (way a b : Int) (h0 : 0 ≤ a) (h1 : a < 4294967296) (g0 : 0 ≤ b) (g1 : b < 4294967296) (w : World) :
    Calls Try.prog 40 #[.int .i64 way, .int .u32 a, .int .u32 b] w fun e w' => e = .returned (.int .u32 (Flt.mulBy way a b)) ∧ Below w.heap.size w w' := by
  by_cases hf : Flt.mg a < 2139095040 ∧ Flt.mg b < 2139095040
  · exact rmulBy_fin way a b h0 h1 g0 g1 hf.1 hf.2 w
  · have hf' : ¬ ((Flt.isNaN a = false ∧ Flt.isInf a = false) ∧ (Flt.isNaN b = false ∧ Flt.isInf b = false)) := by rw [Flt.fin_iff, Flt.fin_iff]; exact hf
    unfold Flt.mulBy
    have ia : (Flt.absF a == 2139095040) = Flt.isInf a := by unfold Flt.isInf Flt.absF; rw [Bool.eq_iff_iff]; simp
    have ib : (Flt.absF b == 2139095040) = Flt.isInf b := by unfold Flt.isInf Flt.absF; rw [Bool.eq_iff_iff]; simp
    have za : (Flt.absF a == 0) = decide (a % 2147483648 = 0) := by unfold Flt.absF; rw [Bool.eq_iff_iff]; simp
    have zb : (Flt.absF b == 0) = decide (b % 2147483648 = 0) := by unfold Flt.absF; rw [Bool.eq_iff_iff]; simp
    have HF := hide hf'
    clear hf hf'
    cases n1 : Flt.isNaN a
    · cases n2 : Flt.isNaN b
      · cases n3 : Flt.isInf a
        · cases n4 : Flt.isInf b
          · exact absurd ⟨⟨n1, n3⟩, n2, n4⟩ (unhide HF)
          · have z2 : ¬ b % 2147483648 = 0 := by unfold Flt.isInf at n4; simp at n4; omega
            by_cases z1 : a % 2147483648 = 0
            · rw [if_neg (by simp), if_pos (by simp [z1])]
              rw [show decide (a % 2147483648 = 0) = true by simp [z1]] at za
              rw [n3] at ia; rw [n4] at ib
              clear z1 z2 zb
              go_enter Try.func40, Try.ntmps40
              go_wp2_with (first | (go_at_call 43; refine (risNone_any _ (by assumption) (by assumption) _).mono ?_; rintro e w' ⟨rfl, rfl⟩) | (go_at_call 42; refine (rabs_any _ (by assumption) (by assumption) _).mono ?_; rintro e w' ⟨rfl, rfl⟩) | (go_at_call 41; refine (rbelow_any _ (by assumption) (by assumption) _).mono ?_; rintro e w' ⟨rfl, rfl⟩) | (go_at_call 70; refine (rsigned_any _ _ (by omega) (by omega) _).mono ?_; rintro e w' ⟨rfl, rfl⟩))
              go_ret
              exact ⟨rfl, Below.refl _ _⟩
            · rw [if_neg (by simp), if_neg (by simp [z1]), if_pos (by simp)]
              rw [show decide (a % 2147483648 = 0) = false by simp [z1]] at za
              rw [show decide (b % 2147483648 = 0) = false by simp [z2]] at zb
              rw [n3] at ia; rw [n4] at ib
              clear z1 z2
              go_enter Try.func40, Try.ntmps40
              go_wp2_with (first | (go_at_call 43; refine (risNone_any _ (by assumption) (by assumption) _).mono ?_; rintro e w' ⟨rfl, rfl⟩) | (go_at_call 42; refine (rabs_any _ (by assumption) (by assumption) _).mono ?_; rintro e w' ⟨rfl, rfl⟩) | (go_at_call 41; refine (rbelow_any _ (by assumption) (by assumption) _).mono ?_; rintro e w' ⟨rfl, rfl⟩) | (go_at_call 70; refine (rsigned_any _ _ (by omega) (by omega) _).mono ?_; rintro e w' ⟨rfl, rfl⟩))
              go_ret
              exact ⟨ret_int rfl, Below.refl _ _⟩
        · have z1 : ¬ a % 2147483648 = 0 := by unfold Flt.isInf at n3; simp at n3; omega
          rw [show decide (a % 2147483648 = 0) = false by simp [z1]] at za
          rw [n3] at ia
          by_cases z2 : b % 2147483648 = 0
          · rw [if_neg (by simp), if_pos (by simp [z2])]
            rw [show decide (b % 2147483648 = 0) = true by simp [z2]] at zb
            clear z1 z2
            go_enter Try.func40, Try.ntmps40
            go_wp2_with (first | (go_at_call 43; refine (risNone_any _ (by assumption) (by assumption) _).mono ?_; rintro e w' ⟨rfl, rfl⟩) | (go_at_call 42; refine (rabs_any _ (by assumption) (by assumption) _).mono ?_; rintro e w' ⟨rfl, rfl⟩) | (go_at_call 41; refine (rbelow_any _ (by assumption) (by assumption) _).mono ?_; rintro e w' ⟨rfl, rfl⟩) | (go_at_call 70; refine (rsigned_any _ _ (by omega) (by omega) _).mono ?_; rintro e w' ⟨rfl, rfl⟩))
            go_ret
            exact ⟨rfl, Below.refl _ _⟩
          · rw [if_neg (by simp), if_neg (by simp [z1, z2]), if_pos (by simp)]
            rw [show decide (b % 2147483648 = 0) = false by simp [z2]] at zb
            clear z1 z2
            go_enter Try.func40, Try.ntmps40
            go_wp2_with (first | (go_at_call 43; refine (risNone_any _ (by assumption) (by assumption) _).mono ?_; rintro e w' ⟨rfl, rfl⟩) | (go_at_call 42; refine (rabs_any _ (by assumption) (by assumption) _).mono ?_; rintro e w' ⟨rfl, rfl⟩) | (go_at_call 41; refine (rbelow_any _ (by assumption) (by assumption) _).mono ?_; rintro e w' ⟨rfl, rfl⟩) | (go_at_call 70; refine (rsigned_any _ _ (by omega) (by omega) _).mono ?_; rintro e w' ⟨rfl, rfl⟩))
            go_ret
            exact ⟨ret_int rfl, Below.refl _ _⟩
      · rw [if_pos (by simp)]
        clear ia ib za zb
        go_enter Try.func40, Try.ntmps40
        go_wp2_with (first | (go_at_call 43; refine (risNone_any _ (by assumption) (by assumption) _).mono ?_; rintro e w' ⟨rfl, rfl⟩) | (go_at_call 42; refine (rabs_any _ (by assumption) (by assumption) _).mono ?_; rintro e w' ⟨rfl, rfl⟩) | (go_at_call 41; refine (rbelow_any _ (by assumption) (by assumption) _).mono ?_; rintro e w' ⟨rfl, rfl⟩) | (go_at_call 70; refine (rsigned_any _ _ (by omega) (by omega) _).mono ?_; rintro e w' ⟨rfl, rfl⟩))
        go_ret
        exact ⟨rfl, Below.refl _ _⟩
    · rw [if_pos (by simp)]
      clear ia ib za zb
      go_enter Try.func40, Try.ntmps40
      go_wp2_with (first | (go_at_call 43; refine (risNone_any _ (by assumption) (by assumption) _).mono ?_; rintro e w' ⟨rfl, rfl⟩) | (go_at_call 42; refine (rabs_any _ (by assumption) (by assumption) _).mono ?_; rintro e w' ⟨rfl, rfl⟩) | (go_at_call 41; refine (rbelow_any _ (by assumption) (by assumption) _).mono ?_; rintro e w' ⟨rfl, rfl⟩) | (go_at_call 70; refine (rsigned_any _ _ (by omega) (by omega) _).mono ?_; rintro e w' ⟨rfl, rfl⟩))
      go_ret
      exact ⟨rfl, Below.refl _ _⟩

end Go.Proofs.Ytblfbopdphnmoaa
