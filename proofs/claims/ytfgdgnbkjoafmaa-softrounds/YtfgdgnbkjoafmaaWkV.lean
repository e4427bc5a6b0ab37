/-
  Walks of the document's answers to quotients, and to Round.
-/
import Derived.Test.YtfgdgnbkjoafmaaWkU
import Derived.Test.YtfgdgnbkjoafmaaFltJ
namespace Go.Proofs.Ytfgdgnbkjoafmaa
open Go.RowKit
set_option linter.unusedVariables false

set_option maxRecDepth 100000 in
set_option maxHeartbeats 2000000 in
theorem rdivBy_fin (way a b : Int) (h0 : 0 ≤ a) (h1 : a < 4294967296) (g0 : 0 ≤ b) (g1 : b < 4294967296) (ha : Flt.mg a < 2139095040) (hb : Flt.mg b < 2139095040) (za : Flt.mg a ≠ 0) (zb : Flt.mg b ≠ 0) (w : World) :
    Calls Try.prog 23 #[.int .i64 way, .int .u32 a, .int .u32 b] w fun e w' => e = .returned (.int .u32 (Flt.divBy way a b)) ∧ Below w.heap.size w w' := by
  obtain ⟨r, e1, e2⟩ := Flt.divBy_fin way a b h0 g0 ha hb za zb
  obtain ⟨n1, n2⟩ := (Flt.fin_iff a).2 ha
  obtain ⟨n3, n4⟩ := (Flt.fin_iff b).2 hb
  have ea := mg_cast a h0
  have eb := mg_cast b g0
  rw [e1]
  have HR := hide e2
  clear e1 e2
  obtain ⟨ma, hma⟩ : ∃ ma, Flt.mg a = ma := ⟨_, rfl⟩
  obtain ⟨mb, hmb⟩ : ∃ mb, Flt.mg b = mb := ⟨_, rfl⟩
  rw [hma] at ea ha za HR
  rw [hmb] at eb hb zb HR
  clear hma hmb
  have i1 : ((ma : Int) == 2139095040) = false := by simp; omega
  have i2 : ((mb : Int) == 2139095040) = false := by simp; omega
  have z1 : ((ma : Int) == 0) = false := by simp; omega
  have z2 : ((mb : Int) == 0) = false := by simp; omega
  have hAb : 0 < Flt.A mb := by have := Flt.A_strict (show 0 < mb by omega); rw [Flt.A_zero] at this; exact this
  have HAB := hide hAb
  clear hAb
  go_enter Try.func23, Try.ntmps23
  go_wp2_with (first | (go_at_call 29; refine (risNone_any _ (by assumption) (by assumption) _).mono ?_; rintro e w' ⟨rfl, rfl⟩) | (go_at_call 31; refine (rabs_any _ (by assumption) (by assumption) _).mono ?_; rintro e w' ⟨rfl, rfl⟩) | (go_at_call 53; refine (rbelow_any _ (by assumption) (by assumption) _).mono ?_; rintro e w' ⟨rfl, rfl⟩) | (go_at_call 58; refine (rsigned_any _ _ (by omega) (by omega) _).mono ?_; rintro e w' ⟨rfl, rfl⟩))
  refine (amount_any ma (by omega) _).mono ?_
  rintro e x1 ⟨⟨v1, rfl, hv1⟩, hb1⟩
  go_wp2_with fail
  refine (twice_any v1 _ 12 149 (by omega) (by omega) _ hv1).mono ?_
  rintro e x2 ⟨⟨v2, rfl, hv2⟩, hb2⟩
  have hbel2 := bl_tr hb1 hb2
  go_wp2_with (first | (go_at_call 29; refine (risNone_any _ (by assumption) (by assumption) _).mono ?_; rintro e w' ⟨rfl, rfl⟩) | (go_at_call 31; refine (rabs_any _ (by assumption) (by assumption) _).mono ?_; rintro e w' ⟨rfl, rfl⟩) | (go_at_call 53; refine (rbelow_any _ (by assumption) (by assumption) _).mono ?_; rintro e w' ⟨rfl, rfl⟩) | (go_at_call 58; refine (rsigned_any _ _ (by omega) (by omega) _).mono ?_; rintro e w' ⟨rfl, rfl⟩))
  refine (amount_any mb (by omega) _).mono ?_
  rintro e x3 ⟨⟨v3, rfl, hv3⟩, hb3⟩
  have hbel3 := bl_tr hbel2 hb3
  go_wp2_with fail
  refine (rounded_any way (Flt.sgn a != Flt.sgn b) v2 v3 _ _ 24 (by omega) (unhide HAB) _ ((hv2.below hb3).le (by omega)) (hv3.le (by omega))).mono ?_
  rintro e x4 ⟨⟨r', rfl, hr'⟩, hb4⟩
  go_wp2_with fail
  go_ret
  exact ⟨ret_int (by rw [Flt.RN_one (unhide HAB) (unhide HR) hr']), bl_tr hbel3 hb4⟩

theorem div_special (way a b : Int) (Na Nb Ia Ib Za Zb : Bool) (na : Flt.isNaN a = Na) (nb : Flt.isNaN b = Nb) (ia : Flt.isInf a = Ia) (ib : Flt.isInf b = Ib) (za : decide (a % 2147483648 = 0) = Za) (zb : decide (b % 2147483648 = 0) = Zb)
    (hsp : (Na || Nb || Ia || Ib || Za || Zb) = true) :
    Flt.divBy way a b = if (Na || Nb || (Ia && Ib) || (Za && Zb)) = true then 2143289344 else if (Ia || Zb) = true then Flt.signBit (Flt.sgn a != Flt.sgn b) + 2139095040 else Flt.signBit (Flt.sgn a != Flt.sgn b) := by
  subst na nb ia ib za zb
  unfold Flt.divBy
  cases n1 : Flt.isNaN a <;> cases n2 : Flt.isNaN b <;> cases n3 : Flt.isInf a <;> cases n4 : Flt.isInf b <;> by_cases z1 : a % 2147483648 = 0 <;> by_cases z2 : b % 2147483648 = 0 <;> simp_all

set_option maxRecDepth 100000 in
set_option maxHeartbeats 8000000 in
theorem rdivBy_any (way a b : Int) (h0 : 0 ≤ a) (h1 : a < 4294967296) (g0 : 0 ≤ b) (g1 : b < 4294967296) (w : World) :
    Calls Try.prog 23 #[.int .i64 way, .int .u32 a, .int .u32 b] w fun e w' => e = .returned (.int .u32 (Flt.divBy way a b)) ∧ Below w.heap.size w w' := by
  by_cases hf : (Flt.mg a < 2139095040 ∧ Flt.mg a ≠ 0) ∧ (Flt.mg b < 2139095040 ∧ Flt.mg b ≠ 0)
  · exact rdivBy_fin way a b h0 h1 g0 g1 hf.1.1 hf.2.1 hf.1.2 hf.2.2 w
  · have ia : (Flt.absF a == 2139095040) = Flt.isInf a := by unfold Flt.isInf Flt.absF; rw [Bool.eq_iff_iff]; simp
    have ib : (Flt.absF b == 2139095040) = Flt.isInf b := by unfold Flt.isInf Flt.absF; rw [Bool.eq_iff_iff]; simp
    have za : (Flt.absF a == 0) = decide (a % 2147483648 = 0) := by unfold Flt.absF; rw [Bool.eq_iff_iff]; simp
    have zb : (Flt.absF b == 0) = decide (b % 2147483648 = 0) := by unfold Flt.absF; rw [Bool.eq_iff_iff]; simp
    have hsp : (Flt.isNaN a || Flt.isNaN b || Flt.isInf a || Flt.isInf b || decide (a % 2147483648 = 0) || decide (b % 2147483648 = 0)) = true := by
      cases n1 : Flt.isNaN a
      · cases n2 : Flt.isNaN b
        · cases n3 : Flt.isInf a
          · cases n4 : Flt.isInf b
            · have f1 := (Flt.fin_iff a).1 ⟨n1, n3⟩
              have f2 := (Flt.fin_iff b).1 ⟨n2, n4⟩
              unfold Flt.mg at f1 f2 hf
              simp; omega
            · simp
          · simp
        · simp
      · simp
    have D := hide (div_special way a b _ _ _ _ _ _ rfl rfl rfl rfl rfl rfl hsp)
    rw [unhide D]
    clear D hf
    generalize decide (a % 2147483648 = 0) = Za at *
    generalize decide (b % 2147483648 = 0) = Zb at *
    obtain ⟨Na, hNa⟩ : ∃ x, Flt.isNaN a = x := ⟨_, rfl⟩
    obtain ⟨Nb, hNb⟩ : ∃ x, Flt.isNaN b = x := ⟨_, rfl⟩
    obtain ⟨Ia, hIa⟩ : ∃ x, Flt.isInf a = x := ⟨_, rfl⟩
    obtain ⟨Ib, hIb⟩ : ∃ x, Flt.isInf b = x := ⟨_, rfl⟩
    rw [hNa, hNb, hIa, hIb] at hsp ⊢
    rw [hIa] at ia
    rw [hIb] at ib
    clear hIa hIb
    have HSP := hide hsp
    clear hsp
    cases Na
    · cases Nb
      · cases Ia <;> cases Ib <;> cases Za <;> cases Zb
        case false.false.false.false.false.false => exact absurd (unhide HSP) (by simp)
        all_goals clear HSP
        all_goals
          go_enter Try.func23, Try.ntmps23
          go_wp2_with (first | (go_at_call 29; refine (risNone_any _ (by assumption) (by assumption) _).mono ?_; rintro e w' ⟨rfl, rfl⟩) | (go_at_call 31; refine (rabs_any _ (by assumption) (by assumption) _).mono ?_; rintro e w' ⟨rfl, rfl⟩) | (go_at_call 53; refine (rbelow_any _ (by assumption) (by assumption) _).mono ?_; rintro e w' ⟨rfl, rfl⟩) | (go_at_call 58; refine (rsigned_any _ _ (by omega) (by omega) _).mono ?_; rintro e w' ⟨rfl, rfl⟩))
          go_ret
        all_goals exact ⟨ret_int (by first | rfl | (simp; done)), Below.refl _ _⟩
      · go_enter Try.func23, Try.ntmps23
        go_wp2_with (first | (go_at_call 29; refine (risNone_any _ (by assumption) (by assumption) _).mono ?_; rintro e w' ⟨rfl, rfl⟩) | (go_at_call 31; refine (rabs_any _ (by assumption) (by assumption) _).mono ?_; rintro e w' ⟨rfl, rfl⟩) | (go_at_call 53; refine (rbelow_any _ (by assumption) (by assumption) _).mono ?_; rintro e w' ⟨rfl, rfl⟩) | (go_at_call 58; refine (rsigned_any _ _ (by omega) (by omega) _).mono ?_; rintro e w' ⟨rfl, rfl⟩))
        go_ret
        exact ⟨ret_int (by first | rfl | (simp; done)), Below.refl _ _⟩
    · go_enter Try.func23, Try.ntmps23
      go_wp2_with (first | (go_at_call 29; refine (risNone_any _ (by assumption) (by assumption) _).mono ?_; rintro e w' ⟨rfl, rfl⟩) | (go_at_call 31; refine (rabs_any _ (by assumption) (by assumption) _).mono ?_; rintro e w' ⟨rfl, rfl⟩) | (go_at_call 53; refine (rbelow_any _ (by assumption) (by assumption) _).mono ?_; rintro e w' ⟨rfl, rfl⟩) | (go_at_call 58; refine (rsigned_any _ _ (by omega) (by omega) _).mono ?_; rintro e w' ⟨rfl, rfl⟩))
      go_ret
      exact ⟨ret_int (by first | rfl | (simp; done)), Below.refl _ _⟩

theorem rdiv_any (a b : Int) (h0 : 0 ≤ a) (h1 : a < 4294967296) (g0 : 0 ≤ b) (g1 : b < 4294967296) (w : World) :
    Calls Try.prog 25 #[.int .u32 a, .int .u32 b] w fun e w' => e = .returned (.int .u32 (Flt.divBy 0 a b)) ∧ Below w.heap.size w w' := by
  go_enter Try.func25, Try.ntmps25
  go_wp2_with fail
  refine (rdivBy_any 0 a b h0 h1 g0 g1 _).mono ?_
  rintro e w1 ⟨rfl, hb1⟩
  go_wp2_with fail
  go_ret
  exact ⟨ret_int rfl, hb1⟩

end Go.Proofs.Ytfgdgnbkjoafmaa
