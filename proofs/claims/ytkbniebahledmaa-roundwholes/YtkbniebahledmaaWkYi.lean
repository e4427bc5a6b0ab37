/-
  The document's answer to Floor, Ceil and Even is what package round's functions come to.
-/
import Derived.Test.YtkbniebahledmaaWkYk
import Derived.Test.YtkbniebahledmaaFltR
namespace Go.Proofs.Ytkbniebahledmaa
open Go.RowKit
set_option linter.unusedVariables false

theorem even_gt (V K : Nat) : (2 * (V / K) + 1) * K < V * 2 ↔ K < 2 * (V % K) := by
  have h := Nat.div_add_mod V K
  have e : (2 * (V / K) + 1) * K = 2 * (K * (V / K)) + K := by rw [Nat.add_mul, Nat.one_mul, Nat.mul_assoc, Nat.mul_comm (V / K) K]
  rw [e]; omega
theorem even_eq (V K : Nat) : V * 2 = (2 * (V / K) + 1) * K ↔ 2 * (V % K) = K := by
  have h := Nat.div_add_mod V K
  have e : (2 * (V / K) + 1) * K = 2 * (K * (V / K)) + K := by rw [Nat.add_mul, Nat.one_mul, Nat.mul_assoc, Nat.mul_comm (V / K) K]
  rw [e]; omega
theorem exact_iff (V K : Nat) : V / K * K = V ↔ V % K = 0 := by
  have h := Nat.div_add_mod V K
  rw [Nat.mul_comm]; omega

theorem rwhole_any (how way a : Int) (hw : (how = 0 ∧ way = 2) ∨ (how = 1 ∧ way = 1) ∨ (how = 2 ∧ way = 0)) (h0 : 0 ≤ a) (h1 : a < 4294967296) (w : World) :
    Calls Try.prog 9 #[.int .i64 how, .int .u32 a] w fun e w' => e = .returned (.int .u32 (Flt.wholeC way a)) ∧ Below w.heap.size w w' := by
  have eabs : Flt.absF a = (Flt.mg a : Int) := by unfold Flt.absF Flt.mg; omega
  by_cases hx : Flt.isNaN a = true ∨ 1266679808 ≤ Flt.absF a ∨ Flt.absF a = 0
  · refine (rwhole_x how a h0 h1 hx w).mono ?_
    rintro e w1 ⟨rfl, rfl⟩
    refine ⟨ret_int ?_, Below.refl _ _⟩
    cases hn : Flt.isNaN a
    · have hc : Flt.canon a = a := by unfold Flt.canon; rw [hn, if_neg (by simp)]
      rw [hc]
      by_cases hg : 1266679808 ≤ Flt.absF a
      · unfold Flt.wholeC
        rw [hn, if_neg (by simp), if_pos]
        unfold Flt.expo; unfold Flt.absF at hg
        split <;> omega
      · have hz : Flt.mg a = 0 := by
          rcases hx with h | h | h
          · rw [hn] at h; cases h
          · exact absurd h hg
          · omega
        have hf : Flt.mg a < 2139095040 := by omega
        have es := Flt.signed_eq a h0 h1
        have := Flt.whole_fix way (Flt.sgn a) (Flt.mg a) 0 hf (by rw [hz, Flt.A_zero, Nat.zero_mul])
        rw [← es] at this
        exact this.symm
    · unfold Flt.canon Flt.wholeC; rw [hn, if_pos rfl, if_pos rfl]
  · have hn : Flt.isNaN a = false := by cases h : Flt.isNaN a <;> simp_all
    have hb : Flt.mg a < 1266679808 ∧ Flt.mg a ≠ 0 := by omega
    clear hx
    have hf : Flt.mg a < 2139095040 := by omega
    have es := Flt.signed_eq a h0 h1
    have hcut := fun w => cut_any a h0 h1 (by omega) w
    have hn1 : Flt.A (Flt.mg a) / 2 ^ 149 < 16777216 := by
      rw [Nat.div_lt_iff_lt_mul (Nat.two_pow_pos 149)]
      have := Flt.A_strict hb.1
      have e : Flt.A 1266679808 = 16777216 * 2 ^ 149 := by
        have := Flt.A_form 150 8388608 (by omega) (by omega)
        rw [show (150 : Nat) * 8388608 + 8388608 = 1266679808 by decide] at this
        rw [this]
      rw [e] at this; exact this
    obtain ⟨m, N, x1, x2, x3, x4⟩ := Flt.wholeC_spec way a h0 h1 hf
    have i1 : decide (1266679808 ≤ (Flt.mg a : Int)) = false := by simp; omega
    have i2 : ((Flt.mg a : Int) == 0) = false := by simp; omega
    have i3 : (Flt.mg a : Int) ≤ 2139095041 := by omega
    have one : ∀ (neg : Bool) (M r : Nat), Flt.sgn a = neg → N = M → Flt.RN 0 neg (M * 2 ^ 149) 1 r → Flt.signBit neg + (r : Int) = Flt.wholeC way a := by
      intro neg M r hs hM hr
      rw [← hM, ← x3] at hr
      have := Flt.RN_exact (q := 1) (m := m) (by decide) x2 (by rw [Nat.mul_one]; exact hr)
      rw [x1, this, hs]
    have goN : Flt.goes way (Flt.sgn a) (Flt.A (Flt.mg a)) → N = Flt.A (Flt.mg a) / 2 ^ 149 + 1 := by
      intro g; rcases x4 with ⟨_, h⟩ | ⟨h, _⟩; exact h; exact absurd g h
    have stN : ¬ Flt.goes way (Flt.sgn a) (Flt.A (Flt.mg a)) → N = Flt.A (Flt.mg a) / 2 ^ 149 := by
      intro g; rcases x4 with ⟨h, _⟩ | ⟨_, h⟩; exact absurd h g; exact h
    by_cases hex : Flt.A (Flt.mg a) / 2 ^ 149 * 2 ^ 149 = Flt.A (Flt.mg a)
    · have hfix : a = Flt.wholeC way a := by
        have := Flt.whole_fix way (Flt.sgn a) (Flt.mg a) _ hf hex.symm
        rw [← es] at this
        exact this.symm
      rcases hw with ⟨rfl, rfl⟩ | ⟨rfl, rfl⟩ | ⟨rfl, rfl⟩
      · refine (rwhole_ex0 a _ (Flt.mg a) _ h0 h1 hn eabs i1 i2 i3 hcut rfl (by omega) (by omega) hex w).mono ?_
        rintro e w1 ⟨rfl, hb1⟩
        exact ⟨ret_int hfix, hb1⟩
      · refine (rwhole_ex1 a _ (Flt.mg a) _ h0 h1 hn eabs i1 i2 i3 hcut rfl (by omega) (by omega) hex w).mono ?_
        rintro e w1 ⟨rfl, hb1⟩
        exact ⟨ret_int hfix, hb1⟩
      · refine (rwhole_ex2 a _ (Flt.mg a) _ h0 h1 hn eabs i1 i2 i3 hcut rfl (by omega) (by omega) hex w).mono ?_
        rintro e w1 ⟨rfl, hb1⟩
        exact ⟨ret_int hfix, hb1⟩
    · have hR : Flt.A (Flt.mg a) % 2 ^ 149 ≠ 0 := fun h => hex ((exact_iff _ _).2 h)
      rcases hw with ⟨rfl, rfl⟩ | ⟨rfl, rfl⟩ | ⟨rfl, rfl⟩
      · cases hs : Flt.sgn a
        · refine (rwhole_0f a _ (Flt.mg a) _ h0 h1 hn eabs i1 i2 i3 hs hcut rfl (by omega) (by omega) hex w).mono ?_
          rintro e w1 ⟨⟨r, rfl, hr⟩, hb1⟩
          refine ⟨ret_int (one false _ r hs (stN ?_) hr), hb1⟩
          rw [hs]; rintro ⟨_, g⟩; rw [if_neg (by decide), if_pos rfl] at g; cases g
        · refine (rwhole_0t a _ (Flt.mg a) _ h0 h1 hn eabs i1 i2 i3 hs hcut rfl (by omega) (by omega) hex w).mono ?_
          rintro e w1 ⟨⟨r, rfl, hr⟩, hb1⟩
          refine ⟨ret_int (one true _ r hs (goN ?_) hr), hb1⟩
          rw [hs]; exact ⟨hR, by rw [if_neg (by decide), if_pos rfl]⟩
      · cases hs : Flt.sgn a
        · refine (rwhole_1f a _ (Flt.mg a) _ h0 h1 hn eabs i1 i2 i3 hs hcut rfl (by omega) (by omega) hex w).mono ?_
          rintro e w1 ⟨⟨r, rfl, hr⟩, hb1⟩
          refine ⟨ret_int (one false _ r hs (goN ?_) hr), hb1⟩
          rw [hs]; exact ⟨hR, by rw [if_pos rfl]⟩
        · refine (rwhole_1t a _ (Flt.mg a) _ h0 h1 hn eabs i1 i2 i3 hs hcut rfl (by omega) (by omega) hex w).mono ?_
          rintro e w1 ⟨⟨r, rfl, hr⟩, hb1⟩
          refine ⟨ret_int (one true _ r hs (stN ?_) hr), hb1⟩
          rw [hs]; rintro ⟨_, g⟩; rw [if_pos rfl] at g; cases g
      · have hg : Flt.goes 0 (Flt.sgn a) (Flt.A (Flt.mg a)) ↔ ((2 * (Flt.A (Flt.mg a) / 2 ^ 149) + 1) * 2 ^ 149 < Flt.A (Flt.mg a) * 2 ∨ (Flt.A (Flt.mg a) * 2 = (2 * (Flt.A (Flt.mg a) / 2 ^ 149) + 1) * 2 ^ 149 ∧ Flt.A (Flt.mg a) / 2 ^ 149 % 2 = 1)) := by
          unfold Flt.goes
          rw [if_neg (by decide), if_neg (by decide), even_gt, even_eq]
          exact ⟨fun h => h.2, fun h => ⟨hR, h⟩⟩
        rcases Nat.lt_trichotomy ((2 * (Flt.A (Flt.mg a) / 2 ^ 149) + 1) * 2 ^ 149) (Flt.A (Flt.mg a) * 2) with hc | hc | hc
        · refine (rwhole_2gt a _ (Flt.mg a) _ h0 h1 hn eabs i1 i2 i3 hcut rfl (by omega) (by omega) hex hc w).mono ?_
          rintro e w1 ⟨⟨r, rfl, hr⟩, hb1⟩
          exact ⟨ret_int (one _ _ r rfl (goN (hg.2 (.inl hc))) hr), hb1⟩
        · rcases Nat.mod_two_eq_zero_or_one (Flt.A (Flt.mg a) / 2 ^ 149) with hp | hp
          · refine (rwhole_2ev a _ (Flt.mg a) _ h0 h1 hn eabs i1 i2 i3 hcut rfl (by omega) (by omega) hex hc.symm hp w).mono ?_
            rintro e w1 ⟨⟨r, rfl, hr⟩, hb1⟩
            refine ⟨ret_int (one _ _ r rfl (stN ?_) hr), hb1⟩
            rw [hg]; rintro (g | ⟨_, g⟩)
            · rw [hc] at g; exact absurd g (Nat.lt_irrefl _)
            · rw [hp] at g; cases g
          · refine (rwhole_2odd a _ (Flt.mg a) _ h0 h1 hn eabs i1 i2 i3 hcut rfl (by omega) (by omega) hex hc.symm hp w).mono ?_
            rintro e w1 ⟨⟨r, rfl, hr⟩, hb1⟩
            exact ⟨ret_int (one _ _ r rfl (goN (hg.2 (.inr ⟨hc.symm, hp⟩))) hr), hb1⟩
        · refine (rwhole_2lt a _ (Flt.mg a) _ h0 h1 hn eabs i1 i2 i3 hcut rfl (by omega) (by omega) hex hc w).mono ?_
          rintro e w1 ⟨⟨r, rfl, hr⟩, hb1⟩
          refine ⟨ret_int (one _ _ r rfl (stN ?_) hr), hb1⟩
          rw [hg]; rintro (g | ⟨g, _⟩)
          · exact absurd (Nat.lt_trans g hc) (Nat.lt_irrefl _)
          · rw [g] at hc; exact absurd hc (Nat.lt_irrefl _)
end Go.Proofs.Ytkbniebahledmaa
