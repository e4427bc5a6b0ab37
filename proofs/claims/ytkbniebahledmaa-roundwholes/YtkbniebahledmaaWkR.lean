/-
  Walks of the document's amounts, its search for a float, and its rounding.
-/
import Derived.Test.YtkbniebahledmaaWkQ
namespace Go.Proofs.Ytkbniebahledmaa
open Go.RowKit
set_option linter.unusedVariables false

theorem Num.cast {w : World} {v : Value} {N N' K : Nat} (h : Num w v N K) (e : N = N') : Num w v N' K := e ▸ h

set_option maxRecDepth 100000 in
set_option maxHeartbeats 1000000 in
/-- Amount: of bits without a sign. -/
theorem amount_any (m : Nat) (hm : m ≤ 2139095041) (w : World) :
    Calls Try.prog 33 #[.int .u32 m] w fun e w' => (∃ v, e = .returned v ∧ Num w' v (Flt.A m) 12) ∧ Below w.heap.size w w' := by
  by_cases h : m < 8388608
  · have h0 : (m : Int) / 8388608 = 0 := by omega
    have h1 : (m : Int) % 8388608 = (m : Int) := by omega
    go_enter Try.func33, Try.ntmps33
    go_wp2_with fail
    refine (of_any (m : Int) (by omega) (by omega) _).mono ?_
    rintro e w1 ⟨⟨v, rfl, hv⟩, hb1⟩
    go_wp2_with fail
    go_ret
    refine ⟨⟨v, rfl, ?_⟩, hb1⟩
    refine (hv.cast ?_).le (by omega)
    unfold Flt.A
    rw [if_pos h]; omega
  · have hne : ¬ (m : Int) / 8388608 = 0 := by omega
    have hne' : ((m : Int) / 8388608 == 0) = false := by simp [hne]
    have hq1 : (1 : Int) ≤ (m : Int) / 8388608 := by omega
    have hq2 : (m : Int) / 8388608 ≤ 255 := by omega
    clear hne
    go_enter Try.func33, Try.ntmps33
    go_wp2_with fail
    refine (of_any _ (by omega) (by omega) _).mono ?_
    rintro e w1 ⟨⟨v, rfl, hv⟩, hb1⟩
    go_wp2_with fail
    rw [show (m : Int) / 8388608 - 1 = ((m / 8388608 - 1 : Nat) : Int) by omega]
    refine (twice_any v _ 2 (m / 8388608 - 1) (by omega) (by omega) _ hv).mono ?_
    rintro e w2 ⟨⟨v2, rfl, hv2⟩, hb2⟩
    go_wp2_with fail
    go_ret
    refine ⟨⟨v2, rfl, ?_⟩, bl_tr hb1 hb2⟩
    refine (hv2.cast ?_).le (by omega)
    unfold Flt.A
    rw [if_neg h]; congr 1

theorem cmpN_le (N M : Nat) : cmpN N M ≤ 0 ↔ N ≤ M := by unfold cmpN; (repeat' split) <;> omega
theorem cmpN_eq (N M : Nat) : cmpN N M = 0 ↔ N = M := by unfold cmpN; (repeat' split) <;> omega
theorem cmpN_lt (N M : Nat) : cmpN N M < 0 ↔ N < M := by unfold cmpN; (repeat' split) <;> omega

set_option maxRecDepth 100000 in
set_option maxHeartbeats 2000000 in
/-- least: the greatest float whose amount, times q, is at most p. -/
theorem least_any (p q : Value) (P Q K : Nat) (hK : K ≤ 500) (hQ : 0 < Q) (w : World) (hp : Num w p P K) (hq : Num w q Q K) :
    Calls Try.prog 56 #[p, q] w fun e w' => (∃ m : Nat, e = .returned (.int .u32 m) ∧ Flt.IsFl P Q m) ∧ Below w.heap.size w w' := by
  have HP := hide hp
  have HQ := hide hq
  clear hp hq
  go_enter Try.func56, Try.ntmps56
  go_wp2_with fail
  go_loopw [5, 6] (fun lo hi wr => ∃ l h : Nat, lo = .int .u32 l ∧ hi = .int .u32 h ∧ l < h ∧ h ≤ 2139095041 ∧ Hid (Flt.A l * Q ≤ P) ∧ Hid (h = 2139095041 ∨ P < Flt.A h * Q) ∧ Below w.heap.size w wr)
    (fun lo hi _ => (intOf hi).toNat - (intOf lo).toNat)
  case atStart => exact ⟨0, 2139095041, rfl, rfl, by omega, by omega, hide (by rw [Flt.A_zero]; omega), hide (.inl rfl), Below.refl _ _⟩
  case round =>
    obtain ⟨l, h, rfl, rfl, hlt, hh, HL, HH, hbel⟩ := hrel
    by_cases hgo : 1 < h - l
    · have hgi : (1 : Int) < (h : Int) - (l : Int) := by omega
      obtain ⟨mm, hmm⟩ : ∃ mm, l + (h - l) / 2 = mm := ⟨_, rfl⟩
      have hmi : (l : Int) + ((h : Int) - (l : Int)) / 2 = (mm : Int) := by omega
      have m1 : l < mm := by omega
      have m2 : mm < h := by omega
      have HMM := hide hmm
      clear hmm
      go_wp2_with fail
      refine (amount_any mm (by omega) _).mono ?_
      rintro e w1 ⟨⟨v1, rfl, hv1⟩, hb1⟩
      go_wp2_with fail
      refine (times_any v1 q _ Q 12 K (by omega) (by omega) _ hv1 ((unhide HQ).below (bl_tr hbel hb1))).mono ?_
      rintro e w2 ⟨⟨v2, rfl, hv2⟩, hb2⟩
      go_wp2_with fail
      refine (compare_any v2 p _ P (12 + K) (by omega) _ hv2 (((unhide HP).below (bl_tr (bl_tr hbel hb1) hb2)).le (by omega))).mono ?_
      rintro e w3 ⟨rfl, hb3⟩
      have hbel3 := bl_tr (bl_tr (bl_tr hbel hb1) hb2) hb3
      by_cases hc : Flt.A mm * Q ≤ P
      · have hcm := (cmpN_le (Flt.A mm * Q) P).2 hc
        generalize cmpN (Flt.A mm * Q) P = c at hcm ⊢
        have HC := hide hc
        clear hc
        go_wp2_with fail
        go_roundw
        case rel => exact ⟨mm, h, rfl, rfl, m2, hh, HC, HH, hbel3⟩
        case measure => simp [intOf]; omega
      · have hcm : ¬ cmpN (Flt.A mm * Q) P ≤ 0 := fun h => hc ((cmpN_le _ _).1 h)
        generalize cmpN (Flt.A mm * Q) P = c at hcm ⊢
        have HC := hide hc
        clear hc
        go_wp2_with fail
        go_roundw
        case rel => exact ⟨l, mm, rfl, rfl, m1, by omega, HL, hide (.inr (by have := unhide HC; omega)), hbel3⟩
        case measure => simp [intOf]; omega
    · have hgi : ¬ (1 : Int) < (h : Int) - (l : Int) := by omega
      have hE : h = l + 1 := by omega
      go_wp2_with fail
      go_ret
      refine ⟨⟨l, rfl, by omega, unhide HL, fun hl => ?_⟩, hbel⟩
      rcases unhide HH with h1 | h1
      · omega
      · rw [hE] at h1; exact h1
end Go.Proofs.Ytkbniebahledmaa
