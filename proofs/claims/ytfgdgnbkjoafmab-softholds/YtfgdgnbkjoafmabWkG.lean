/-
  Walks of the statements' own helpers: the next float, and whether three results stand as they must.
-/
import Derived.Test.YtfgdgnbkjoafmabWkF
import Derived.Test.YtfgdgnbkjoafmabFltI
namespace Go.Proofs.Ytfgdgnbkjoafmab
open Go.RowKit
set_option linter.unusedVariables false

def nextF (a : Int) : Int := if Flt.absF a = 0 then 1 else if 2147483648 ≤ a then a - 1 else a + 1
def holdsB (d n h : Int) : Bool :=
  if Flt.isNaN d = true ∨ Flt.isNaN n = true ∨ Flt.isNaN h = true then (d == n && n == h)
  else if Flt.lessF n d = true ∨ Flt.lessF h n = true then false
  else Flt.equalF d h || Flt.equalF (nextF d) h

theorem nextF_range (a : Int) (h0 : 0 ≤ a) (h1 : a < 4294967296) (hn : Flt.isNaN a = false) : 0 ≤ nextF a ∧ nextF a < 4294967296 := by
  unfold nextF Flt.absF
  unfold Flt.isNaN at hn
  simp at hn
  (repeat' split) <;> omega

set_option maxRecDepth 100000 in
set_option maxHeartbeats 1000000 in
theorem next_any (a : Int) (h0 : 0 ≤ a) (h1 : a < 4294967296) (hn : Flt.isNaN a = false) (w : World) :
    Calls Try.prog 30 #[.int .u32 a] w fun e w' => e = .returned (.int .u32 (nextF a)) ∧ w' = w := by
  have hb : 0 ≤ Flt.absF a ∧ Flt.absF a < 2147483648 := by unfold Flt.absF; omega
  obtain ⟨hb0, hb1⟩ := hb
  have hm : Flt.absF a ≤ 2139095040 := by unfold Flt.isNaN at hn; simp at hn; unfold Flt.absF; omega
  have hx : Flt.absF a = a ∨ Flt.absF a = a - 2147483648 := by unfold Flt.absF; omega
  have HX := hide hx
  have hlt : a < 2147483648 → a ≤ 2139095040 := by intro h; unfold Flt.absF at hm; omega
  have HL := hide hlt
  clear hx hlt
  by_cases hz : Flt.absF a = 0
  · go_enter Try.func30, Try.ntmps30
    go_wp2_with (go_at_call 19; refine (abs_any _ h0 h1 _).mono ?_; rintro e w' ⟨rfl, rfl⟩)
    go_ret
    exact ⟨ret_int (by simp [nextF, hz]), rfl⟩
  · have hz' : (Flt.absF a == 0) = false := by simp [hz]
    by_cases hs : 2147483648 ≤ a
    · go_enter Try.func30, Try.ntmps30
      go_wp2_with (go_at_call 19; refine (abs_any _ h0 h1 _).mono ?_; rintro e w' ⟨rfl, rfl⟩)
      go_ret
      exact ⟨ret_int (by simp [nextF, hz, hs]), rfl⟩
    · have hlt := unhide HL (by omega)
      go_enter Try.func30, Try.ntmps30
      go_wp2_with (go_at_call 19; refine (abs_any _ h0 h1 _).mono ?_; rintro e w' ⟨rfl, rfl⟩)
      go_ret
      exact ⟨ret_int (by unfold nextF; rw [if_neg hz, if_neg (by omega)]), rfl⟩

set_option maxRecDepth 100000 in
set_option maxHeartbeats 1000000 in
theorem holds_any (d n h : Int) (d0 : 0 ≤ d) (d1 : d < 4294967296) (n0 : 0 ≤ n) (n1 : n < 4294967296) (h0 : 0 ≤ h) (h1 : h < 4294967296) (w : World) :
    Calls Try.prog 15 #[.int .u32 d, .int .u32 n, .int .u32 h] w fun e w' => e = .returned (.bool (holdsB d n h)) ∧ w' = w := by
  cases hd : Flt.isNaN d
  · obtain ⟨x0, x1⟩ := nextF_range d d0 d1 hd
    cases hn : Flt.isNaN n <;> cases hh : Flt.isNaN h <;> cases l1 : Flt.lessF n d <;> cases l2 : Flt.lessF h n <;> cases l3 : Flt.equalF d h
    all_goals
      go_enter Try.func15, Try.ntmps15
      go_wp2_with (first | (go_at_call 12; refine (nan_any _ (by assumption) (by assumption) _).mono ?_; rintro e w' ⟨rfl, rfl⟩) | (go_at_call 20; refine (less_any _ _ (by assumption) (by assumption) (by assumption) (by assumption) _).mono ?_; rintro e w' ⟨rfl, rfl⟩) | (go_at_call 22; refine (equal_any _ _ (by assumption) (by assumption) (by assumption) (by assumption) _).mono ?_; rintro e w' ⟨rfl, rfl⟩) | (go_at_call 30; refine (next_any _ d0 d1 hd _).mono ?_; rintro e w' ⟨rfl, rfl⟩))
    all_goals go_ret
    all_goals refine ⟨ret_bool ?_, rfl⟩
    all_goals (unfold holdsB; rw [hd, hn, hh, l1, l2, l3])
    all_goals first | (simp; done) | (simp_all; done)
  · go_enter Try.func15, Try.ntmps15
    go_wp2_with (first | (go_at_call 12; refine (nan_any _ (by assumption) (by assumption) _).mono ?_; rintro e w' ⟨rfl, rfl⟩) | (go_at_call 20; refine (less_any _ _ (by assumption) (by assumption) (by assumption) (by assumption) _).mono ?_; rintro e w' ⟨rfl, rfl⟩) | (go_at_call 22; refine (equal_any _ _ (by assumption) (by assumption) (by assumption) (by assumption) _).mono ?_; rintro e w' ⟨rfl, rfl⟩))
    all_goals go_ret
    all_goals refine ⟨ret_bool ?_, rfl⟩
    all_goals (unfold holdsB; rw [hd])
    all_goals first | (simp; done) | (simp_all; done)

theorem holdsB_same (r : Int) (h : Flt.Good r) : holdsB r r r = true := by
  unfold holdsB
  by_cases hn : Flt.isNaN r = true
  · simp [hn]
  · have hn' : Flt.isNaN r = false := by cases hq : Flt.isNaN r <;> simp_all
    simp [hn', Flt.lessF, Flt.equalF]

theorem holdsB_signed (neg : Bool) (d n h : Nat) (hd : d ≤ 2139095040) (hn : n ≤ 2139095040) (hh : h ≤ 2139095040)
    (c1 : neg = false → d ≤ n ∧ n ≤ h ∧ (h = d ∨ h = d + 1)) (c2 : neg = true → h ≤ n ∧ n ≤ d ∧ (d = h ∨ d = h + 1)) :
    holdsB (Flt.signBit neg + (d : Int)) (Flt.signBit neg + (n : Int)) (Flt.signBit neg + (h : Int)) = true := by
  have nn : ∀ r : Nat, r ≤ 2139095040 → Flt.isNaN (Flt.signBit neg + (r : Int)) = false := by
    intro r hr; rw [Flt.isNaN_not, Flt.mg_signed neg r (by omega)]; exact hr
  have pp : ∀ r : Nat, r ≤ 2139095040 → Flt.place (Flt.signBit neg + (r : Int)) = if neg = true then -(r : Int) else (r : Int) := fun r hr => Flt.place_signed neg r (by omega)
  have ab : Flt.absF (Flt.signBit neg + (d : Int)) = (d : Int) := by
    have := Flt.mg_signed neg d (by omega)
    unfold Flt.mg at this; unfold Flt.absF; omega
  have hnext : d ≠ h → nextF (Flt.signBit neg + (d : Int)) = Flt.signBit neg + (h : Int) := by
    intro hne
    unfold nextF
    rw [ab]
    cases neg
    · have := c1 rfl
      simp only [Flt.signBit, Bool.false_eq_true, if_false]
      (repeat' split) <;> omega
    · have := c2 rfl
      simp only [Flt.signBit, if_true]
      (repeat' split) <;> omega
  unfold holdsB
  rw [nn d hd, nn n hn, nn h hh]
  simp only [Bool.false_eq_true, or_self, if_false]
  have l1 : Flt.lessF (Flt.signBit neg + (n : Int)) (Flt.signBit neg + (d : Int)) = false := by
    unfold Flt.lessF; rw [nn d hd, nn n hn, pp n hn, pp d hd]
    cases neg
    · have := c1 rfl; simp; omega
    · have := c2 rfl; simp; omega
  have l2 : Flt.lessF (Flt.signBit neg + (h : Int)) (Flt.signBit neg + (n : Int)) = false := by
    unfold Flt.lessF; rw [nn h hh, nn n hn, pp n hn, pp h hh]
    cases neg
    · have := c1 rfl; simp; omega
    · have := c2 rfl; simp; omega
  rw [l1, l2]
  simp only [Bool.false_eq_true, or_self, if_false]
  by_cases e : d = h
  · subst e
    simp [Flt.equalF, nn d hd]
  · rw [hnext e]
    simp [Flt.equalF, nn h hh]

theorem holdsB_sum (a b : Int) (h0 : 0 ≤ a) (h1 : a < 4294967296) (g0 : 0 ≤ b) (g1 : b < 4294967296) :
    holdsB (Flt.addBy 2 a b) (Flt.addBy 0 a b) (Flt.addBy 1 a b) = true := by
  by_cases hf : Flt.mg a < 2139095040 ∧ Flt.mg b < 2139095040
  · obtain ⟨a1, a2, a3⟩ := Flt.addBy_val 2 a b h0 g0 hf.1 hf.2
    obtain ⟨b1, b2, b3⟩ := Flt.addBy_val 0 a b h0 g0 hf.1 hf.2
    obtain ⟨c1, c2, c3⟩ := Flt.addBy_val 1 a b h0 g0 hf.1 hf.2
    rcases Int.lt_trichotomy (Flt.val a + Flt.val b) 0 with hv | hv | hv
    · obtain ⟨d, e1, f1⟩ := a3 hv
      obtain ⟨n, e2, f2⟩ := b3 hv
      obtain ⟨h, e3, f3⟩ := c3 hv
      obtain ⟨t1, t2, t3, t4, t5⟩ := Flt.RN_three (by decide) f1 f2 f3
      rw [e1, e2, e3]
      exact holdsB_signed true d n h t1 t2 t3 t4 t5
    · obtain ⟨d, e1⟩ := a1 hv
      obtain ⟨n, e2⟩ := b1 hv
      obtain ⟨h, e3⟩ := c1 hv
      rw [e1, e2, e3]
      cases d <;> cases n <;> cases h <;> decide +kernel
    · obtain ⟨d, e1, f1⟩ := a2 hv
      obtain ⟨n, e2, f2⟩ := b2 hv
      obtain ⟨h, e3, f3⟩ := c2 hv
      obtain ⟨t1, t2, t3, t4, t5⟩ := Flt.RN_three (by decide) f1 f2 f3
      rw [e1, e2, e3]
      exact holdsB_signed false d n h t1 t2 t3 t4 t5
  · have hsame : ∀ way : Int, Flt.addBy way a b = Flt.addBy 0 a b := by
      intro way
      have hf' : ¬ ((Flt.isNaN a = false ∧ Flt.isInf a = false) ∧ (Flt.isNaN b = false ∧ Flt.isInf b = false)) := by rw [Flt.fin_iff, Flt.fin_iff]; exact hf
      unfold Flt.addBy
      cases p1 : Flt.isNaN a <;> cases p2 : Flt.isNaN b <;> cases p3 : Flt.isInf a <;> cases p4 : Flt.isInf b <;> simp_all
    rw [hsame 2, hsame 1]
    exact holdsB_same _ (Flt.addBy_good 0 a b h0 h1 g0 g1)

theorem holdsB_mul (a b : Int) (h0 : 0 ≤ a) (g0 : 0 ≤ b) :
    holdsB (Flt.mulBy 2 a b) (Flt.mulBy 0 a b) (Flt.mulBy 1 a b) = true := by
  by_cases hf : Flt.mg a < 2139095040 ∧ Flt.mg b < 2139095040
  · obtain ⟨d, e1, f1⟩ := Flt.mulBy_fin 2 a b h0 g0 hf.1 hf.2
    obtain ⟨n, e2, f2⟩ := Flt.mulBy_fin 0 a b h0 g0 hf.1 hf.2
    obtain ⟨h, e3, f3⟩ := Flt.mulBy_fin 1 a b h0 g0 hf.1 hf.2
    obtain ⟨t1, t2, t3, t4, t5⟩ := Flt.RN_three (Nat.two_pow_pos _) f1 f2 f3
    rw [e1, e2, e3]
    exact holdsB_signed _ d n h t1 t2 t3 t4 t5
  · have hsame : ∀ way : Int, Flt.mulBy way a b = Flt.mulBy 0 a b := by
      intro way
      have hf' : ¬ ((Flt.isNaN a = false ∧ Flt.isInf a = false) ∧ (Flt.isNaN b = false ∧ Flt.isInf b = false)) := by rw [Flt.fin_iff, Flt.fin_iff]; exact hf
      unfold Flt.mulBy
      cases p1 : Flt.isNaN a <;> cases p2 : Flt.isNaN b <;> cases p3 : Flt.isInf a <;> cases p4 : Flt.isInf b <;> simp_all
    rw [hsame 2, hsame 1]
    exact holdsB_same _ (Flt.mulBy_good 0 a b h0 g0)

theorem A_pos (m : Nat) (h : m ≠ 0) : 0 < Flt.A m := by
  have := Flt.A_strict (show 0 < m by omega)
  rw [Flt.A_zero] at this; exact this

theorem holdsB_div (a b : Int) (h0 : 0 ≤ a) (g0 : 0 ≤ b) :
    holdsB (Flt.divBy 2 a b) (Flt.divBy 0 a b) (Flt.divBy 1 a b) = true := by
  by_cases hf : (Flt.mg a < 2139095040 ∧ Flt.mg a ≠ 0) ∧ (Flt.mg b < 2139095040 ∧ Flt.mg b ≠ 0)
  · obtain ⟨d, e1, f1⟩ := Flt.divBy_fin 2 a b h0 g0 hf.1.1 hf.2.1 hf.1.2 hf.2.2
    obtain ⟨n, e2, f2⟩ := Flt.divBy_fin 0 a b h0 g0 hf.1.1 hf.2.1 hf.1.2 hf.2.2
    obtain ⟨h, e3, f3⟩ := Flt.divBy_fin 1 a b h0 g0 hf.1.1 hf.2.1 hf.1.2 hf.2.2
    obtain ⟨t1, t2, t3, t4, t5⟩ := Flt.RN_three (A_pos _ hf.2.2) f1 f2 f3
    rw [e1, e2, e3]
    exact holdsB_signed _ d n h t1 t2 t3 t4 t5
  · have hsame : ∀ way : Int, Flt.divBy way a b = Flt.divBy 0 a b := by
      intro way
      have hf' : ¬ (((Flt.isNaN a = false ∧ Flt.isInf a = false) ∧ a % 2147483648 ≠ 0) ∧ ((Flt.isNaN b = false ∧ Flt.isInf b = false) ∧ b % 2147483648 ≠ 0)) := by
        rw [Flt.fin_iff, Flt.fin_iff]; unfold Flt.mg at hf ⊢; omega
      unfold Flt.divBy
      by_cases za : a % 2147483648 = 0 <;> by_cases zb : b % 2147483648 = 0 <;>
        cases p1 : Flt.isNaN a <;> cases p2 : Flt.isNaN b <;> cases p3 : Flt.isInf a <;> cases p4 : Flt.isInf b <;> simp_all
    rw [hsame 2, hsame 1]
    exact holdsB_same _ (Flt.divBy_good 0 a b h0 g0)
end Go.Proofs.Ytfgdgnbkjoafmab
