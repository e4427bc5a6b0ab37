/-
  The document's answers of layer 2 are what package round's functions come to: fused products and sums, roots, whole numbers.
-/
import Derived.Test.YtblfbopdphnmoaaWkZi
import Derived.Test.YtblfbopdphnmoaaWkYa
import Derived.Test.YtblfbopdphnmoaaWkYb
import Derived.Test.YtblfbopdphnmoaaWkYc
import Derived.Test.YtblfbopdphnmoaaWkYd
import Derived.Test.YtblfbopdphnmoaaWkYe
namespace Go.Proofs.Ytblfbopdphnmoaa
open Go.RowKit
set_option linter.unusedVariables false

theorem rfmaBy_any (way a b c : Int) (h0 : 0 ≤ a) (h1 : a < 4294967296) (g0 : 0 ≤ b) (g1 : b < 4294967296) (k0 : 0 ≤ c) (k1 : c < 4294967296) (w : World) :
    Calls Try.prog 11 #[.int .i64 way, .int .u32 a, .int .u32 b, .int .u32 c] w fun e w' => e = .returned (.int .u32 (Flt.fmaC way a b c)) ∧ Below w.heap.size w w' := by
  by_cases hx : (Flt.isNaN a || Flt.isNaN b || Flt.isNaN c || Flt.isNaN (Flt.mulBy 0 a b) || Flt.isInf a || Flt.isInf b || Flt.isInf c) = true
  · refine (rfmaBy_x way a b c h0 h1 g0 g1 k0 k1 hx w).mono ?_
    rintro e w1 ⟨rfl, hb1⟩
    exact ⟨ret_int (Flt.fmaC_x way a b c h0 g0 k0 k1 hx).symm, hb1⟩
  · have hx' := hx
    rw [Bool.not_eq_true] at hx'
    simp only [Bool.or_eq_false_iff] at hx'
    obtain ⟨⟨⟨⟨⟨⟨na, nb⟩, nc⟩, _⟩, ia⟩, ib⟩, ic⟩ := hx'
    have ha := (Flt.fin_iff a).1 ⟨na, ia⟩
    have hb := (Flt.fin_iff b).1 ⟨nb, ib⟩
    have hc := (Flt.fin_iff c).1 ⟨nc, ic⟩
    refine (rfmaBy_fin way a b c h0 h1 g0 g1 k0 k1 ha hb hc w).mono ?_
    rintro e w1 ⟨⟨r, rfl, hr⟩, hb1⟩
    exact ⟨ret_int (Flt.SumQ_one (Nat.two_pow_pos 149) hr (Flt.fmaC_fin way a b c h0 g0 k0 k1 ha hb hc)), hb1⟩
theorem rfma_any (a b c : Int) (h0 : 0 ≤ a) (h1 : a < 4294967296) (g0 : 0 ≤ b) (g1 : b < 4294967296) (k0 : 0 ≤ c) (k1 : c < 4294967296) (w : World) :
    Calls Try.prog 13 #[.int .u32 a, .int .u32 b, .int .u32 c] w fun e w' => e = .returned (.int .u32 (Flt.fmaC 0 a b c)) ∧ Below w.heap.size w w' := by
  go_enter Try.func13, Try.ntmps13
  go_wp2_with fail
  refine (rfmaBy_any 0 a b c h0 h1 g0 g1 k0 k1 _).mono ?_
  rintro e w1 ⟨rfl, hb1⟩
  go_wp2_with fail
  go_ret
  exact ⟨ret_int rfl, hb1⟩

theorem rsqrtBy_any (way a : Int) (h0 : 0 ≤ a) (h1 : a < 4294967296) (w : World) :
    Calls Try.prog 15 #[.int .i64 way, .int .u32 a] w fun e w' => (∃ r : Int, e = .returned (.int .u32 r) ∧ SqrtAns way a r) ∧ Below w.heap.size w w' := by
  rcases sqrt_cases a with hx | hf
  · have hx2 : Flt.isNaN a = true ∨ Flt.absF a = 0 ∨ a = 2139095040 ∨ Flt.sgn a = true := by
      rcases hx with h | h | h | h
      · exact .inl h
      · exact .inr (.inl h)
      · cases hs : Flt.sgn a
        · have ei := Flt.inf_eq a h0 h1 h
          rw [hs] at ei
          exact .inr (.inr (.inl (by simpa [Flt.signBit] using ei)))
        · exact .inr (.inr (.inr rfl))
      · exact .inr (.inr (.inr h))
    refine (rsqrtBy_x way a h0 h1 hx2 w).mono ?_
    rintro e w1 ⟨rfl, rfl⟩
    exact ⟨⟨_, rfl, .inl ⟨hx, rfl⟩⟩, Below.refl _ _⟩
  · have ea : a = ((Flt.mg a : Nat) : Int) := by
      have := Flt.signed_eq a h0 h1
      rw [hf.2.2] at this
      simpa [Flt.signBit] using this
    have := rsqrtBy_fin way (Flt.mg a) _ hf.1 hf.2.1 rfl w
    rw [← ea] at this
    refine this.mono ?_
    rintro e w1 ⟨⟨v, rfl, hv⟩, hb1⟩
    exact ⟨⟨_, rfl, .inr ⟨hf, v, rfl, hv⟩⟩, hb1⟩
theorem rsqrt_any (a : Int) (h0 : 0 ≤ a) (h1 : a < 4294967296) (w : World) :
    Calls Try.prog 17 #[.int .u32 a] w fun e w' => (∃ r : Int, e = .returned (.int .u32 r) ∧ SqrtAns 0 a r) ∧ Below w.heap.size w w' := by
  go_enter Try.func17, Try.ntmps17
  go_wp2_with fail
  refine (rsqrtBy_any 0 a h0 h1 _).mono ?_
  rintro e w1 ⟨⟨r, rfl, hr⟩, hb1⟩
  go_wp2_with fail
  go_ret
  exact ⟨⟨r, rfl, hr⟩, hb1⟩

theorem rfromIntBy_any (way n : Int) (h0 : -9223372036854775808 ≤ n) (h1 : n < 9223372036854775808) (w : World) :
    Calls Try.prog 19 #[.int .i64 way, .int .i64 n] w fun e w' => e = .returned (.int .u32 (Flt.rnd way (decide (n < 0)) 0 (n.natAbs : Int) false)) ∧ Below w.heap.size w w' := by
  rcases Int.lt_trichotomy n 0 with hn | hn | hn
  · have d1 : decide (n < 0) = true := by simp [hn]
    obtain ⟨v, v1, v2⟩ := Flt.rnd_exact way true 149 n.natAbs (n.natAbs * 2 ^ 149) (by omega) (by omega) (by omega) rfl
    refine (rfromInt_neg way n hn h0 w).mono ?_
    rintro e w1 ⟨⟨r, rfl, hr⟩, hb1⟩
    rw [show (-n).toNat = n.natAbs by omega] at hr
    have e := Flt.RN_one (by decide) hr v2
    subst e
    rw [d1]
    exact ⟨ret_int (by rw [← v1]; rfl), hb1⟩
  · subst hn
    refine (rfromInt_zero way w).mono ?_
    rintro e w1 ⟨rfl, rfl⟩
    exact ⟨ret_int (by simp [Flt.rnd, Flt.signBit]), Below.refl _ _⟩
  · have d1 : decide (n < 0) = false := by simp; omega
    obtain ⟨v, v1, v2⟩ := Flt.rnd_exact way false 149 n.natAbs (n.natAbs * 2 ^ 149) (by omega) (by omega) (by omega) rfl
    refine (rfromInt_pos way n hn h1 w).mono ?_
    rintro e w1 ⟨⟨r, rfl, hr⟩, hb1⟩
    rw [show n.toNat = n.natAbs by omega] at hr
    have e := Flt.RN_one (by decide) hr v2
    subst e
    rw [d1]
    exact ⟨ret_int (by rw [← v1]; rfl), hb1⟩
theorem rfromInt_any (n : Int) (h0 : -9223372036854775808 ≤ n) (h1 : n < 9223372036854775808) (w : World) :
    Calls Try.prog 21 #[.int .i64 n] w fun e w' => e = .returned (.int .u32 (Flt.rnd 0 (decide (n < 0)) 0 (n.natAbs : Int) false)) ∧ Below w.heap.size w w' := by
  go_enter Try.func21, Try.ntmps21
  go_wp2_with fail
  refine (rfromIntBy_any 0 n h0 h1 _).mono ?_
  rintro e w1 ⟨rfl, hb1⟩
  go_wp2_with fail
  go_ret
  exact ⟨rfl, hb1⟩
end Go.Proofs.Ytblfbopdphnmoaa
