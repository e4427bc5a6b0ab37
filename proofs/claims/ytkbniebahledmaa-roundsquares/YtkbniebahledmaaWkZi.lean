/-
  Package round's roots and powers of two, by the document's words; the head of the statements.
-/
import Derived.Test.YtkbniebahledmaaWkZe
import Derived.Test.YtkbniebahledmaaWkZf
import Derived.Test.YtkbniebahledmaaWkZg
import Derived.Test.YtkbniebahledmaaWkZh
import Derived.Test.YtkbniebahledmaaFltP
namespace Go.Proofs.Ytkbniebahledmaa
open Go.RowKit
set_option linter.unusedVariables false

theorem csqrt_fin (way a : Int) (h0 : 0 ≤ a) (h1 : a < 4294967296) (ha : Flt.mg a < 2139095040) (hz : Flt.mg a ≠ 0) (hg : Flt.sgn a = false) (w : World) :
    Calls Try.prog 16 #[.int .i64 way, .int .u32 a] w fun e w' => (∃ v : Nat, e = .returned (.int .u32 (v : Int)) ∧ Flt.RT way (Flt.A (Flt.mg a) * 2 ^ 149) v) ∧ Below w.heap.size w w' := by
  obtain ⟨n1, n2⟩ := (Flt.fin_iff a).2 ha
  obtain ⟨e, s, x1, x2, x3, x4, x5, x6, x7⟩ := Flt.amt a h0 ha
  have s1 : 1 ≤ s := by rcases Nat.eq_zero_or_pos s with h | h; (exact absurd (x7.1 h) hz); exact h
  obtain ⟨L, hL, L1, S0, S1, _⟩ := Flt.lz_nat s s1 (by omega)
  have L40 : 40 ≤ L := by
    rcases Nat.lt_or_ge L 40 with g | g
    · exfalso
      have g1 : 2 ^ L ≤ 2 ^ 39 := Nat.pow_le_pow_right (by decide) (by omega)
      have g2 : s * 2 ^ L ≤ s * 2 ^ 39 := Nat.mul_le_mul_left _ g1
      have g3 : s * 2 ^ 39 ≤ 16777215 * 2 ^ 39 := Nat.mul_le_mul_right _ (by omega)
      omega
    · exact g
  obtain ⟨par, hpar⟩ : ∃ par : Nat, (Flt.expo a - (L : Int)) % 2 = (par : Int) := ⟨((Flt.expo a - (L : Int)) % 2).toNat, by omega⟩
  have hpar1 : par ≤ 1 := by omega
  obtain ⟨U, hU⟩ : ∃ U : Nat, U + par = L := ⟨L - par, by omega⟩
  obtain ⟨k, hk⟩ : ∃ k : Nat, e + 149 = U + 2 * k := ⟨(e + 149 - U) / 2, by omega⟩
  have nz : (Flt.absF a == 0) = false := by
    rw [beq_eq_false_iff_ne]
    unfold Flt.absF
    unfold Flt.mg at hz
    omega
  have n62 : (2 : Nat) ^ 62 = 4611686018427387904 := by decide
  have n64 : (2 : Nat) ^ 64 = 18446744073709551616 := by decide
  have hNlo : 2 ^ 62 ≤ s * 2 ^ U ∧ s * 2 ^ U < 2 ^ 64 := by
    rcases (by omega : par = 0 ∨ par = 1) with hp | hp
    · have : U = L := by omega
      rw [this]; omega
    · have h2 : 2 ^ L = 2 * 2 ^ U := by rw [← hU, hp, Nat.pow_succ]; omega
      rw [h2, ← Nat.mul_assoc, Nat.mul_comm s 2, Nat.mul_assoc] at S0 S1
      omega
  have hs := fun w => csplit_any a h0 h1 w
  rw [hg] at hs
  have hNc : (Flt.sig a) * 2 ^ ((U : Int)).toNat = ((s * 2 ^ U : Nat) : Int) := by rw [x2, Int.toNat_natCast, Flt.pow_cast, ← Int.natCast_mul]
  have hEe : (Flt.expo a - (U : Int)).tdiv 2 = (k : Int) - 149 := by
    have : Flt.expo a - (U : Int) = 2 * ((k : Int) - 149) := by omega
    rw [this, Int.mul_tdiv_cancel_left _ (by decide)]
  refine (csqrt_walk way a (Flt.expo a) (Flt.sig a) (L : Int) (par : Int) (U : Int) ((s * 2 ^ U : Nat) : Int) ((k : Int) - 149) (s * 2 ^ U) h0 h1 n1 n2 nz hg hs (by omega) (by omega) (by omega) (by omega) (by rw [x2]; exact hL) (by omega) (by omega)
    (by rw [and1_i64]; exact hpar) (by omega) (by omega) (by omega) (by omega) (by rw [hNc]; exact wrap_u64_in _ (Int.natCast_nonneg _) (by omega)) (Int.natCast_nonneg _) (by omega) rfl hEe (by omega) (by omega) w).mono ?_
  rintro e' w1 ⟨⟨r, rfl, hr1, hr2⟩, hb1⟩
  obtain ⟨v, v1, v2⟩ := Flt.root_RT way ((k : Int) - 149) s e U (s * 2 ^ U) r k x4 rfl hNlo.1 hNlo.2 (by omega) hk rfl hr1 hr2
  refine ⟨⟨v, ?_, by rw [x6]; exact v2⟩, hb1⟩
  rw [v1]
  exact ret_int (by simp [Flt.signBit])

/-- Roots, of every float. -/
def SqrtAns (way a r : Int) : Prop :=
  ((Flt.isNaN a = true ∨ Flt.absF a = 0 ∨ Flt.isInf a = true ∨ Flt.sgn a = true) ∧ r = Flt.sqrtX a) ∨
  ((Flt.mg a < 2139095040 ∧ Flt.mg a ≠ 0 ∧ Flt.sgn a = false) ∧ ∃ v : Nat, r = (v : Int) ∧ Flt.RT way (Flt.A (Flt.mg a) * 2 ^ 149) v)
theorem sqrtAns_one {way a r r' : Int} (h : SqrtAns way a r) (h' : SqrtAns way a r') : r = r' := by
  have no : ¬ ((Flt.isNaN a = true ∨ Flt.absF a = 0 ∨ Flt.isInf a = true ∨ Flt.sgn a = true) ∧ (Flt.mg a < 2139095040 ∧ Flt.mg a ≠ 0 ∧ Flt.sgn a = false)) := by
    rintro ⟨h1, h2, h3, h4⟩
    rw [Flt.isNaN_iff, Flt.isInf_iff, h4] at h1
    unfold Flt.absF at h1
    unfold Flt.mg at *
    rcases h1 with h1 | h1 | h1 | h1
    · omega
    · omega
    · omega
    · cases h1
  rcases h with ⟨a1, a2⟩ | ⟨a1, v, a2, a3⟩
  · rcases h' with ⟨b1, b2⟩ | ⟨b1, _⟩
    · rw [a2, b2]
    · exact absurd ⟨a1, b1⟩ no
  · rcases h' with ⟨b1, b2⟩ | ⟨b1, v', b2, b3⟩
    · exact absurd ⟨b1, a1⟩ no
    · rw [a2, b2, Flt.RT_one a3 b3]
theorem sqrt_cases (a : Int) : (Flt.isNaN a = true ∨ Flt.absF a = 0 ∨ Flt.isInf a = true ∨ Flt.sgn a = true) ∨ (Flt.mg a < 2139095040 ∧ Flt.mg a ≠ 0 ∧ Flt.sgn a = false) := by
  by_cases h : Flt.mg a < 2139095040 ∧ Flt.mg a ≠ 0 ∧ Flt.sgn a = false
  · exact .inr h
  · left
    cases hs : Flt.sgn a
    · rw [hs] at h
      rw [Flt.isNaN_iff, Flt.isInf_iff]
      unfold Flt.absF
      unfold Flt.mg at *
      by_cases h1 : 2139095040 < (a % 2147483648).toNat
      · exact .inl h1
      · by_cases h2 : a % 2147483648 = 0
        · exact .inr (.inl h2)
        · refine .inr (.inr (.inl ?_))
          rcases Nat.lt_or_ge (a % 2147483648).toNat 2139095040 with g | g
          · exact absurd ⟨g, by omega, rfl⟩ h
          · omega
    · exact .inr (.inr (.inr rfl))
theorem csqrtBy_any (way a : Int) (h0 : 0 ≤ a) (h1 : a < 4294967296) (w : World) :
    Calls Try.prog 16 #[.int .i64 way, .int .u32 a] w fun e w' => (∃ r : Int, e = .returned (.int .u32 r) ∧ SqrtAns way a r) ∧ Below w.heap.size w w' := by
  rcases sqrt_cases a with hx | hf
  · refine (csqrt_x way a h0 h1 hx w).mono ?_
    rintro e w1 ⟨rfl, rfl⟩
    refine ⟨⟨_, rfl, .inl ⟨hx, ?_⟩⟩, Below.refl _ _⟩
    unfold Flt.sqrtX
    split
    · rfl
    · rename_i hn
      split
      · rename_i hz; rw [if_pos (.inl hz)]
      · rename_i hz
        split
        · rename_i hg
          rw [if_neg]
          rintro (g | g)
          · exact hz g
          · unfold Flt.sgn at hg; rw [g] at hg; simp at hg
        · rename_i hg
          have hi : Flt.isInf a = true := by
            rcases hx with h | h | h | h
            · exact absurd h hn
            · exact absurd h hz
            · exact h
            · exact absurd h hg
          have hs : Flt.sgn a = false := by cases h : Flt.sgn a <;> simp_all
          have ei := Flt.inf_eq a h0 h1 hi
          rw [hs] at ei
          have ej : a = 2139095040 := by simpa [Flt.signBit] using ei
          rw [if_pos (.inr ej)]
  · refine (csqrt_fin way a h0 h1 hf.1 hf.2.1 hf.2.2 w).mono ?_
    rintro e w1 ⟨⟨v, rfl, hv⟩, hb1⟩
    exact ⟨⟨_, rfl, .inr ⟨hf, v, rfl, hv⟩⟩, hb1⟩
theorem csqrt_any (a : Int) (h0 : 0 ≤ a) (h1 : a < 4294967296) (w : World) :
    Calls Try.prog 24 #[.int .u32 a] w fun e w' => (∃ r : Int, e = .returned (.int .u32 r) ∧ SqrtAns 0 a r) ∧ Below w.heap.size w w' := by
  go_enter Try.func24, Try.ntmps24
  go_wp2_with fail
  refine (csqrtBy_any 0 a h0 h1 _).mono ?_
  rintro e w1 ⟨⟨r, rfl, hr⟩, hb1⟩
  go_wp2_with fail
  go_ret
  exact ⟨⟨r, rfl, hr⟩, hb1⟩

/-- Powers of two. -/
def clampK (k : Int) : Int := if k ≤ -1000 then -1000 else if 1000 ≤ k then 1000 else k
def scaleC (a k : Int) : Int := if Flt.isNaN a = true ∨ Flt.isInf a = true then Flt.canon a else Flt.rnd 0 (Flt.sgn a) (Flt.expo a + clampK k) (Flt.sig a) false
theorem cscale_any (a k : Int) (h0 : 0 ≤ a) (h1 : a < 4294967296) (w : World) :
    Calls Try.prog 27 #[.int .u32 a, .int .i64 k] w fun e w' => e = .returned (.int .u32 (scaleC a k)) ∧ Below w.heap.size w w' := by
  unfold scaleC
  by_cases hx : Flt.isNaN a = true ∨ Flt.isInf a = true
  · rw [if_pos hx]
    refine (cscale_x a k h0 h1 hx w).mono ?_
    rintro e w1 ⟨rfl, rfl⟩
    exact ⟨rfl, Below.refl _ _⟩
  · rw [if_neg hx]
    have nn : Flt.isNaN a = false := by cases h : Flt.isNaN a <;> simp_all
    have ni : Flt.isInf a = false := by cases h : Flt.isInf a <;> simp_all
    exact cscale_walk a k _ h0 h1 nn ni (by unfold clampK; (repeat' split) <;> omega) w

/-- The statements' head. -/
theorem awk_a : Flt.fmaC 0 1065353217 1065353217 3212836866 = 679477248 := by decide +kernel
theorem awk_c : Flt.rnd 0 (decide ((16777217 : Int) < 0)) 0 ((16777217 : Int).natAbs : Int) false = 1266679808 := by decide +kernel
theorem awk_d : Flt.toIntV 3223322624 = -2 := by decide +kernel
theorem awk_e : Flt.wholeC 0 1075838976 = 1073741824 := by decide +kernel
theorem awk_f : Flt.wholeC 1 3204448256 = 2147483648 := by decide +kernel
theorem awk_g : scaleC 1069547520 (-150) = 1 := by decide +kernel
theorem awk_b (r : Int) (h : SqrtAns 0 1073741824 r) : r = 1068827891 := by
  refine sqrtAns_one h (.inr ⟨⟨by decide, by decide, by decide⟩, 1068827891, rfl, 1068827891, ⟨by decide, by decide +kernel, by decide +kernel⟩, by decide +kernel⟩)

set_option maxRecDepth 100000 in
set_option maxHeartbeats 1000000 in
theorem awake2_any (w : World) :
    Calls Try.prog 7 #[] w fun e w' => e = .returned (.bool true) ∧ Below w.heap.size w w' := by
  go_enter Try.func7, Try.ntmps7
  go_wp2_with fail
  refine (cfma_any _ _ _ (by omega) (by omega) (by omega) (by omega) (by omega) (by omega) _).mono ?_
  rw [awk_a]
  rintro e w1 ⟨rfl, hb1⟩
  go_wp2_with fail
  refine (csqrt_any _ (by omega) (by omega) _).mono ?_
  rintro e w2 ⟨⟨r, rfl, hr⟩, hb2⟩
  have hr2 := awk_b r hr
  subst hr2
  clear hr
  go_wp2_with fail
  refine (cfromInt_any _ (by omega) (by omega) _).mono ?_
  rw [awk_c]
  rintro e w3 ⟨rfl, rfl⟩
  go_wp2_with fail
  refine (ctoInt_any _ (by omega) (by omega) _).mono ?_
  rw [awk_d]
  rintro e w4 ⟨rfl, hb4⟩
  go_wp2_with fail
  refine (ceven_any _ (by omega) (by omega) _).mono ?_
  rw [awk_e]
  rintro e w5 ⟨rfl, hb5⟩
  go_wp2_with fail
  refine (cceil_any _ (by omega) (by omega) _).mono ?_
  rw [awk_f]
  rintro e w6 ⟨rfl, hb6⟩
  go_wp2_with fail
  refine (cscale_any _ _ (by omega) (by omega) _).mono ?_
  rw [awk_g]
  rintro e w7 ⟨rfl, hb7⟩
  go_wp2_with fail
  go_ret
  exact ⟨rfl, bl_tr (bl_tr (bl_tr (bl_tr (bl_tr hb1 hb2) hb4) hb5) hb6) hb7⟩
end Go.Proofs.Ytkbniebahledmaa
