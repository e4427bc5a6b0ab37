import Derived.Test.YtkbniebahledmabGR

/-
  Layer 3: of an odd number of quarters what is left of an angle is at most 2 and not nought, and nor is its sine (P3.8).
-/
namespace Go.Proofs.Ytkbniebahledmab
open Go.RowKit
set_option linter.unusedVariables false

theorem Rd_scale {v : Int} {q g : Nat} {res : Int} (hg : 0 < g) (h : Rd (v * (g : Int)) (q * g) res) : Rd v q res := by
  obtain ⟨r, h1, h2, h3⟩ := h
  rw [Int.natAbs_mul, Int.natAbs_natCast] at h1
  refine ⟨r, (Flt.RN_scale hg).1 h1, h2, fun hr => ?_⟩
  rw [h3 hr]
  have g0 : (0 : Int) < (g : Int) := by omega
  rw [Bool.eq_iff_iff, decide_eq_true_iff, decide_eq_true_iff]
  constructor
  · intro h
    rcases Int.lt_or_le v 0 with k | k
    · exact k
    · have := Int.mul_nonneg k (Int.le_of_lt g0); omega
  · intro h
    exact Int.mul_neg_of_neg_of_pos h g0
theorem Rd_err {v : Int} {q B : Nat} {res : Int} (hq : 0 < q) (hB : B ≤ 254) (h1 : 1 ≤ B) (h : Rd v q res) (hr : Flt.mg res < B * 8388608) :
    2 * (Flt.val res * (q : Int)) ≤ 2 * v + ((2 ^ (B - 2) * q : Nat) : Int) ∧ 2 * v ≤ 2 * (Flt.val res * (q : Int)) + ((2 ^ (B - 2) * q : Nat) : Int) := by
  obtain ⟨r, h2, h3, h4⟩ := h
  rw [h3] at hr
  obtain ⟨e1, e2⟩ := RN_err hq hB h2 hr h1
  generalize 2 ^ (B - 2) * q = G at *
  have hv : Flt.val res * (q : Int) = if Flt.sgn res = true then -((Flt.A r * q : Nat) : Int) else ((Flt.A r * q : Nat) : Int) := by
    rw [val_of_mg h3]; split <;> simp [Int.neg_mul]
  rw [hv]
  by_cases hz : r = 0
  · subst hz
    rw [Flt.A_zero, Nat.zero_mul] at e1 e2 ⊢
    split <;> omega
  · rw [h4 hz]
    generalize Flt.A r * q = Y at *
    by_cases hn : v < 0
    · rw [if_pos (by simp [hn])]; omega
    · rw [if_neg (by simp [hn])]; omega

theorem num1 {P Q X : Int} (hP : 0 < P) (q1 : Q ≤ 16777216 * P) (q2 : -(16777216 * P) ≤ Q)
    (e1 : 4 * (2361183241434822606848 * Q) ≤ 4 * (10680707 * X) + 3 * (2361183241434822606848 * P)) (e2 : 4 * (10680707 * X) ≤ 4 * (2361183241434822606848 * Q) + 3 * (2361183241434822606848 * P)) :
    X - 221001837182976 * Q ≤ 1152921504606846976 * P ∧ -(1152921504606846976 * P) ≤ X - 221001837182976 * Q := by omega
theorem num2 {P Q X T : Int} (hP : 0 < P) (q1 : Q ≤ 16777216 * P) (q2 : -(16777216 * P) ≤ Q)
    (e1 : 4 * (2361183241434822606848 * Q) ≤ 4 * (10680707 * X) + 3 * (2361183241434822606848 * P)) (e2 : 4 * (10680707 * X) ≤ 4 * (2361183241434822606848 * Q) + 3 * (2361183241434822606848 * P))
    (t1 : 2 * T ≤ 2 * (X - 221001837182976 * Q) + 137438953472 * P) (t2 : 2 * (X - 221001837182976 * Q) ≤ 2 * T + 137438953472 * P) :
    T - 68081942528 * Q ≤ 562949953421312 * P ∧ -(562949953421312 * P) ≤ T - 68081942528 * Q := by omega
theorem num3 {P Q X T S : Int} (hP : 0 < P)
    (h : (Q ≤ 16777216 * P ∧ -(16777216 * P) ≤ Q ∧ 2 * (2361183241434822606848 * Q) ≤ 2 * (10680707 * X) + 2361183241434822606848 * P ∧ 2 * (10680707 * X) ≤ 2 * (2361183241434822606848 * Q) + 2361183241434822606848 * P) ∨
      (Q ≤ 8388608 * P ∧ -(8388608 * P) ≤ Q ∧ 4 * (2361183241434822606848 * Q) ≤ 4 * (10680707 * X) + 3 * (2361183241434822606848 * P) ∧ 4 * (10680707 * X) ≤ 4 * (2361183241434822606848 * Q) + 3 * (2361183241434822606848 * P)))
    (t1 : 2 * T ≤ 2 * (X - 221001837182976 * Q) + 137438953472 * P) (t2 : 2 * (X - 221001837182976 * Q) ≤ 2 * T + 137438953472 * P)
    (s1 : 2 * S ≤ 2 * (T - 68081942528 * Q) + 67108864 * P) (s2 : 2 * (T - 68081942528 * Q) ≤ 2 * S + 67108864 * P) :
    S - 10625385 * Q ≤ 281474976710656 * P ∧ -(281474976710656 * P) ≤ S - 10625385 * Q := by
  rcases h with ⟨q1, q2, e1, e2⟩ | ⟨q1, q2, e1, e2⟩
  · omega
  · omega
theorem ar_i {P Q X : Int} (hP : 0 < P) (m1 : Q ≤ 16777216 * P) (m2 : -16777216 * P ≤ Q) (e1 : 2 * (2361183241434822606848 * Q) ≤ 2 * (X * 10680707) + 140737488355328 * P * 16777216) (e2 : 2 * (X * 10680707) ≤ 2 * (2361183241434822606848 * Q) + 140737488355328 * P * 16777216) :
    Q ≤ 16777216 * P ∧ -(16777216 * P) ≤ Q ∧ 2 * (2361183241434822606848 * Q) ≤ 2 * (10680707 * X) + 2361183241434822606848 * P ∧ 2 * (10680707 * X) ≤ 2 * (2361183241434822606848 * Q) + 2361183241434822606848 * P := by omega
theorem ar_ii {P Q X V : Int} (hP : 0 < P) (m1 : Q ≤ 8388608 * P) (m2 : -8388608 * P ≤ Q) (e1 : 2 * (V * 16777216) ≤ 2 * (X * 10680707) + 70368744177664 * P * 16777216) (e2 : 2 * (X * 10680707) ≤ 2 * (V * 16777216) + 70368744177664 * P * 16777216)
    (n1 : 2 * (140737488355328 * Q) ≤ 2 * V + 140737488355328 * P) (n2 : 2 * V ≤ 2 * (140737488355328 * Q) + 140737488355328 * P) :
    Q ≤ 8388608 * P ∧ -(8388608 * P) ≤ Q ∧ 4 * (2361183241434822606848 * Q) ≤ 4 * (10680707 * X) + 3 * (2361183241434822606848 * P) ∧ 4 * (10680707 * X) ≤ 4 * (2361183241434822606848 * Q) + 3 * (2361183241434822606848 * P) := by omega
theorem ar_weak {P Q X : Int} (hP : 0 < P)
    (h : (Q ≤ 16777216 * P ∧ -(16777216 * P) ≤ Q ∧ 2 * (2361183241434822606848 * Q) ≤ 2 * (10680707 * X) + 2361183241434822606848 * P ∧ 2 * (10680707 * X) ≤ 2 * (2361183241434822606848 * Q) + 2361183241434822606848 * P) ∨
      (Q ≤ 8388608 * P ∧ -(8388608 * P) ≤ Q ∧ 4 * (2361183241434822606848 * Q) ≤ 4 * (10680707 * X) + 3 * (2361183241434822606848 * P) ∧ 4 * (10680707 * X) ≤ 4 * (2361183241434822606848 * Q) + 3 * (2361183241434822606848 * P))) :
    (Q ≤ 16777216 * P ∧ -(16777216 * P) ≤ Q) ∧ 4 * (2361183241434822606848 * Q) ≤ 4 * (10680707 * X) + 3 * (2361183241434822606848 * P) ∧ 4 * (10680707 * X) ≤ 4 * (2361183241434822606848 * Q) + 3 * (2361183241434822606848 * P) := by
  rcases h with ⟨a, b, c, d⟩ | ⟨a, b, c, d⟩ <;> omega
theorem ar_T_pos (T : Int) (p : Nat) (h : ¬ (T - 68081942528 * (((1 : Nat) : Int) * (p : Int)) < 0)) : T.natAbs = (T - 68081942528 * (((1 : Nat) : Int) * (p : Int))).natAbs + 68081942528 * p := by omega
theorem ar_T_neg (T : Int) (p : Nat) (h : T - 68081942528 * (-((1 : Nat) : Int) * (p : Int)) < 0) : T.natAbs = (T - 68081942528 * (-((1 : Nat) : Int) * (p : Int))).natAbs + 68081942528 * p := by omega
theorem ar_j {j : Nat} (h1 : 10625384 ≤ j * 4096 - 68081942528) (h2 : j * 4096 - 68081942528 ≤ 10625386) : False := by omega
theorem ar_ne {T L : Int} (h : T ≠ L) : 1 ≤ (T - L).natAbs := by omega
theorem P_pos : (0 : Int) < ((2 ^ 102 : Nat) : Int) := by decide
theorem U_P : ((2 ^ 149 : Nat) : Int) = 140737488355328 * ((2 ^ 102 : Nat) : Int) := by decide +kernel
theorem U_P1 : ((2 ^ 148 : Nat) : Int) = 70368744177664 * ((2 ^ 102 : Nat) : Int) := by decide +kernel
theorem U_P2 : ((2 ^ 139 : Nat) : Int) = 137438953472 * ((2 ^ 102 : Nat) : Int) := by decide +kernel
theorem U_P3 : ((2 ^ 128 : Nat) : Int) = 67108864 * ((2 ^ 102 : Nat) : Int) := by decide +kernel
theorem vH : Flt.val 0xBFC90000 = -(221001837182976 * ((2 ^ 102 : Nat) : Int)) := by decide +kernel
theorem vM : Flt.val 0xB9FDA000 = -(68081942528 * ((2 ^ 102 : Nat) : Int)) := by decide +kernel
theorem vL : Flt.val 0xB3A22169 = -(10625385 * ((2 ^ 102 : Nat) : Int)) := by decide +kernel
theorem vC : Flt.val 0x3F22F983 = 10680707 * ((2 ^ 125 : Nat) : Int) := by decide +kernel

/-- One step of taking quarters away, as a rounded difference. -/
theorem step_Rd {k h t K H T P U : Int} {u : Nat} (hk : R k) (hh : R h) (ht : R t) (fk : Flt.mg k < 2139095040) (fh : Flt.mg h < 2139095040) (ft : Flt.mg t < 2139095040)
    (ek : Flt.val k = K * ((2 ^ 149 : Nat) : Int)) (eh : Flt.val h = -(H * P)) : Rd (Flt.val t - H * (K * P)) 1 (Flt.fmaC 0 k h t) := by
  have r := Rd_fma hk hh ht fk fh ft
  refine Rd_scale (q := 1) (g := 2 ^ 149) (Nat.two_pow_pos 149) ?_
  rw [Nat.one_mul]
  have e : (Flt.val t - H * (K * P)) * ((2 ^ 149 : Nat) : Int) = Flt.val k * Flt.val h + Flt.val t * ((2 ^ 149 : Nat) : Int) := by
    rw [ek, eh]
    generalize ((2 ^ 149 : Nat) : Int) = U
    generalize Flt.val t = T
    rw [Int.sub_mul, Int.mul_neg, show K * U * (H * P) = H * (K * P) * U by ac_rfl]
    omega
  rw [e]; exact r
theorem even_facts {a : Int} (ha : R a) {n : Nat} (ba : Bd a n) (hn : n + 1 ≤ 60) :
    ∃ (K : Int) (N : Nat), Flt.val (Flt.wholeC 0 a) = K * ((2 ^ 149 : Nat) : Int) ∧ Flt.toIntV (Flt.wholeC 0 a) = K ∧ K = sv (Flt.sgn a) N ∧
      ((Flt.goes 0 (Flt.sgn a) (Flt.A (Flt.mg a)) ∧ N = Flt.A (Flt.mg a) / 2 ^ 149 + 1) ∨ (¬ Flt.goes 0 (Flt.sgn a) (Flt.A (Flt.mg a)) ∧ N = Flt.A (Flt.mg a) / 2 ^ 149)) := by
  obtain ⟨m, N, e1, e2, e3, e4⟩ := Flt.wholeC_spec 0 a ha.lo ha.hi (ba.fin (by omega))
  have bk := Bd_even ha ba (by omega)
  refine ⟨sv (Flt.sgn a) N, N, ?_, ?_, rfl, e4⟩
  · rw [e1]
    unfold Flt.val sv
    rw [Flt.sgn_signed _ _ (by omega), Flt.mg_signed _ _ (by omega), e3]
    split <;> simp [Int.neg_mul]
  · have nn := bk.nn (by omega)
    have hb := bk
    unfold Bd at hb
    unfold Flt.toIntV
    rw [nn, if_neg (by decide)]
    rw [e1] at hb ⊢
    rw [Flt.mg_signed _ _ (by omega)] at hb ⊢
    rw [Flt.sgn_signed _ _ (by omega), e3, Nat.mul_div_cancel _ (Nat.two_pow_pos 149), if_neg (by omega)]
    rfl
/-- An odd whole number comes of less than 2^24. -/
theorem odd_small {m N : Nat} {s : Bool} (h : (Flt.goes 0 s (Flt.A m) ∧ N = Flt.A m / 2 ^ 149 + 1) ∨ (¬ Flt.goes 0 s (Flt.A m) ∧ N = Flt.A m / 2 ^ 149)) (hodd : N % 2 = 1) : m < 151 * 8388608 := by
  rcases Nat.lt_or_ge m (151 * 8388608) with g | g
  · exact g
  · exfalso
    have hE : Flt.cutE m = m / 8388608 := by unfold Flt.cutE; rw [if_neg (by omega)]
    have hA : Flt.A m = Flt.cutF m * 2 ^ (Flt.cutE m - 151) * 2 * 2 ^ 149 := by
      rw [Flt.A_cut m, show Flt.cutE m - 1 = (Flt.cutE m - 151) + (1 + 149) by omega, Nat.pow_add, Nat.pow_add, Nat.pow_one, Nat.mul_assoc, Nat.mul_assoc]
    have h0 : Flt.A m % 2 ^ 149 = 0 := by rw [hA]; exact Nat.mul_mod_left _ _
    have hd : Flt.A m / 2 ^ 149 = Flt.cutF m * 2 ^ (Flt.cutE m - 151) * 2 := by rw [hA]; exact Nat.mul_div_cancel _ (Nat.two_pow_pos 149)
    rcases h with ⟨⟨g1, _⟩, _⟩ | ⟨_, e⟩
    · exact g1 h0
    · rw [hd] at e; omega
theorem near_nat {V K N : Nat} {s : Bool} (hK : 2 ^ 149 = K) (h : (Flt.goes 0 s V ∧ N = V / K + 1) ∨ (¬ Flt.goes 0 s V ∧ N = V / K)) : 2 * (N * K) ≤ 2 * V + K ∧ 2 * V ≤ 2 * (N * K) + K ∧ (V % K = 0 → N * K = V) := by
  have hd := Nat.div_add_mod V K
  have hlt : V % K < K := Nat.mod_lt _ (by rw [← hK]; exact Nat.two_pow_pos 149)
  unfold Flt.goes at h
  rw [hK] at h
  simp only [show ¬ ((0 : Int) = 1) by decide, show ¬ ((0 : Int) = 2) by decide, if_false] at h
  generalize V % K = r at *
  rcases h with ⟨⟨g0, g⟩, e⟩ | ⟨g, e⟩
  · rw [e, Nat.add_mul, Nat.one_mul, Nat.mul_comm (V / K) K]
    generalize K * (V / K) = D at *
    omega
  · rw [e, Nat.mul_comm (V / K) K]
    generalize K * (V / K) = D at *
    by_cases hr : r = 0
    · omega
    · have : ¬ K < 2 * r := fun h => g ⟨hr, .inl h⟩
      omega
theorem near_sv {V N K : Nat} {s : Bool} (h1 : 2 * (N * K) ≤ 2 * V + K) (h2 : 2 * V ≤ 2 * (N * K) + K) : 2 * (sv s N * (K : Int)) ≤ 2 * sv s V + (K : Int) ∧ 2 * sv s V ≤ 2 * (sv s N * (K : Int)) + (K : Int) := by
  have e : sv s N * (K : Int) = sv s (N * K) := (sv_scale s N K).symm
  rw [e]
  generalize N * K = M at *
  unfold sv; split <;> omega

/-- What is left of an angle with an odd number of quarters: at most 2, and not nought. -/
theorem odd_left {x : Int} (hx : R x) (bx : Bd x 40) (hodd : Flt.toIntV (cirK x) % 2 = 1) : Bd (cirR x) 1 ∧ Flt.mg (cirR x) ≠ 0 := by
  obtain ⟨rk, bk, r1, b1, r2, b2, r3, b3⟩ := cir_bd hx bx
  have rc : R 0x3F22F983 := ⟨by omega, by omega⟩
  have ra := R_mul hx rc
  have ba : Bd (Flt.mulBy 0 x 0x3F22F983) 40 := Bd_mul hx rc bx (show Bd 0x3F22F983 0 by unfold Bd; decide) (by omega) (by omega)
  obtain ⟨K, N, vk, tk, eK, hN⟩ := even_facts ra ba (by omega)
  have vk' : Flt.val (cirK x) = K * ((2 ^ 149 : Nat) : Int) := vk
  have hNo : N % 2 = 1 := by
    have : Flt.toIntV (cirK x) = K := tk
    rw [this, eK] at hodd
    unfold sv at hodd
    split at hodd <;> omega
  have hsm := odd_small hN hNo
  -- a against x
  have hRa : Rd (Flt.val x * 10680707) (2 ^ 24) (Flt.mulBy 0 x 0x3F22F983) := by
    refine Rd_scale (g := 2 ^ 125) (Nat.two_pow_pos 125) ?_
    have := Rd_mul hx rc (bx.fin (by omega)) (by decide)
    rw [vC, ← Int.mul_assoc] at this
    rw [← Nat.pow_add]; exact this
  obtain ⟨nn1, nn2, nn3⟩ := near_nat rfl hN
  have hva : Flt.val (Flt.mulBy 0 x 0x3F22F983) = sv (Flt.sgn (Flt.mulBy 0 x 0x3F22F983)) (Flt.A (Flt.mg (Flt.mulBy 0 x 0x3F22F983))) := rfl
  obtain ⟨ns1, ns2⟩ := near_sv (s := Flt.sgn (Flt.mulBy 0 x 0x3F22F983)) nn1 nn2
  rw [← hva, ← eK] at ns1 ns2
  have p24 : ((2 ^ 24 : Nat) : Int) = 16777216 := by decide
  -- the two ways
  have key : (K * ((2 ^ 102 : Nat) : Int) ≤ 16777216 * ((2 ^ 102 : Nat) : Int) ∧ -(16777216 * ((2 ^ 102 : Nat) : Int)) ≤ K * ((2 ^ 102 : Nat) : Int) ∧ 2 * (2361183241434822606848 * (K * ((2 ^ 102 : Nat) : Int))) ≤ 2 * (10680707 * Flt.val x) + 2361183241434822606848 * ((2 ^ 102 : Nat) : Int) ∧ 2 * (10680707 * Flt.val x) ≤ 2 * (2361183241434822606848 * (K * ((2 ^ 102 : Nat) : Int))) + 2361183241434822606848 * ((2 ^ 102 : Nat) : Int)) ∨
      (K * ((2 ^ 102 : Nat) : Int) ≤ 8388608 * ((2 ^ 102 : Nat) : Int) ∧ -(8388608 * ((2 ^ 102 : Nat) : Int)) ≤ K * ((2 ^ 102 : Nat) : Int) ∧ 4 * (2361183241434822606848 * (K * ((2 ^ 102 : Nat) : Int))) ≤ 4 * (10680707 * Flt.val x) + 3 * (2361183241434822606848 * ((2 ^ 102 : Nat) : Int)) ∧ 4 * (10680707 * Flt.val x) ≤ 4 * (2361183241434822606848 * (K * ((2 ^ 102 : Nat) : Int))) + 3 * (2361183241434822606848 * ((2 ^ 102 : Nat) : Int))) := by
    by_cases hbig : 150 * 8388608 ≤ Flt.mg (Flt.mulBy 0 x 0x3F22F983)
    · left
      obtain ⟨e1, e2⟩ := Rd_err (B := 151) (Nat.two_pow_pos 24) (by omega) (by omega) hRa hsm
      have hE : Flt.cutE (Flt.mg (Flt.mulBy 0 x 0x3F22F983)) = 150 := by unfold Flt.cutE; rw [if_neg (by omega)]; omega
      have hA : Flt.A (Flt.mg (Flt.mulBy 0 x 0x3F22F983)) = Flt.cutF (Flt.mg (Flt.mulBy 0 x 0x3F22F983)) * 2 ^ 149 := by rw [Flt.A_cut, hE]
      have h0 := nn3 (by rw [hA]; exact Nat.mul_mod_left _ _)
      have hva2 : Flt.val (Flt.mulBy 0 x 0x3F22F983) = K * ((2 ^ 149 : Nat) : Int) := by rw [hva, ← h0, sv_scale, ← eK]
      have hNle : N ≤ 16777216 := by
        have h1 := Flt.cutF_lt (Flt.mg (Flt.mulBy 0 x 0x3F22F983))
        rw [hA] at h0
        have := Nat.eq_of_mul_eq_mul_right (Nat.two_pow_pos 149) h0
        omega
      have hKle : K ≤ 16777216 ∧ -16777216 ≤ K := by rw [eK]; unfold sv; split <;> omega
      rw [hva2, U_P, p24, show ((2 ^ (151 - 2) * 2 ^ 24 : Nat) : Int) = ((2 ^ 149 : Nat) : Int) * ((2 ^ 24 : Nat) : Int) by rw [← Int.natCast_mul], U_P, p24] at e1 e2
      have hP := P_pos
      generalize ((2 ^ 102 : Nat) : Int) = P at *
      have m1 := Int.mul_le_mul_of_nonneg_right hKle.1 (Int.le_of_lt hP)
      have m2 := Int.mul_le_mul_of_nonneg_right hKle.2 (Int.le_of_lt hP)
      have e3 : K * (140737488355328 * P) * 16777216 = 2361183241434822606848 * (K * P) := by
        rw [Int.mul_left_comm K]; omega
      rw [e3] at e1 e2
      exact ar_i hP m1 m2 e1 e2
    · right
      obtain ⟨e1, e2⟩ := Rd_err (B := 150) (Nat.two_pow_pos 24) (by omega) (by omega) hRa (by omega)
      have hNle : N ≤ 8388608 := by
        have h1 := Flt.A_strict (show Flt.mg (Flt.mulBy 0 x 0x3F22F983) < (23 + 127) * 8388608 by omega)
        rw [A_bits] at h1
        have h2 : Flt.A (Flt.mg (Flt.mulBy 0 x 0x3F22F983)) / 2 ^ 149 < 8388608 := by
          rw [Nat.div_lt_iff_lt_mul (Nat.two_pow_pos 149)]
          rw [show (8388608 : Nat) = 2 ^ 23 by decide, ← Nat.pow_add]; exact h1
        rcases hN with ⟨_, h⟩ | ⟨_, h⟩ <;> omega
      have hKle : K ≤ 8388608 ∧ -8388608 ≤ K := by rw [eK]; unfold sv; split <;> omega
      rw [p24, show ((2 ^ (150 - 2) * 2 ^ 24 : Nat) : Int) = ((2 ^ 148 : Nat) : Int) * ((2 ^ 24 : Nat) : Int) by rw [← Int.natCast_mul], U_P1, p24] at e1 e2
      rw [U_P] at ns1 ns2
      have hP := P_pos
      generalize ((2 ^ 102 : Nat) : Int) = P at *
      have m1 := Int.mul_le_mul_of_nonneg_right hKle.1 (Int.le_of_lt hP)
      have m2 := Int.mul_le_mul_of_nonneg_right hKle.2 (Int.le_of_lt hP)
      have e3 : K * (140737488355328 * P) = 140737488355328 * (K * P) := Int.mul_left_comm _ _ _
      rw [e3] at ns1 ns2
      exact ar_ii hP m1 m2 e1 e2 ns1 ns2
  have hP := P_pos
  have d1 := step_Rd (P := ((2 ^ 102 : Nat) : Int)) (H := 221001837182976) (U := 0) (T := 0) (u := 0) rk (⟨by omega, by omega⟩ : R 0xBFC90000) hx (bk.fin (by omega)) (by decide) (bx.fin (by omega)) vk' vH
  have d2 := step_Rd (P := ((2 ^ 102 : Nat) : Int)) (H := 68081942528) (U := 0) (T := 0) (u := 0) rk (⟨by omega, by omega⟩ : R 0xB9FDA000) r1 (bk.fin (by omega)) (by decide) (b1.fin (by omega)) vk' vM
  have d3 := step_Rd (P := ((2 ^ 102 : Nat) : Int)) (H := 10625385) (U := 0) (T := 0) (u := 0) rk (⟨by omega, by omega⟩ : R 0xB3A22169) r2 (bk.fin (by omega)) (by decide) (b2.fin (by omega)) vk' vL
  have D1 : Rd (Flt.val x - 221001837182976 * (K * ((2 ^ 102 : Nat) : Int))) 1 (cirT1 x) := d1
  have D2 : Rd (Flt.val (cirT1 x) - 68081942528 * (K * ((2 ^ 102 : Nat) : Int))) 1 (cirT2 x) := d2
  have D3 : Rd (Flt.val (cirT2 x) - 10625385 * (K * ((2 ^ 102 : Nat) : Int))) 1 (cirR x) := d3
  clear d1 d2 d3
  have weak := ar_weak hP key
  obtain ⟨⟨wa, wb⟩, wc, wd⟩ := weak
  -- how far each step is
  have bnd : ∀ {v : Int} {res : Int} (n : Nat), n ≤ 127 → Rd v 1 res → v ≤ ((2 ^ (n + 149) : Nat) : Int) → -((2 ^ (n + 149) : Nat) : Int) ≤ v → Flt.mg res ≤ (n + 127) * 8388608 := by
    intro v res n hn ⟨r, h1, h2, _⟩ g1 g2
    rw [h2]
    refine RN_bd (by omega) hn ?_ h1
    rw [Nat.mul_one]
    generalize 2 ^ (n + 149) = T at *
    omega
  obtain ⟨n1a, n1b⟩ := num1 hP wa wb wc wd
  have u13 : ((2 ^ (13 + 149) : Nat) : Int) = 1152921504606846976 * ((2 ^ 102 : Nat) : Int) := by decide +kernel
  have g1 := bnd 13 (by omega) D1 (by rw [u13]; exact n1a) (by rw [u13]; exact n1b)
  obtain ⟨t1a, t1b⟩ := Rd_err (B := 141) (by decide) (by omega) (by omega) D1 (by omega)
  rw [Nat.mul_one, show ((1 : Nat) : Int) = 1 from rfl, Int.mul_one, show 141 - 2 = 139 from rfl, U_P2] at t1a t1b
  obtain ⟨n2a, n2b⟩ := num2 hP wa wb wc wd t1a t1b
  have u2 : ((2 ^ (2 + 149) : Nat) : Int) = 562949953421312 * ((2 ^ 102 : Nat) : Int) := by decide +kernel
  have g2 := bnd 2 (by omega) D2 (by rw [u2]; exact n2a) (by rw [u2]; exact n2b)
  obtain ⟨t2a, t2b⟩ := Rd_err (B := 130) (by decide) (by omega) (by omega) D2 (by omega)
  rw [Nat.mul_one, show ((1 : Nat) : Int) = 1 from rfl, Int.mul_one, show 130 - 2 = 128 from rfl, U_P3] at t2a t2b
  obtain ⟨n3a, n3b⟩ := num3 hP key t1a t1b t2a t2b
  have u1 : ((2 ^ (1 + 149) : Nat) : Int) = 281474976710656 * ((2 ^ 102 : Nat) : Int) := by decide +kernel
  have g3 := bnd 1 (by omega) D3 (by rw [u1]; exact n3a) (by rw [u1]; exact n3b)
  refine ⟨g3, ?_⟩
  -- not nought
  have hne : Flt.val (cirT2 x) ≠ 10625385 * (K * ((2 ^ 102 : Nat) : Int)) := by
    intro he
    have hab : Flt.A (Flt.mg (cirT2 x)) = 10625385 * N * 2 ^ 102 := by
      have h1 : (Flt.val (cirT2 x)).natAbs = Flt.A (Flt.mg (cirT2 x)) := by unfold Flt.val; split <;> omega
      have h2 : (10625385 * (K * ((2 ^ 102 : Nat) : Int))).natAbs = 10625385 * N * 2 ^ 102 := by
        rw [Int.natAbs_mul, Int.natAbs_mul, Int.natAbs_natCast, ← Nat.mul_assoc]
        congr 2
        rw [eK]; unfold sv; split <;> omega
      rw [← h1, he, h2]
    have hW : N = 1 := by
      rw [Flt.A_cut] at hab
      have hF := Flt.cutF_lt (Flt.mg (cirT2 x))
      generalize Flt.cutF (Flt.mg (cirT2 x)) = t at *
      generalize Flt.cutE (Flt.mg (cirT2 x)) - 1 = f at *
      rcases Nat.lt_or_ge 102 f with g | g
      · exfalso
        obtain ⟨d, rfl⟩ : ∃ d, f = d + 1 + 102 := ⟨f - 103, by omega⟩
        rw [Nat.pow_add, ← Nat.mul_assoc] at hab
        have := Nat.eq_of_mul_eq_mul_right (Nat.two_pow_pos 102) hab
        rw [Nat.pow_succ, ← Nat.mul_assoc] at this
        generalize t * 2 ^ d = y at this
        omega
      · obtain ⟨d, hd⟩ : ∃ d, 102 = d + f := ⟨102 - f, by omega⟩
        rw [hd, Nat.pow_add, ← Nat.mul_assoc] at hab
        have := Nat.eq_of_mul_eq_mul_right (Nat.two_pow_pos f) hab
        have h1 : 10625385 * N ≤ t := by rw [this]; exact Nat.le_mul_of_pos_right _ (Nat.two_pow_pos d)
        omega
    subst hW
    have hmt : Flt.mg (cirT2 x) = 866263401 := Flt.A_inj (by rw [hab]; decide +kernel)
    -- what was rounded to it
    obtain ⟨r, h1, h2, h3⟩ := D2
    rw [hmt] at h2
    subst h2
    have hs := h3 (by omega)
    obtain ⟨m, ⟨m1, m2, m3⟩, hpk⟩ := h1
    have hm : m = 866263400 ∨ m = 866263401 := by
      unfold Flt.pick Flt.inW Flt.outW at hpk
      simp at hpk
      split at hpk
      · omega
      · split at hpk
        · omega
        · split at hpk <;> omega
    have m4 := m3 (by omega)
    rw [Nat.mul_one] at m2 m4
    have A0 : Flt.A 866263400 = 10625384 * 2 ^ 102 := by decide +kernel
    have A1 : Flt.A 866263401 = 10625385 * 2 ^ 102 := by decide +kernel
    have A2 : Flt.A 866263402 = 10625386 * 2 ^ 102 := by decide +kernel
    have hr : 10625384 * 2 ^ 102 ≤ (Flt.val (cirT1 x) - 68081942528 * (K * ((2 ^ 102 : Nat) : Int))).natAbs ∧ (Flt.val (cirT1 x) - 68081942528 * (K * ((2 ^ 102 : Nat) : Int))).natAbs ≤ 10625386 * 2 ^ 102 := by
      rcases hm with rfl | rfl
      · rw [A0] at m2
        rw [show 866263400 + 1 = 866263401 from rfl, A1] at m4
        refine ⟨m2, Nat.le_trans (Nat.le_of_lt m4) (Nat.mul_le_mul_right _ (by omega))⟩
      · rw [A1] at m2
        rw [show 866263401 + 1 = 866263402 from rfl, A2] at m4
        exact ⟨Nat.le_trans (Nat.mul_le_mul_right _ (by omega)) m2, Nat.le_of_lt m4⟩
    -- the amount of the first rest is a multiple of 2^114, and so would the difference be
    have hT1 : Flt.A (Flt.mg (cirT1 x)) = (Flt.val (cirT1 x) - 68081942528 * (K * ((2 ^ 102 : Nat) : Int))).natAbs + 68081942528 * 2 ^ 102 := by
      have h1 : (Flt.val (cirT1 x)).natAbs = Flt.A (Flt.mg (cirT1 x)) := by unfold Flt.val; split <;> omega
      have hsT : Flt.sgn (cirT2 x) = Flt.sgn (Flt.mulBy 0 x 0x3F22F983) := by
        have hp : (0 : Int) < ((10625385 * 2 ^ 102 : Nat) : Int) := by decide
        unfold Flt.val at he
        rw [hmt, A1, eK] at he
        unfold sv at he
        cases s1 : Flt.sgn (cirT2 x) <;> cases s2 : Flt.sgn (Flt.mulBy 0 x 0x3F22F983) <;> rw [s1, s2] at he <;> simp only [Bool.false_eq_true, if_false, if_true] at he
        · exfalso; revert he; decide
        · exfalso; revert he; decide
      rw [hs] at hsT
      rw [← h1]
      rw [eK] at hsT ⊢
      have hr1 := hr.1
      rw [eK] at hr1
      have hpos : 0 < 10625384 * 2 ^ 102 := Nat.mul_pos (by omega) (Nat.two_pow_pos _)
      have hPN : ((2 ^ 102 : Nat) : Int) = ((2 ^ 102 : Nat) : Int) := rfl
      unfold sv at hsT hr1 ⊢
      cases s2 : Flt.sgn (Flt.mulBy 0 x 0x3F22F983) <;> rw [s2] at hsT hr1 <;> simp only [Bool.false_eq_true, if_false, if_true] at hsT hr1 ⊢
      · rw [decide_eq_false_iff_not] at hsT
        exact ar_T_pos _ _ hsT
      · rw [decide_eq_true_iff] at hsT
        exact ar_T_neg _ _ hsT
    have hmg1 : 972922880 ≤ Flt.mg (cirT1 x) := Flt.le_of_A (by
      rw [hT1, show Flt.A 972922880 = 68081942528 * 2 ^ 102 by decide +kernel]
      exact Nat.le_add_left _ _)
    have hcut := Flt.A_cut (Flt.mg (cirT1 x))
    have hE : Flt.cutE (Flt.mg (cirT1 x)) = Flt.mg (cirT1 x) / 8388608 := by unfold Flt.cutE; rw [if_neg (by omega)]
    obtain ⟨d, hd⟩ : ∃ d, Flt.cutE (Flt.mg (cirT1 x)) - 1 = d + (12 + 102) := ⟨Flt.cutE (Flt.mg (cirT1 x)) - 1 - 114, by omega⟩
    rw [hd, Nat.pow_add, Nat.pow_add, ← Nat.mul_assoc, ← Nat.mul_assoc, show (2 : Nat) ^ 12 = 4096 by decide] at hcut
    rw [hcut] at hT1
    generalize Flt.cutF (Flt.mg (cirT1 x)) * 2 ^ d = j at *
    generalize (Flt.val (cirT1 x) - 68081942528 * (K * ((2 ^ 102 : Nat) : Int))).natAbs = D at *
    have hD : D = (j * 4096 - 68081942528) * 2 ^ 102 := by rw [Nat.sub_mul]; omega
    rw [hD] at hr
    have q1 := Nat.le_of_mul_le_mul_right hr.1 (Nat.two_pow_pos 102)
    have q2 := Nat.le_of_mul_le_mul_right hr.2 (Nat.two_pow_pos 102)
    exact ar_j q1 q2
  obtain ⟨r, h1, h2, _⟩ := D3
  rw [h2]
  have hge : 1 ≤ r := RN_ge (m := 1) (by decide) (by decide) (by
    rw [show Flt.A 1 = 1 by decide, Nat.mul_one]
    exact ar_ne hne) h1
  omega
end Go.Proofs.Ytkbniebahledmab
