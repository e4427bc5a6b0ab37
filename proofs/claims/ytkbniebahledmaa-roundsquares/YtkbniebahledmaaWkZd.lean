/-
  Package round's sums are Flt.sumV, for any two whose first bit is the word's second one.
-/
import Derived.Test.YtkbniebahledmaaWkZc
namespace Go.Proofs.Ytkbniebahledmaa
open Go.RowKit
set_option linter.unusedVariables false

theorem two_words (T : Nat) : ((T / 2 ^ 64 : Nat) : Int) * 18446744073709551616 + ((T % 2 ^ 64 : Nat) : Int) = (T : Int) ∧ 0 ≤ ((T / 2 ^ 64 : Nat) : Int) ∧ 0 ≤ ((T % 2 ^ 64 : Nat) : Int) ∧ ((T % 2 ^ 64 : Nat) : Int) < 18446744073709551616 ∧ (T < 2 ^ 128 → ((T / 2 ^ 64 : Nat) : Int) < 18446744073709551616) := by
  have h1 : (2 : Nat) ^ 64 = 18446744073709551616 := by decide
  have h2 : (2 : Nat) ^ 128 = 340282366920938463463374607431768211456 := by decide
  rw [h1, h2]
  refine ⟨by omega, by omega, by omega, by omega, fun h => by omega⟩
theorem two_zero (R : Nat) (h : R ≠ 0) : ((((R / 2 ^ 64 : Nat) : Int) == 0) && (((R % 2 ^ 64 : Nat) : Int) == 0)) = false := by
  rw [Bool.and_eq_false_iff]
  have h1 : (2 : Nat) ^ 64 = 18446744073709551616 := by decide
  rw [h1]
  by_cases h2 : R / 18446744073709551616 = 0
  · right
    rw [beq_eq_false_iff_ne]; omega
  · left
    rw [beq_eq_false_iff_ne]; omega
theorem lowT_lt (S N : Nat) (h : S < 2 ^ 63) : Flt.lowT S N < 2 ^ 127 := by
  have h1 : Flt.lowT S N ≤ S * 2 ^ 64 := Nat.div_le_self _ _
  have h2 : S * 2 ^ 64 < 2 ^ 63 * 2 ^ 64 := Nat.mul_lt_mul_of_pos_right h (Nat.two_pow_pos 64)
  rw [← Nat.pow_add] at h2
  omega
theorem lowM_far (S N : Nat) (h : S < 2 ^ 63) (hm : Flt.lowM S N = true) : Flt.lowT S N < 2 ^ 63 := by
  rcases Nat.lt_or_ge N 64 with hN | hN
  · rw [(Flt.low_lo S N hN).2.2] at hm; cases hm
  · have h3 : Flt.lowT S N = S / 2 ^ (N - 64) := by
      obtain ⟨e1, e2, _⟩ := Flt.low_hi S N h hN
      have := Nat.div_add_mod (Flt.lowT S N) (2 ^ 64)
      rw [e1, e2, Nat.mul_zero, Nat.zero_add] at this
      exact this.symm
    rw [h3]
    exact Nat.lt_of_le_of_lt (Nat.div_le_self _ _) h

theorem csumW_A (way : Int) (xn yn : Bool) (xe ye : Int) (XS YS : Nat) (ho : ye < xe) (x0 : 2 ^ 62 ≤ XS) (x1 : XS < 2 ^ 63) (y0 : 2 ^ 62 ≤ YS) (y1 : YS < 2 ^ 63)
    (e0 : -1000 ≤ xe) (e1 : xe ≤ 1000) (f0 : -1000 ≤ ye) (f1 : ye ≤ 1000) (hle : Flt.lowT YS (xe - ye).toNat + Flt.upM (Flt.lowM YS (xe - ye).toNat) ≤ XS * 2 ^ 64) (w : World) :
    Calls Try.prog 40 #[.int .i64 way, .agg #[.bool xn, .int .i64 xe, .int .u64 (XS : Int)], .agg #[.bool yn, .int .i64 ye, .int .u64 (YS : Int)]] w fun e w' => e = .returned (.int .u32 (Flt.sumW way xn xe XS yn ye YS)) ∧ Below w.heap.size w w' := by
  have n62 : (2 : Nat) ^ 62 = 4611686018427387904 := by decide
  have n63 : (2 : Nat) ^ 63 = 9223372036854775808 := by decide
  have n64 : (2 : Nat) ^ 64 = 18446744073709551616 := by decide
  have n127 : (2 : Nat) ^ 127 = 170141183460469231731687303715884105728 := by decide
  have n128 : (2 : Nat) ^ 128 = 340282366920938463463374607431768211456 := by decide
  have xi0 : (0 : Int) ≤ (XS : Int) := by omega
  have xi1 : (XS : Int) < 9223372036854775808 := by omega
  have hlow : ∀ w, Calls Try.prog 59 #[.int .u64 (YS : Int), .int .i64 (xe - ye)] w fun e w' => e = .returned (.tuple #[.agg #[.int .u64 ((Flt.lowT YS (xe - ye).toNat / 2 ^ 64 : Nat) : Int), .int .u64 ((Flt.lowT YS (xe - ye).toNat % 2 ^ 64 : Nat) : Int)], .bool (Flt.lowM YS (xe - ye).toNat)]) ∧ Below w.heap.size w w' :=
    fun w => lowered_any YS (xe - ye).toNat (YS : Int) (xe - ye) _ _ _ rfl (by omega) (by omega) y1 rfl rfl rfl w
  have hT := lowT_lt YS (xe - ye).toNat y1
  have hfar := lowM_far YS (xe - ye).toNat y1
  unfold Flt.sumW
  generalize Flt.lowT YS (xe - ye).toNat = T at *
  generalize Flt.lowM YS (xe - ye).toNat = mo at *
  obtain ⟨t1, t2, t3, t4, t5⟩ := two_words T
  by_cases hs : xn = yn
  · subst hs
    rw [if_pos rfl]
    obtain ⟨s1, s2, s3, s4, s5⟩ := two_words (XS * 2 ^ 64 + T)
    have hlt : XS * 2 ^ 64 + T < 2 ^ 128 := by rw [n64, n128]; omega
    exact csum_same_A way xn xe XS ye YS _ _ _ _ 0 0 _ mo ho xi0 xi1 e0 e1 f0 f1 hlow
      (fun w => wplus_any XS 0 _ _ _ _ xi0 (by omega) t2 t3 (by omega) t4 s2 (s5 hlt) s3 s4 (by omega) w)
      (fun w => narrow_any way xn xe _ _ (XS * 2 ^ 64 + T) mo hlt e0 e1 rfl rfl w) w
  · have hy : yn = !xn := by cases xn <;> cases yn <;> simp_all
    subst hy
    rw [if_neg hs]
    cases mo
    · have hu : T + Flt.upM false = T := rfl
      rw [hu] at hle ⊢
      by_cases hz : XS * 2 ^ 64 = T
      · rw [if_pos hz]
        exact csum_0_A way xn xe XS ye YS _ _ 0 0 0 0 0 false ho xi0 xi1 e0 e1 f0 f1 hlow
          (fun w => wminus_any XS 0 _ _ 0 0 xi0 (by omega) t2 t3 (by omega) (by omega) (t5 (by rw [n128]; omega)) t4 (by omega) (by omega) (by omega) (by omega) w) w
      · rw [if_neg hz]
        obtain ⟨s1, s2, s3, s4, s5⟩ := two_words (XS * 2 ^ 64 - T)
        have hlt : XS * 2 ^ 64 - T < 2 ^ 128 := by rw [n64, n128]; omega
        exact csum_F_A way xn xe XS ye YS _ _ 0 0 _ _ _ false ho xi0 xi1 e0 e1 f0 f1 hlow
          (fun w => wminus_any XS 0 _ _ _ _ xi0 (by omega) t2 t3 (by omega) (by omega) (t5 (by rw [n128]; omega)) t4 s2 s3 s4 (by omega) w)
          (two_zero _ (by omega)) (fun w => narrow_any way xn xe _ _ (XS * 2 ^ 64 - T) false hlt e0 e1 rfl rfl w) w
    · have hu : T + Flt.upM true = T + 1 := rfl
      have h63 := hfar rfl
      rw [hu] at hle ⊢
      rw [if_neg (by rw [n64]; omega)]
      obtain ⟨r1, r2, r3, r4, r5⟩ := two_words (T + 1)
      obtain ⟨s1, s2, s3, s4, s5⟩ := two_words (XS * 2 ^ 64 - (T + 1))
      have hlt : XS * 2 ^ 64 - (T + 1) < 2 ^ 128 := by rw [n64, n128]; omega
      have hr5 := r5 (by rw [n128]; omega)
      exact csum_T_A way xn xe XS ye YS _ _ _ _ _ _ _ true ho xi0 xi1 e0 e1 f0 f1 hlow
        (fun w => wplus_any _ _ 0 1 _ _ t2 t3 (by omega) (by omega) t4 (by omega) r2 hr5 r3 r4 (by omega) w)
        (fun w => wminus_any XS 0 _ _ _ _ xi0 (by omega) r2 r3 (by omega) (by omega) hr5 r4 s2 s3 s4 (by omega) w)
        (two_zero _ (by rw [n64]; omega)) (fun w => narrow_any way xn xe _ _ (XS * 2 ^ 64 - (T + 1)) true hlt e0 e1 rfl rfl w) w

theorem csumW_B (way : Int) (xn yn : Bool) (xe ye : Int) (XS YS : Nat) (ho : xe = ye) (ho2 : YS ≤ XS) (x0 : 2 ^ 62 ≤ XS) (x1 : XS < 2 ^ 63) (y0 : 2 ^ 62 ≤ YS) (y1 : YS < 2 ^ 63)
    (e0 : -1000 ≤ xe) (e1 : xe ≤ 1000) (f0 : -1000 ≤ ye) (f1 : ye ≤ 1000) (hle : Flt.lowT YS (xe - ye).toNat + Flt.upM (Flt.lowM YS (xe - ye).toNat) ≤ XS * 2 ^ 64) (w : World) :
    Calls Try.prog 40 #[.int .i64 way, .agg #[.bool xn, .int .i64 xe, .int .u64 (XS : Int)], .agg #[.bool yn, .int .i64 ye, .int .u64 (YS : Int)]] w fun e w' => e = .returned (.int .u32 (Flt.sumW way xn xe XS yn ye YS)) ∧ Below w.heap.size w w' := by
  have n62 : (2 : Nat) ^ 62 = 4611686018427387904 := by decide
  have n63 : (2 : Nat) ^ 63 = 9223372036854775808 := by decide
  have n64 : (2 : Nat) ^ 64 = 18446744073709551616 := by decide
  have n127 : (2 : Nat) ^ 127 = 170141183460469231731687303715884105728 := by decide
  have n128 : (2 : Nat) ^ 128 = 340282366920938463463374607431768211456 := by decide
  have xi0 : (0 : Int) ≤ (XS : Int) := by omega
  have xi1 : (XS : Int) < 9223372036854775808 := by omega
  have hlow : ∀ w, Calls Try.prog 59 #[.int .u64 (YS : Int), .int .i64 (xe - ye)] w fun e w' => e = .returned (.tuple #[.agg #[.int .u64 ((Flt.lowT YS (xe - ye).toNat / 2 ^ 64 : Nat) : Int), .int .u64 ((Flt.lowT YS (xe - ye).toNat % 2 ^ 64 : Nat) : Int)], .bool (Flt.lowM YS (xe - ye).toNat)]) ∧ Below w.heap.size w w' :=
    fun w => lowered_any YS (xe - ye).toNat (YS : Int) (xe - ye) _ _ _ rfl (by omega) (by omega) y1 rfl rfl rfl w
  have hT := lowT_lt YS (xe - ye).toNat y1
  have hfar := lowM_far YS (xe - ye).toNat y1
  unfold Flt.sumW
  generalize Flt.lowT YS (xe - ye).toNat = T at *
  generalize Flt.lowM YS (xe - ye).toNat = mo at *
  obtain ⟨t1, t2, t3, t4, t5⟩ := two_words T
  by_cases hs : xn = yn
  · subst hs
    rw [if_pos rfl]
    obtain ⟨s1, s2, s3, s4, s5⟩ := two_words (XS * 2 ^ 64 + T)
    have hlt : XS * 2 ^ 64 + T < 2 ^ 128 := by rw [n64, n128]; omega
    exact csum_same_B way xn xe XS ye YS _ _ _ _ 0 0 _ mo ho (by omega) xi0 xi1 e0 e1 f0 f1 hlow
      (fun w => wplus_any XS 0 _ _ _ _ xi0 (by omega) t2 t3 (by omega) t4 s2 (s5 hlt) s3 s4 (by omega) w)
      (fun w => narrow_any way xn xe _ _ (XS * 2 ^ 64 + T) mo hlt e0 e1 rfl rfl w) w
  · have hy : yn = !xn := by cases xn <;> cases yn <;> simp_all
    subst hy
    rw [if_neg hs]
    cases mo
    · have hu : T + Flt.upM false = T := rfl
      rw [hu] at hle ⊢
      by_cases hz : XS * 2 ^ 64 = T
      · rw [if_pos hz]
        exact csum_0_B way xn xe XS ye YS _ _ 0 0 0 0 0 false ho (by omega) xi0 xi1 e0 e1 f0 f1 hlow
          (fun w => wminus_any XS 0 _ _ 0 0 xi0 (by omega) t2 t3 (by omega) (by omega) (t5 (by rw [n128]; omega)) t4 (by omega) (by omega) (by omega) (by omega) w) w
      · rw [if_neg hz]
        obtain ⟨s1, s2, s3, s4, s5⟩ := two_words (XS * 2 ^ 64 - T)
        have hlt : XS * 2 ^ 64 - T < 2 ^ 128 := by rw [n64, n128]; omega
        exact csum_F_B way xn xe XS ye YS _ _ 0 0 _ _ _ false ho (by omega) xi0 xi1 e0 e1 f0 f1 hlow
          (fun w => wminus_any XS 0 _ _ _ _ xi0 (by omega) t2 t3 (by omega) (by omega) (t5 (by rw [n128]; omega)) t4 s2 s3 s4 (by omega) w)
          (two_zero _ (by omega)) (fun w => narrow_any way xn xe _ _ (XS * 2 ^ 64 - T) false hlt e0 e1 rfl rfl w) w
    · have hu : T + Flt.upM true = T + 1 := rfl
      have h63 := hfar rfl
      rw [hu] at hle ⊢
      rw [if_neg (by rw [n64]; omega)]
      obtain ⟨r1, r2, r3, r4, r5⟩ := two_words (T + 1)
      obtain ⟨s1, s2, s3, s4, s5⟩ := two_words (XS * 2 ^ 64 - (T + 1))
      have hlt : XS * 2 ^ 64 - (T + 1) < 2 ^ 128 := by rw [n64, n128]; omega
      have hr5 := r5 (by rw [n128]; omega)
      exact csum_T_B way xn xe XS ye YS _ _ _ _ _ _ _ true ho (by omega) xi0 xi1 e0 e1 f0 f1 hlow
        (fun w => wplus_any _ _ 0 1 _ _ t2 t3 (by omega) (by omega) t4 (by omega) r2 hr5 r3 r4 (by omega) w)
        (fun w => wminus_any XS 0 _ _ _ _ xi0 (by omega) r2 r3 (by omega) (by omega) hr5 r4 s2 s3 s4 (by omega) w)
        (two_zero _ (by rw [n64]; omega)) (fun w => narrow_any way xn xe _ _ (XS * 2 ^ 64 - (T + 1)) true hlt e0 e1 rfl rfl w) w

theorem csumW_C (way : Int) (xn yn : Bool) (xe ye : Int) (XS YS : Nat) (ho : ye < xe) (x0 : 2 ^ 62 ≤ XS) (x1 : XS < 2 ^ 63) (y0 : 2 ^ 62 ≤ YS) (y1 : YS < 2 ^ 63)
    (e0 : -1000 ≤ xe) (e1 : xe ≤ 1000) (f0 : -1000 ≤ ye) (f1 : ye ≤ 1000) (hle : Flt.lowT YS (xe - ye).toNat + Flt.upM (Flt.lowM YS (xe - ye).toNat) ≤ XS * 2 ^ 64) (w : World) :
    Calls Try.prog 40 #[.int .i64 way, .agg #[.bool yn, .int .i64 ye, .int .u64 (YS : Int)], .agg #[.bool xn, .int .i64 xe, .int .u64 (XS : Int)]] w fun e w' => e = .returned (.int .u32 (Flt.sumW way xn xe XS yn ye YS)) ∧ Below w.heap.size w w' := by
  have n62 : (2 : Nat) ^ 62 = 4611686018427387904 := by decide
  have n63 : (2 : Nat) ^ 63 = 9223372036854775808 := by decide
  have n64 : (2 : Nat) ^ 64 = 18446744073709551616 := by decide
  have n127 : (2 : Nat) ^ 127 = 170141183460469231731687303715884105728 := by decide
  have n128 : (2 : Nat) ^ 128 = 340282366920938463463374607431768211456 := by decide
  have xi0 : (0 : Int) ≤ (XS : Int) := by omega
  have xi1 : (XS : Int) < 9223372036854775808 := by omega
  have hlow : ∀ w, Calls Try.prog 59 #[.int .u64 (YS : Int), .int .i64 (xe - ye)] w fun e w' => e = .returned (.tuple #[.agg #[.int .u64 ((Flt.lowT YS (xe - ye).toNat / 2 ^ 64 : Nat) : Int), .int .u64 ((Flt.lowT YS (xe - ye).toNat % 2 ^ 64 : Nat) : Int)], .bool (Flt.lowM YS (xe - ye).toNat)]) ∧ Below w.heap.size w w' :=
    fun w => lowered_any YS (xe - ye).toNat (YS : Int) (xe - ye) _ _ _ rfl (by omega) (by omega) y1 rfl rfl rfl w
  have hT := lowT_lt YS (xe - ye).toNat y1
  have hfar := lowM_far YS (xe - ye).toNat y1
  unfold Flt.sumW
  generalize Flt.lowT YS (xe - ye).toNat = T at *
  generalize Flt.lowM YS (xe - ye).toNat = mo at *
  obtain ⟨t1, t2, t3, t4, t5⟩ := two_words T
  by_cases hs : xn = yn
  · subst hs
    rw [if_pos rfl]
    obtain ⟨s1, s2, s3, s4, s5⟩ := two_words (XS * 2 ^ 64 + T)
    have hlt : XS * 2 ^ 64 + T < 2 ^ 128 := by rw [n64, n128]; omega
    exact csum_same_C way xn xe XS ye YS _ _ _ _ 0 0 _ mo ho xi0 xi1 e0 e1 f0 f1 hlow
      (fun w => wplus_any XS 0 _ _ _ _ xi0 (by omega) t2 t3 (by omega) t4 s2 (s5 hlt) s3 s4 (by omega) w)
      (fun w => narrow_any way xn xe _ _ (XS * 2 ^ 64 + T) mo hlt e0 e1 rfl rfl w) w
  · have hy : yn = !xn := by cases xn <;> cases yn <;> simp_all
    subst hy
    rw [if_neg hs]
    cases mo
    · have hu : T + Flt.upM false = T := rfl
      rw [hu] at hle ⊢
      by_cases hz : XS * 2 ^ 64 = T
      · rw [if_pos hz]
        exact csum_0_C way xn xe XS ye YS _ _ 0 0 0 0 0 false ho xi0 xi1 e0 e1 f0 f1 hlow
          (fun w => wminus_any XS 0 _ _ 0 0 xi0 (by omega) t2 t3 (by omega) (by omega) (t5 (by rw [n128]; omega)) t4 (by omega) (by omega) (by omega) (by omega) w) w
      · rw [if_neg hz]
        obtain ⟨s1, s2, s3, s4, s5⟩ := two_words (XS * 2 ^ 64 - T)
        have hlt : XS * 2 ^ 64 - T < 2 ^ 128 := by rw [n64, n128]; omega
        exact csum_F_C way xn xe XS ye YS _ _ 0 0 _ _ _ false ho xi0 xi1 e0 e1 f0 f1 hlow
          (fun w => wminus_any XS 0 _ _ _ _ xi0 (by omega) t2 t3 (by omega) (by omega) (t5 (by rw [n128]; omega)) t4 s2 s3 s4 (by omega) w)
          (two_zero _ (by omega)) (fun w => narrow_any way xn xe _ _ (XS * 2 ^ 64 - T) false hlt e0 e1 rfl rfl w) w
    · have hu : T + Flt.upM true = T + 1 := rfl
      have h63 := hfar rfl
      rw [hu] at hle ⊢
      rw [if_neg (by rw [n64]; omega)]
      obtain ⟨r1, r2, r3, r4, r5⟩ := two_words (T + 1)
      obtain ⟨s1, s2, s3, s4, s5⟩ := two_words (XS * 2 ^ 64 - (T + 1))
      have hlt : XS * 2 ^ 64 - (T + 1) < 2 ^ 128 := by rw [n64, n128]; omega
      have hr5 := r5 (by rw [n128]; omega)
      exact csum_T_C way xn xe XS ye YS _ _ _ _ _ _ _ true ho xi0 xi1 e0 e1 f0 f1 hlow
        (fun w => wplus_any _ _ 0 1 _ _ t2 t3 (by omega) (by omega) t4 (by omega) r2 hr5 r3 r4 (by omega) w)
        (fun w => wminus_any XS 0 _ _ _ _ xi0 (by omega) r2 r3 (by omega) (by omega) hr5 r4 s2 s3 s4 (by omega) w)
        (two_zero _ (by rw [n64]; omega)) (fun w => narrow_any way xn xe _ _ (XS * 2 ^ 64 - (T + 1)) true hlt e0 e1 rfl rfl w) w

theorem csumW_D (way : Int) (xn yn : Bool) (xe ye : Int) (XS YS : Nat) (ho : ye = xe) (ho2 : YS < XS) (x0 : 2 ^ 62 ≤ XS) (x1 : XS < 2 ^ 63) (y0 : 2 ^ 62 ≤ YS) (y1 : YS < 2 ^ 63)
    (e0 : -1000 ≤ xe) (e1 : xe ≤ 1000) (f0 : -1000 ≤ ye) (f1 : ye ≤ 1000) (hle : Flt.lowT YS (xe - ye).toNat + Flt.upM (Flt.lowM YS (xe - ye).toNat) ≤ XS * 2 ^ 64) (w : World) :
    Calls Try.prog 40 #[.int .i64 way, .agg #[.bool yn, .int .i64 ye, .int .u64 (YS : Int)], .agg #[.bool xn, .int .i64 xe, .int .u64 (XS : Int)]] w fun e w' => e = .returned (.int .u32 (Flt.sumW way xn xe XS yn ye YS)) ∧ Below w.heap.size w w' := by
  have n62 : (2 : Nat) ^ 62 = 4611686018427387904 := by decide
  have n63 : (2 : Nat) ^ 63 = 9223372036854775808 := by decide
  have n64 : (2 : Nat) ^ 64 = 18446744073709551616 := by decide
  have n127 : (2 : Nat) ^ 127 = 170141183460469231731687303715884105728 := by decide
  have n128 : (2 : Nat) ^ 128 = 340282366920938463463374607431768211456 := by decide
  have xi0 : (0 : Int) ≤ (XS : Int) := by omega
  have xi1 : (XS : Int) < 9223372036854775808 := by omega
  have hlow : ∀ w, Calls Try.prog 59 #[.int .u64 (YS : Int), .int .i64 (xe - ye)] w fun e w' => e = .returned (.tuple #[.agg #[.int .u64 ((Flt.lowT YS (xe - ye).toNat / 2 ^ 64 : Nat) : Int), .int .u64 ((Flt.lowT YS (xe - ye).toNat % 2 ^ 64 : Nat) : Int)], .bool (Flt.lowM YS (xe - ye).toNat)]) ∧ Below w.heap.size w w' :=
    fun w => lowered_any YS (xe - ye).toNat (YS : Int) (xe - ye) _ _ _ rfl (by omega) (by omega) y1 rfl rfl rfl w
  have hT := lowT_lt YS (xe - ye).toNat y1
  have hfar := lowM_far YS (xe - ye).toNat y1
  unfold Flt.sumW
  generalize Flt.lowT YS (xe - ye).toNat = T at *
  generalize Flt.lowM YS (xe - ye).toNat = mo at *
  obtain ⟨t1, t2, t3, t4, t5⟩ := two_words T
  by_cases hs : xn = yn
  · subst hs
    rw [if_pos rfl]
    obtain ⟨s1, s2, s3, s4, s5⟩ := two_words (XS * 2 ^ 64 + T)
    have hlt : XS * 2 ^ 64 + T < 2 ^ 128 := by rw [n64, n128]; omega
    exact csum_same_D way xn xe XS ye YS _ _ _ _ 0 0 _ mo ho (by omega) xi0 xi1 e0 e1 f0 f1 hlow
      (fun w => wplus_any XS 0 _ _ _ _ xi0 (by omega) t2 t3 (by omega) t4 s2 (s5 hlt) s3 s4 (by omega) w)
      (fun w => narrow_any way xn xe _ _ (XS * 2 ^ 64 + T) mo hlt e0 e1 rfl rfl w) w
  · have hy : yn = !xn := by cases xn <;> cases yn <;> simp_all
    subst hy
    rw [if_neg hs]
    cases mo
    · have hu : T + Flt.upM false = T := rfl
      rw [hu] at hle ⊢
      by_cases hz : XS * 2 ^ 64 = T
      · rw [if_pos hz]
        exact csum_0_D way xn xe XS ye YS _ _ 0 0 0 0 0 false ho (by omega) xi0 xi1 e0 e1 f0 f1 hlow
          (fun w => wminus_any XS 0 _ _ 0 0 xi0 (by omega) t2 t3 (by omega) (by omega) (t5 (by rw [n128]; omega)) t4 (by omega) (by omega) (by omega) (by omega) w) w
      · rw [if_neg hz]
        obtain ⟨s1, s2, s3, s4, s5⟩ := two_words (XS * 2 ^ 64 - T)
        have hlt : XS * 2 ^ 64 - T < 2 ^ 128 := by rw [n64, n128]; omega
        exact csum_F_D way xn xe XS ye YS _ _ 0 0 _ _ _ false ho (by omega) xi0 xi1 e0 e1 f0 f1 hlow
          (fun w => wminus_any XS 0 _ _ _ _ xi0 (by omega) t2 t3 (by omega) (by omega) (t5 (by rw [n128]; omega)) t4 s2 s3 s4 (by omega) w)
          (two_zero _ (by omega)) (fun w => narrow_any way xn xe _ _ (XS * 2 ^ 64 - T) false hlt e0 e1 rfl rfl w) w
    · have hu : T + Flt.upM true = T + 1 := rfl
      have h63 := hfar rfl
      rw [hu] at hle ⊢
      rw [if_neg (by rw [n64]; omega)]
      obtain ⟨r1, r2, r3, r4, r5⟩ := two_words (T + 1)
      obtain ⟨s1, s2, s3, s4, s5⟩ := two_words (XS * 2 ^ 64 - (T + 1))
      have hlt : XS * 2 ^ 64 - (T + 1) < 2 ^ 128 := by rw [n64, n128]; omega
      have hr5 := r5 (by rw [n128]; omega)
      exact csum_T_D way xn xe XS ye YS _ _ _ _ _ _ _ true ho (by omega) xi0 xi1 e0 e1 f0 f1 hlow
        (fun w => wplus_any _ _ 0 1 _ _ t2 t3 (by omega) (by omega) t4 (by omega) r2 hr5 r3 r4 (by omega) w)
        (fun w => wminus_any XS 0 _ _ _ _ xi0 (by omega) r2 r3 (by omega) (by omega) hr5 r4 s2 s3 s4 (by omega) w)
        (two_zero _ (by rw [n64]; omega)) (fun w => narrow_any way xn xe _ _ (XS * 2 ^ 64 - (T + 1)) true hlt e0 e1 rfl rfl w) w

/-- The lesser one, laid lower, is no more than the greater one. -/
theorem low_le (XS YS N : Nat) (x0 : 2 ^ 62 ≤ XS) (y1 : YS < 2 ^ 63) (h : N = 0 → YS ≤ XS) : Flt.lowT YS N + Flt.upM (Flt.lowM YS N) ≤ XS * 2 ^ 64 := by
  have n62 : (2 : Nat) ^ 62 = 4611686018427387904 := by decide
  have n63 : (2 : Nat) ^ 63 = 9223372036854775808 := by decide
  have n64 : (2 : Nat) ^ 64 = 18446744073709551616 := by decide
  cases hm : Flt.lowM YS N
  · have hu : Flt.upM false = 0 := rfl
    rw [hu, Nat.add_zero]
    unfold Flt.lowT
    rcases Nat.eq_zero_or_pos N with hN | hN
    · rw [hN, Nat.pow_zero, Nat.div_one]
      exact Nat.mul_le_mul_right _ (h hN)
    · refine Nat.div_le_of_le_mul ?_
      have h1 : 2 ^ 1 ≤ 2 ^ N := Nat.pow_le_pow_right (by decide) hN
      have h2 : 2 ^ 1 * (XS * 2 ^ 64) ≤ 2 ^ N * (XS * 2 ^ 64) := Nat.mul_le_mul_right _ h1
      rw [n64] at h2 ⊢
      omega
  · have hu : Flt.upM true = 1 := rfl
    have := lowM_far YS N y1 hm
    rw [hu, n64]
    omega

theorem csum_any (way : Int) (xn yn : Bool) (xe ye : Int) (XS YS : Nat) (x0 : 2 ^ 62 ≤ XS) (x1 : XS < 2 ^ 63) (y0 : 2 ^ 62 ≤ YS) (y1 : YS < 2 ^ 63)
    (e0 : -1000 ≤ xe) (e1 : xe ≤ 1000) (f0 : -1000 ≤ ye) (f1 : ye ≤ 1000) (w : World) :
    Calls Try.prog 40 #[.int .i64 way, .agg #[.bool xn, .int .i64 xe, .int .u64 (XS : Int)], .agg #[.bool yn, .int .i64 ye, .int .u64 (YS : Int)]] w
      fun e w' => e = .returned (.int .u32 (Flt.sumV way xn xe XS yn ye YS)) ∧ Below w.heap.size w w' := by
  unfold Flt.sumV
  by_cases h1 : xe < ye
  · rw [if_pos (.inl h1)]
    exact csumW_C way yn xn ye xe YS XS h1 y0 y1 x0 x1 f0 f1 e0 e1 (low_le YS XS _ y0 x1 (by omega)) w
  · by_cases h2 : xe = ye ∧ XS < YS
    · rw [if_pos (.inr h2)]
      exact csumW_D way yn xn ye xe YS XS h2.1 h2.2 y0 y1 x0 x1 f0 f1 e0 e1 (low_le YS XS _ y0 x1 (by omega)) w
    · rw [if_neg (by omega)]
      by_cases h3 : xe = ye
      · exact csumW_B way xn yn xe ye XS YS h3 (by omega) x0 x1 y0 y1 e0 e1 f0 f1 (low_le XS YS _ x0 y1 (by omega)) w
      · exact csumW_A way xn yn xe ye XS YS (by omega) x0 x1 y0 y1 e0 e1 f0 f1 (low_le XS YS _ x0 y1 (by omega)) w
end Go.Proofs.Ytkbniebahledmaa
