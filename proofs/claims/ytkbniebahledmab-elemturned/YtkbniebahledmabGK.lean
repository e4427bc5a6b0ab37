import Derived.Test.YtkbniebahledmabGJ

/-
  Layer 3: what its functions come to, and the walks of the code: Exp, Log, Sin, Cos.
-/
namespace Go.Proofs.Ytkbniebahledmab
open Go.RowKit
set_option linter.unusedVariables false

/-! What each function comes to, out of layers 1 and 2. -/
def heldV (lo hi y : Int) : Int := Flt.maxF lo (Flt.minF hi y)
def withV (x y : Int) : Int := if Flt.sgn x = true then Flt.negF y else y
def expK (x : Int) : Int := Flt.wholeC 0 (Flt.mulBy 0 x 0x3FB8AA3B)
def expR (x : Int) : Int := Flt.fmaC 0 (expK x) 0x395E8083 (Flt.fmaC 0 (expK x) 0xBF318000 x)
def expP (x : Int) : Int := rowV (expR x) 0x3AB60B61 [0x3C088889, 0x3D2AAAAB, 0x3E2AAAAB, 0x3F000000, 0x3F800000, 0x3F800000]
def expV (x : Int) : Int :=
  if Flt.isNaN x = true then 0x7FC00000 else if Flt.lessF 0x42B17217 x = true then 0x7F800000 else if Flt.lessF x 0xC2D00000 = true then 0
  else scaleC (expP x) (Flt.toIntV (expK x))
def fieldV (x : Int) : Int := x / 8388608 % 256
def apX (x : Int) : Int := if fieldV x = 0 then scaleC x 24 else x
def apE0 (x : Int) : Int := (if fieldV x = 0 then -24 else 0) + (fieldV (apX x) - 126)
def apM0 (x : Int) : Int := apX x % 8388608 + 1056964608
def apM (x : Int) : Int := if Flt.lessF (apM0 x) 0x3F3504F3 = true then Flt.addBy 0 (apM0 x) (apM0 x) else apM0 x
def apE (x : Int) : Int := if Flt.lessF (apM0 x) 0x3F3504F3 = true then apE0 x - 1 else apE0 x
def logF (m : Int) : Int := Flt.addBy 0 m (Flt.negF 0x3F800000)
def logS (m : Int) : Int := Flt.divBy 0 (logF m) (Flt.addBy 0 (logF m) 0x40000000)
def logL (m : Int) : Int := Flt.mulBy 0 (logS m) (rowV (Flt.mulBy 0 (logS m) (logS m)) 0x3E638E39 [0x3E924925, 0x3ECCCCCD, 0x3F2AAAAB, 0x40000000])
def logM (m e : Int) : Int := Flt.fmaC 0 (fromI e) 0x3F318000 (Flt.fmaC 0 (fromI e) 0xB95E8083 (logL m))
def logV (x : Int) : Int :=
  if Flt.isNaN x = true ∨ Flt.lessF x 0 = true then 0x7FC00000 else if Flt.absF x = 0 then 0xFF800000 else if Flt.isInf x = true then x
  else logM (apM x) (apE x)
def cirK (x : Int) : Int := Flt.wholeC 0 (Flt.mulBy 0 x 0x3F22F983)
def cirR (x : Int) : Int := Flt.fmaC 0 (cirK x) 0xB3A22169 (Flt.fmaC 0 (cirK x) 0xB9FDA000 (Flt.fmaC 0 (cirK x) 0xBFC90000 x))
def cirS (r : Int) : Int := Flt.fmaC 0 (Flt.mulBy 0 r (Flt.mulBy 0 r r)) (rowV (Flt.mulBy 0 r r) 0xB9500D01 [0x3C088889, 0xBE2AAAAB]) r
def cirC (r : Int) : Int := rowV (Flt.mulBy 0 r r) 0xBAB60B61 [0x3D2AAAAB, 0xBF000000, 0x3F800000]
def cirY (s c q : Int) : Int := if q = 1 then c else if q = 2 then Flt.negF s else if q = 3 then Flt.negF c else s
def cirV (x ahead : Int) : Int :=
  if Flt.isNaN x = true ∨ Flt.isInf x = true then 0x7FC00000
  else heldV 0xBF800000 0x3F800000 (cirY (cirS (cirR x)) (cirC (cirR x)) ((Flt.toIntV (cirK x) % 4 + ahead) % 4))
def tanhT (a : Int) : Int := Flt.addBy 0 0x3F800000 (Flt.negF (Flt.divBy 0 0x40000000 (Flt.addBy 0 (expV (Flt.mulBy 0 0x40000000 a)) 0x3F800000)))
def tanhV (x : Int) : Int :=
  if Flt.isNaN x = true then 0x7FC00000 else if Flt.lessF (Flt.absF x) 0x39800000 = true then x else withV x (heldV 0 0x3F800000 (tanhT (Flt.absF x)))
def erfT (a : Int) : Int := Flt.divBy 0 0x3F800000 (Flt.fmaC 0 0x3EA7BA05 a 0x3F800000)
def erfP (a : Int) : Int := Flt.mulBy 0 (erfT a) (rowV (erfT a) 0x3F87DC22 [0xBFBA00E3, 0x3FB5F0E3, 0xBE91A98E, 0x3E827906])
def erfR (a : Int) : Int := Flt.fmaC 0 (Flt.negF (erfP a)) (expV (Flt.negF (Flt.mulBy 0 a a))) 0x3F800000
def erfV (x : Int) : Int :=
  if Flt.isNaN x = true then 0x7FC00000 else if Flt.absF x = 0 then x else if Flt.lessF 0x40800000 (Flt.absF x) = true then withV x 0x3F800000
  else withV x (heldV 0 0x3F800000 (erfR (Flt.absF x)))
def sigV (x : Int) : Int := if Flt.isNaN x = true then 0x7FC00000 else heldV 0 0x3F800000 (Flt.divBy 0 0x3F800000 (Flt.addBy 0 0x3F800000 (expV (Flt.negF x))))
def plusV (x : Int) : Int := if Flt.isNaN x = true then 0x7FC00000 else Flt.addBy 0 (Flt.maxF x 0) (logV (Flt.addBy 0 0x3F800000 (expV (Flt.negF (Flt.absF x)))))
def wholeB (b : Int) : Bool := Flt.equalF (Flt.wholeC 0 b) b
def finB (b : Int) : Bool := !Flt.isNaN b && !Flt.isInf b
def oddB (b : Int) : Bool := finB b && wholeB b && Flt.lessF (Flt.absF b) 0x4B800000 && (Flt.toIntV b % 2 == 1)
def powY (a b : Int) : Int := expV (Flt.mulBy 0 b (logV (Flt.absF a)))
def powV (a b : Int) : Int :=
  if Flt.absF b = 0 ∨ a = 0x3F800000 then 0x3F800000 else if Flt.isNaN a = true ∨ Flt.isNaN b = true then 0x7FC00000
  else if a = 0xBF800000 ∧ Flt.isInf b = true then 0x3F800000
  else if Flt.lessF a 0 = true ∧ finB b = true ∧ wholeB b = false then 0x7FC00000
  else if Flt.sgn a = true ∧ oddB b = true then Flt.negF (powY a b) else powY a b

theorem c_toInt (a : Int) (ha : R a) (w : World) :
    Calls Try.prog 38 #[.int .u32 a] w fun e w' => ∃ n, e = .returned (.int .i64 n) ∧ Hid (n = Flt.toIntV a) ∧ -9223372036854775808 ≤ n ∧ n < 9223372036854775808 ∧ Below w.heap.size w w' := by
  refine (ctoInt_any a ha.lo ha.hi w).mono ?_
  rintro e w1 ⟨rfl, hb1⟩
  exact ⟨_, rfl, hide rfl, (toInt_range a).1, (toInt_range a).2, hb1⟩
set_option maxRecDepth 100000 in
set_option maxHeartbeats 2000000 in
theorem c_exp (x : Int) (hx : R x) (w : World) :
    Calls Try.prog 16 #[.int .u32 x] w fun e w' => ∃ k, e = .returned (.int .u32 k) ∧ Hid (k = expV x) ∧ R k ∧ Below w.heap.size w w' := by
  cases hn : Flt.isNaN x
  · cases h1 : Flt.lessF 0x42B17217 x
    · cases h2 : Flt.lessF x 0xC2D00000
      · go_enter Try.func16, Try.ntmps16
        have hb := Below.refl w.heap.size w
        go_wp2_with (first | (go_at_call 22; refine (nan_any _ hx.lo hx.hi _).mono ?_; rintro e w1 ⟨rfl, rfl⟩) | (go_at_call 23; refine (less_any _ _ (by first | exact hx.lo | omega) (by first | exact hx.hi | omega) (by first | exact hx.lo | omega) (by first | exact hx.hi | omega) _).mono ?_; rintro e w1 ⟨rfl, rfl⟩))
        refine (c_mul x 0x3FB8AA3B hx ⟨by omega, by omega⟩ _).mono ?_
        rintro e w1 ⟨a, rfl, Ha, Ra, B1⟩
        replace hb := bl_tr hb B1
        clear B1
        go_wp2_with fail
        refine (c_even a Ra _).mono ?_
        rintro e w2 ⟨k, rfl, Hk, Rk, B2⟩
        replace hb := bl_tr hb B2
        clear B2
        go_wp2_with fail
        refine (c_fma k 0xBF318000 x Rk ⟨by omega, by omega⟩ hx _).mono ?_
        rintro e w3 ⟨b, rfl, Hb, Rb, B3⟩
        replace hb := bl_tr hb B3
        clear B3
        go_wp2_with fail
        refine (c_fma k 0x395E8083 b Rk ⟨by omega, by omega⟩ Rb _).mono ?_
        rintro e w4 ⟨r, rfl, Hr, Rr, B4⟩
        replace hb := bl_tr hb B4
        clear B4
        go_wp2_with fail
        refine (c_row r 0x3AB60B61 Rr ⟨by omega, by omega⟩ _ 0 6 [0x3C088889, 0x3D2AAAAB, 0x3E2AAAAB, 0x3F000000, 0x3F800000, 0x3F800000] (by intro c h; simp at h; (repeat' (rcases h with rfl | h)) <;> first | exact ⟨by omega, by omega⟩ | (subst h; exact ⟨by omega, by omega⟩)) (by decide) 6 rfl (by decide) _ (by simp) ⟨by simp, by simp, by simp, by simp, by simp, by simp, trivial⟩).mono ?_
        rintro e w5 ⟨p, rfl, Hp, Rp, B5⟩
        replace hb := bl_tr (bl_tr hb ((Below.refl _ _).alloc (Nat.le_refl _) _)) B5
        clear B5
        go_wp2_with fail
        refine (c_toInt k Rk _).mono ?_
        rintro e w6 ⟨n, rfl, Hn, lon, hin, B6⟩
        replace hb := bl_tr hb B6
        clear B6
        go_wp2_with fail
        refine (c_scale p n Rp _).mono ?_
        rintro e w7 ⟨s, rfl, Hs, Rs, B7⟩
        replace hb := bl_tr hb B7
        clear B7
        go_wp2_with fail
        go_ret
        refine ⟨_, rfl, hide ?_, Rs, hb⟩
        rw [unhide Hs, unhide Hn, unhide Hp, unhide Hr, unhide Hb, unhide Hk, unhide Ha]
        unfold expV expP expR expK
        rw [hn, h1, h2, if_neg (by decide), if_neg (by decide), if_neg (by decide)]
      · go_enter Try.func16, Try.ntmps16
        go_wp2_with (first | (go_at_call 22; refine (nan_any _ hx.lo hx.hi _).mono ?_; rintro e w1 ⟨rfl, rfl⟩) | (go_at_call 23; refine (less_any _ _ (by first | exact hx.lo | omega) (by first | exact hx.hi | omega) (by first | exact hx.lo | omega) (by first | exact hx.hi | omega) _).mono ?_; rintro e w1 ⟨rfl, rfl⟩))
        go_ret
        exact ⟨_, rfl, hide (by unfold expV; rw [hn, h1, h2]; rfl), ⟨by omega, by omega⟩, Below.refl _ _⟩
    · go_enter Try.func16, Try.ntmps16
      go_wp2_with (first | (go_at_call 22; refine (nan_any _ hx.lo hx.hi _).mono ?_; rintro e w1 ⟨rfl, rfl⟩) | (go_at_call 23; refine (less_any _ _ (by first | exact hx.lo | omega) (by first | exact hx.hi | omega) (by first | exact hx.lo | omega) (by first | exact hx.hi | omega) _).mono ?_; rintro e w1 ⟨rfl, rfl⟩))
      go_ret
      exact ⟨_, rfl, hide (by unfold expV; rw [hn, h1]; rfl), ⟨by omega, by omega⟩, Below.refl _ _⟩
  · go_enter Try.func16, Try.ntmps16
    go_wp2_with (first | (go_at_call 22; refine (nan_any _ hx.lo hx.hi _).mono ?_; rintro e w1 ⟨rfl, rfl⟩) | (go_at_call 23; refine (less_any _ _ (by first | exact hx.lo | omega) (by first | exact hx.hi | omega) (by first | exact hx.lo | omega) (by first | exact hx.hi | omega) _).mono ?_; rintro e w1 ⟨rfl, rfl⟩))
    go_ret
    exact ⟨_, rfl, hide (by unfold expV; rw [hn]; rfl), ⟨by omega, by omega⟩, Below.refl _ _⟩


theorem nat_bit31 (x : Nat) (h : x < 4294967296) : x.testBit 31 = decide (2147483648 ≤ x) := by
  rw [Nat.testBit_eq_decide_div_mod_eq, Bool.eq_iff_iff]
  simp; omega
theorem nat_and31 (N : Nat) : N &&& 2147483648 = if N.testBit 31 = true then 2147483648 else 0 := by
  have e : (2147483648 : Nat) = 2 ^ 31 := by decide
  apply Nat.eq_of_testBit_eq
  intro i
  rw [Nat.testBit_and, e, Nat.testBit_two_pow]
  by_cases hi : 31 = i
  · subst hi
    cases h : N.testBit 31
    · simp
    · rw [if_pos rfl, Nat.testBit_two_pow]; simp
  · cases h : N.testBit 31
    · simp [hi]
    · rw [if_pos rfl, Nat.testBit_two_pow]; simp [hi]
theorem and_sign (x : Int) (h0 : 0 ≤ x) (h1 : x < 4294967296) : bits .and .u32 x 2147483648 = Flt.signBit (Flt.sgn x) := by
  have e : bits .and .u32 x 2147483648 = ((x.toNat &&& 2147483648 : Nat) : Int) := by
    go_bits2
  rw [e, nat_and31, nat_bit31 _ (by omega)]
  have ea : decide (2147483648 ≤ x.toNat) = Flt.sgn x := by unfold Flt.sgn; rw [Bool.eq_iff_iff]; simp; omega
  rw [ea]
  cases Flt.sgn x <;> rfl
theorem and3_i64 (n : Int) : bits .and .i64 n 3 = n % 4 := by
  have h1 : (BitVec.ofInt 64 3).toNat = 2 ^ 2 - 1 := by decide
  have key : (BitVec.ofInt 64 n &&& BitVec.ofInt 64 3).toNat = (n % ((2 ^ 64 : Nat) : Int)).toNat % 2 ^ 2 := by
    rw [BitVec.toNat_and, BitVec.toNat_ofInt, h1, Nat.and_two_pow_sub_one_eq_mod]
  show IntKind.i64.wrap ((BitVec.ofInt 64 n &&& BitVec.ofInt 64 3).toNat : Nat) = n % 4
  rw [key, IntKind.wrap_i64]
  omega
theorem nat_mask (x : Nat) (h : x < 2147483648) : x &&& (4294967295 - 2139095040) = x % 8388608 := by
  apply Nat.eq_of_testBit_eq
  intro i
  rw [Nat.testBit_and, show (8388608 : Nat) = 2 ^ 23 by decide, Nat.testBit_mod_two_pow]
  by_cases hi : i < 31
  · have : ∀ j : Fin 31, (4294967295 - 2139095040).testBit j.1 = decide (j.1 < 23) := by decide
    rw [this ⟨i, hi⟩, Bool.and_comm]
  · rw [Nat.testBit_lt_two_pow (show x < 2 ^ i from Nat.lt_of_lt_of_le h (by
      have := Nat.pow_le_pow_right (show 0 < 2 by decide) (show 31 ≤ i by omega)
      have e : (2 : Nat) ^ 31 = 2147483648 := by decide
      omega))]
    simp
theorem ap_not (x : Int) (h0 : 0 ≤ x) (h1 : x < 2147483648) : bits .andNot .u32 x 2139095040 = x % 8388608 := by
  have key : (BitVec.ofInt 32 x &&& ~~~ BitVec.ofInt 32 2139095040).toNat = x.toNat % 8388608 := by
    rw [BitVec.toNat_and, BitVec.toNat_ofInt, show (~~~ BitVec.ofInt 32 2139095040).toNat = 4294967295 - 2139095040 by decide, ← nat_mask _ (by omega)]
    congr 1; omega
  show IntKind.u32.wrap ((BitVec.ofInt 32 x &&& ~~~ BitVec.ofInt 32 2139095040).toNat : Nat) = x % 8388608
  rw [key, IntKind.wrap_u32]
  omega
theorem ap_or (t : Int) (h0 : 0 ≤ t) (h1 : t < 8388608) : bits .or .u32 t 1056964608 = t + 1056964608 := by
  have key : (BitVec.ofInt 32 t ||| BitVec.ofInt 32 1056964608).toNat = t.toNat + 1056964608 := by
    rw [BitVec.toNat_or, BitVec.toNat_ofInt, show (BitVec.ofInt 32 1056964608).toNat = 2 ^ 23 * 126 by decide, Nat.or_comm, ← Nat.two_pow_add_eq_or_of_lt (by omega)]
    omega
  show IntKind.u32.wrap ((BitVec.ofInt 32 t ||| BitVec.ofInt 32 1056964608).toNat : Nat) = t + 1056964608
  rw [key, IntKind.wrap_u32]
  omega
theorem field_range (x : Int) : 0 ≤ fieldV x ∧ fieldV x ≤ 255 := by unfold fieldV; omega
theorem rnd_signed (way : Int) (neg : Bool) (exp : Int) (s : Nat) (h1 : s < 18446744073709551616) : ∃ r : Nat, Flt.rnd way neg exp (s : Int) false = Flt.signBit neg + (r : Int) ∧ r ≤ 2139095040 := by
  rcases Nat.eq_zero_or_pos s with hz | h0
  · subst hz
    exact ⟨0, by simp [Flt.rnd], by omega⟩
  · rw [rnd_clamp]
    obtain ⟨E, hE⟩ : ∃ E : Int, (if exp < -1000 then -1000 else if 1000 < exp then 1000 else exp) = E := ⟨_, rfl⟩
    have hr : -1000 ≤ E ∧ E ≤ 1000 := by rw [← hE]; (repeat' split) <;> omega
    rw [hE]
    rcases Int.lt_or_le (E + 149) 0 with g | g
    · obtain ⟨r, r1, r2⟩ := Flt.rnd_RN way neg E s false s (2 ^ (-(E + 149)).toNat) (-(E + 149)).toNat 0 h0 h1 hr.1 hr.2 (Nat.two_pow_pos _) (by omega) (.inl ⟨rfl, by simp⟩)
      exact ⟨r, r1, Flt.RN_le r2⟩
    · obtain ⟨r, r1, r2⟩ := Flt.rnd_RN way neg E s false (s * 2 ^ (E + 149).toNat) 1 0 (E + 149).toNat h0 h1 hr.1 hr.2 (by omega) (by omega) (.inl ⟨rfl, by simp⟩)
      exact ⟨r, r1, Flt.RN_le r2⟩
theorem scale_pos (x k : Int) (h0 : 0 ≤ x) (h1 : x < 2147483648) : scaleC x k < 2147483648 := by
  have hs : Flt.sgn x = false := by unfold Flt.sgn; simp; omega
  unfold scaleC
  split
  · unfold Flt.canon; split <;> omega
  · obtain ⟨s0, s1⟩ := Flt.sig_range x
    obtain ⟨s, es⟩ : ∃ s : Nat, Flt.sig x = (s : Int) := ⟨(Flt.sig x).toNat, by omega⟩
    obtain ⟨r, e, hr⟩ := rnd_signed 0 (Flt.sgn x) (Flt.expo x + clampK k) s (by omega)
    rw [es, e, hs]; simp [Flt.signBit]; omega
theorem apX_range {x : Int} (hx : R x) (h1 : x < 2147483648) : R (apX x) ∧ apX x < 2147483648 := by
  unfold apX
  split
  · exact ⟨R_good (scale_good hx 24), scale_pos x 24 hx.lo h1⟩
  · exact ⟨hx, h1⟩
theorem apE_range (x : Int) : -1000 ≤ apE x ∧ apE x ≤ 1000 := by
  have := field_range (apX x)
  unfold apE apE0
  (repeat' split) <;> omega

set_option maxRecDepth 100000 in
set_option maxHeartbeats 1000000 in
theorem c_nought (x : Int) (hx : R x) (w : World) :
    Calls Try.prog 31 #[.int .u32 x] w fun e w' => e = .returned (.bool (Flt.absF x == 0)) ∧ w' = w := by
  go_enter Try.func31, Try.ntmps31
  go_wp2_with (first | (go_at_call 21; refine (abs_any _ hx.lo hx.hi _).mono ?_; rintro e w1 ⟨rfl, rfl⟩))
  go_ret
  exact ⟨rfl, rfl⟩

set_option maxRecDepth 100000 in
set_option maxHeartbeats 1000000 in
theorem c_below (x : Int) (hx : R x) (w : World) :
    Calls Try.prog 45 #[.int .u32 x] w fun e w' => e = .returned (.bool (Flt.sgn x)) ∧ w' = w := by
  have ha := and_sign x hx.lo hx.hi
  cases hs : Flt.sgn x
  · have ha' : bits .and .u32 x 2147483648 = 0 := by rw [ha, hs]; rfl
    clear ha
    go_enter Try.func45, Try.ntmps45
    go_wp2
    go_ret
    exact ⟨rfl, rfl⟩
  · have ha' : bits .and .u32 x 2147483648 = 2147483648 := by rw [ha, hs]; rfl
    clear ha
    go_enter Try.func45, Try.ntmps45
    go_wp2
    go_ret
    exact ⟨rfl, rfl⟩

set_option maxRecDepth 100000 in
set_option maxHeartbeats 1000000 in
theorem c_finite (x : Int) (hx : R x) (w : World) :
    Calls Try.prog 43 #[.int .u32 x] w fun e w' => e = .returned (.bool (finB x)) ∧ w' = w := by
  unfold finB
  cases hn : Flt.isNaN x <;> cases hi : Flt.isInf x
  · go_enter Try.func43, Try.ntmps43
    go_wp2_with (first | (go_at_call 22; refine (nan_any _ hx.lo hx.hi _).mono ?_; rintro e w1 ⟨rfl, rfl⟩) | (go_at_call 39; refine (inf_any _ hx.lo hx.hi _).mono ?_; rintro e w1 ⟨rfl, rfl⟩))
    go_ret
    exact ⟨rfl, rfl⟩
  · go_enter Try.func43, Try.ntmps43
    go_wp2_with (first | (go_at_call 22; refine (nan_any _ hx.lo hx.hi _).mono ?_; rintro e w1 ⟨rfl, rfl⟩) | (go_at_call 39; refine (inf_any _ hx.lo hx.hi _).mono ?_; rintro e w1 ⟨rfl, rfl⟩))
    go_ret
    exact ⟨rfl, rfl⟩
  · go_enter Try.func43, Try.ntmps43
    go_wp2_with (first | (go_at_call 22; refine (nan_any _ hx.lo hx.hi _).mono ?_; rintro e w1 ⟨rfl, rfl⟩) | (go_at_call 39; refine (inf_any _ hx.lo hx.hi _).mono ?_; rintro e w1 ⟨rfl, rfl⟩))
    go_ret
    exact ⟨rfl, rfl⟩
  · go_enter Try.func43, Try.ntmps43
    go_wp2_with (first | (go_at_call 22; refine (nan_any _ hx.lo hx.hi _).mono ?_; rintro e w1 ⟨rfl, rfl⟩) | (go_at_call 39; refine (inf_any _ hx.lo hx.hi _).mono ?_; rintro e w1 ⟨rfl, rfl⟩))
    go_ret
    exact ⟨rfl, rfl⟩

set_option maxRecDepth 100000 in
set_option maxHeartbeats 1000000 in
theorem c_field (x : Int) (hx : R x) (w : World) :
    Calls Try.prog 60 #[.int .u32 x] w fun e w' => e = .returned (.int .u32 (fieldV x)) ∧ w' = w := by
  obtain ⟨h0, h1⟩ := hx
  have ha := Flt.and8 (x / 8388608) (by omega) (by omega)
  go_enter Try.func60, Try.ntmps60
  go_wp2
  go_ret
  exact ⟨ret_int rfl, rfl⟩

set_option maxRecDepth 100000 in
set_option maxHeartbeats 2000000 in
theorem c_with (x y : Int) (hx : R x) (hy : R y) (w : World) :
    Calls Try.prog 28 #[.int .u32 x, .int .u32 y] w fun e w' => ∃ k, e = .returned (.int .u32 k) ∧ Hid (k = withV x y) ∧ R k ∧ Below w.heap.size w w' := by
  cases hs : Flt.sgn x
  · go_enter Try.func28, Try.ntmps28
    go_wp2_with (first | (go_at_call 45; refine (c_below _ hx _).mono ?_; rintro e w1 ⟨rfl, rfl⟩))
    go_ret
    exact ⟨_, rfl, hide (by unfold withV; rw [hs]; rfl), hy, Below.refl _ _⟩
  · go_enter Try.func28, Try.ntmps28
    have hb := Below.refl w.heap.size w
    go_wp2_with (first | (go_at_call 45; refine (c_below _ hx _).mono ?_; rintro e w1 ⟨rfl, rfl⟩))
    refine (c_neg y hy _).mono ?_
    rintro e w1 ⟨k, rfl, Hk, Rk, B1⟩
    replace hb := bl_tr hb B1
    clear B1
    go_wp2_with fail
    go_ret
    refine ⟨_, rfl, hide ?_, Rk, hb⟩
    rw [unhide Hk]
    unfold withV
    rw [hs]
    rfl

set_option maxRecDepth 100000 in
set_option maxHeartbeats 2000000 in
theorem c_held (lo hi y : Int) (hl : R lo) (hh : R hi) (hy : R y) (w : World) :
    Calls Try.prog 29 #[.int .u32 lo, .int .u32 hi, .int .u32 y] w fun e w' => ∃ k, e = .returned (.int .u32 k) ∧ Hid (k = heldV lo hi y) ∧ R k ∧ Below w.heap.size w w' := by
  go_enter Try.func29, Try.ntmps29
  have hb := Below.refl w.heap.size w
  go_wp2_with fail
  refine (c_min hi y hh hy _).mono ?_
  rintro e w1 ⟨a, rfl, Ha, Ra, B1⟩
  replace hb := bl_tr hb B1
  clear B1
  go_wp2_with fail
  refine (c_max lo a hl Ra _).mono ?_
  rintro e w2 ⟨k, rfl, Hk, Rk, B2⟩
  replace hb := bl_tr hb B2
  clear B2
  go_wp2_with fail
  go_ret
  refine ⟨_, rfl, hide ?_, Rk, hb⟩
  rw [unhide Hk, unhide Ha]
  unfold heldV
  rfl

set_option maxRecDepth 100000 in
set_option maxHeartbeats 2000000 in
theorem c_apart (x : Int) (hx : R x) (hp : x < 2147483648) (w : World) :
    Calls Try.prog 40 #[.int .u32 x] w fun e w' => ∃ m E, e = .returned (.tuple #[.int .u32 m, .int .i64 E]) ∧ Hid (m = apM x) ∧ Hid (E = apE x) ∧ R m ∧ -1000 ≤ E ∧ E ≤ 1000 ∧ Below w.heap.size w w' := by
  obtain ⟨ra, pa⟩ := apX_range hx hp
  obtain ⟨X, hX⟩ : ∃ X, apX x = X := ⟨_, rfl⟩
  have hM : apM0 x = X % 8388608 + 1056964608 := by unfold apM0; rw [hX]
  rw [hX] at ra pa
  have q1 := ap_not X ra.lo pa
  have q2 := ap_or (X % 8388608) (by omega) (by omega)
  have rM : R (X % 8388608 + 1056964608) := ⟨by omega, by omega⟩
  obtain ⟨f0, f1⟩ := field_range X
  have hEE : apE x = (if Flt.lessF (X % 8388608 + 1056964608) 0x3F3504F3 = true then (if fieldV x = 0 then -24 else 0) + (fieldV X - 126) - 1 else (if fieldV x = 0 then -24 else 0) + (fieldV X - 126)) := by
    unfold apE apE0; rw [hM, hX]
  have hMM : apM x = (if Flt.lessF (X % 8388608 + 1056964608) 0x3F3504F3 = true then Flt.addBy 0 (X % 8388608 + 1056964608) (X % 8388608 + 1056964608) else X % 8388608 + 1056964608) := by
    unfold apM; rw [hM]
  generalize X % 8388608 + 1056964608 = M at q2 rM hEE hMM
  generalize X % 8388608 = T at q1 q2
  have HE := hide hEE
  have HM := hide hMM
  clear hEE hMM hM
  by_cases hf : fieldV x = 0
  · have hfb : (fieldV x == 0) = true := by simp [hf]
    have HX : Hid (scaleC x 24 = X) := hide (by rw [← hX]; unfold apX; rw [if_pos hf])
    have HFZ := hide hf
    clear hf hX
    cases hl : Flt.lessF M 0x3F3504F3
    · go_enter Try.func40, Try.ntmps40
      have hb := Below.refl w.heap.size w
      go_wp2_with (first | (go_at_call 60; refine (c_field _ (by assumption) _).mono ?_; rintro e w1 ⟨rfl, rfl⟩))
      refine (c_scale x 24 hx _).mono ?_
      rintro e v1 ⟨k, rfl, hk, rk, B1⟩
      have ek : k = X := (unhide hk).trans (unhide HX)
      subst ek
      replace hb := bl_tr hb B1
      clear B1 hk HX
      generalize hFX : fieldV k = FX at f0 f1 HE
      have hfx : ∀ w, Calls Try.prog 60 #[.int .u32 k] w fun e w' => e = .returned (.int .u32 FX) ∧ w' = w := fun w => by rw [← hFX]; exact c_field k rk w
      clear hFX
      go_wp2_with (first | (go_at_call 60; refine (hfx _).mono ?_; rintro e w1 ⟨rfl, rfl⟩) | (go_at_call 23; refine (less_any _ _ rM.lo rM.hi (by omega) (by omega) _).mono ?_; rintro e w1 ⟨rfl, rfl⟩))
      go_ret2
      refine ⟨_, _, rfl, hide ?_, hide ?_, rM, by omega, by omega, hb⟩
      · rw [unhide HM, hl]; simp
      · rw [unhide HE, hl, if_pos (unhide HFZ)]; simp
    · go_enter Try.func40, Try.ntmps40
      have hb := Below.refl w.heap.size w
      go_wp2_with (first | (go_at_call 60; refine (c_field _ (by assumption) _).mono ?_; rintro e w1 ⟨rfl, rfl⟩))
      refine (c_scale x 24 hx _).mono ?_
      rintro e v1 ⟨k, rfl, hk, rk, B1⟩
      have ek : k = X := (unhide hk).trans (unhide HX)
      subst ek
      replace hb := bl_tr hb B1
      clear B1 hk HX
      generalize hFX : fieldV k = FX at f0 f1 HE
      have hfx : ∀ w, Calls Try.prog 60 #[.int .u32 k] w fun e w' => e = .returned (.int .u32 FX) ∧ w' = w := fun w => by rw [← hFX]; exact c_field k rk w
      clear hFX
      go_wp2_with (first | (go_at_call 60; refine (hfx _).mono ?_; rintro e w1 ⟨rfl, rfl⟩) | (go_at_call 23; refine (less_any _ _ rM.lo rM.hi (by omega) (by omega) _).mono ?_; rintro e w1 ⟨rfl, rfl⟩))
      refine (c_add M M rM rM _).mono ?_
      rintro e v2 ⟨s, rfl, hs, rs, B2⟩
      replace hb := bl_tr hb B2
      clear B2
      go_wp2_with fail
      go_ret2
      refine ⟨_, _, rfl, hide ?_, hide ?_, rs, by omega, by omega, hb⟩
      · rw [unhide HM, hl, unhide hs]; simp
      · rw [unhide HE, hl, if_pos (unhide HFZ)]; simp
  · have hfb : (fieldV x == 0) = false := by simp [hf]
    have HX : x = X := by rw [← hX]; unfold apX; rw [if_neg hf]
    have HFZ := hide hf
    subst HX
    clear hX hf
    cases hl : Flt.lessF M 0x3F3504F3
    · generalize hFX : fieldV x = FX at f0 f1 HE hfb HFZ
      have hfx : ∀ w, Calls Try.prog 60 #[.int .u32 x] w fun e w' => e = .returned (.int .u32 FX) ∧ w' = w := fun w => by rw [← hFX]; exact c_field x hx w
      clear hFX
      go_enter Try.func40, Try.ntmps40
      have hb := Below.refl w.heap.size w
      go_wp2_with (first | (go_at_call 60; refine (hfx _).mono ?_; rintro e w1 ⟨rfl, rfl⟩) | (go_at_call 23; refine (less_any _ _ rM.lo rM.hi (by omega) (by omega) _).mono ?_; rintro e w1 ⟨rfl, rfl⟩))
      go_ret2
      refine ⟨_, _, rfl, hide ?_, hide ?_, rM, by omega, by omega, hb⟩
      · rw [unhide HM, hl]; simp
      · rw [unhide HE, hl, if_neg (unhide HFZ)]; simp
    · generalize hFX : fieldV x = FX at f0 f1 HE hfb HFZ
      have hfx : ∀ w, Calls Try.prog 60 #[.int .u32 x] w fun e w' => e = .returned (.int .u32 FX) ∧ w' = w := fun w => by rw [← hFX]; exact c_field x hx w
      clear hFX
      go_enter Try.func40, Try.ntmps40
      have hb := Below.refl w.heap.size w
      go_wp2_with (first | (go_at_call 60; refine (hfx _).mono ?_; rintro e w1 ⟨rfl, rfl⟩) | (go_at_call 23; refine (less_any _ _ rM.lo rM.hi (by omega) (by omega) _).mono ?_; rintro e w1 ⟨rfl, rfl⟩))
      refine (c_add M M rM rM _).mono ?_
      rintro e v2 ⟨s, rfl, hs, rs, B2⟩
      replace hb := bl_tr hb B2
      clear B2
      go_wp2_with fail
      go_ret2
      refine ⟨_, _, rfl, hide ?_, hide ?_, rs, by omega, by omega, hb⟩
      · rw [unhide HM, hl, unhide hs]; simp
      · rw [unhide HE, hl, if_neg (unhide HFZ)]; simp

set_option maxRecDepth 100000 in
set_option maxHeartbeats 2000000 in
theorem c_log (x : Int) (hx : R x) (w : World) :
    Calls Try.prog 17 #[.int .u32 x] w fun e w' => ∃ k, e = .returned (.int .u32 k) ∧ Hid (k = logV x) ∧ R k ∧ Below w.heap.size w w' := by
  cases hn : Flt.isNaN x
  · cases hl : Flt.lessF x 0
    · by_cases hz : Flt.absF x = 0
      · have hzb : (Flt.absF x == 0) = true := by simp [hz]
        go_enter Try.func17, Try.ntmps17
        go_wp2_with (first | (go_at_call 22; refine (nan_any _ hx.lo hx.hi _).mono ?_; rintro e w1 ⟨rfl, rfl⟩) | (go_at_call 23; refine (less_any _ _ hx.lo hx.hi (by omega) (by omega) _).mono ?_; rintro e w1 ⟨rfl, rfl⟩) | (go_at_call 31; refine (c_nought _ hx _).mono ?_; rintro e w1 ⟨rfl, rfl⟩) | (go_at_call 39; refine (inf_any _ hx.lo hx.hi _).mono ?_; rintro e w1 ⟨rfl, rfl⟩))
        go_ret
        exact ⟨_, rfl, hide (by unfold logV; rw [hn, hl, if_neg (by decide), if_pos hz]), ⟨by omega, by omega⟩, Below.refl _ _⟩
      · have hzb : (Flt.absF x == 0) = false := by simp [hz]
        cases hi : Flt.isInf x
        · skip
          have hp : x < 2147483648 := by
            unfold Flt.lessF at hl
            rw [hn, show Flt.isNaN 0 = false by decide] at hl
            simp only [Bool.not_false, Bool.true_and, decide_eq_false_iff_not] at hl
            have h0 := hx.lo
            rw [show Flt.place 0 = 0 by decide] at hl
            unfold Flt.place at hl; unfold Flt.absF at hz
            split at hl <;> omega
          go_enter Try.func17, Try.ntmps17
          have hb := Below.refl w.heap.size w
          go_wp2_with (first | (go_at_call 22; refine (nan_any _ hx.lo hx.hi _).mono ?_; rintro e w1 ⟨rfl, rfl⟩) | (go_at_call 23; refine (less_any _ _ hx.lo hx.hi (by omega) (by omega) _).mono ?_; rintro e w1 ⟨rfl, rfl⟩) | (go_at_call 31; refine (c_nought _ hx _).mono ?_; rintro e w1 ⟨rfl, rfl⟩) | (go_at_call 39; refine (inf_any _ hx.lo hx.hi _).mono ?_; rintro e w1 ⟨rfl, rfl⟩))
          refine (c_apart x hx hp _).mono ?_
          rintro e v0 ⟨m, E, rfl, Hm, HE, Rm, E0, E1, B0⟩
          replace hb := bl_tr hb B0
          clear B0
          go_wp2_with fail
          refine (c_sub m 0x3F800000 Rm ⟨by omega, by omega⟩ _).mono ?_
          rintro e w1 ⟨f, rfl, Hf, Rf, B1⟩
          replace hb := bl_tr hb B1
          clear B1
          go_wp2_with fail
          refine (c_add f 0x40000000 Rf ⟨by omega, by omega⟩ _).mono ?_
          rintro e w2 ⟨g, rfl, Hg, Rg, B2⟩
          replace hb := bl_tr hb B2
          clear B2
          go_wp2_with fail
          refine (c_div f g Rf Rg _).mono ?_
          rintro e w3 ⟨s, rfl, Hs, Rs, B3⟩
          replace hb := bl_tr hb B3
          clear B3
          go_wp2_with fail
          refine (c_mul s s Rs Rs _).mono ?_
          rintro e w4 ⟨z, rfl, Hz, Rz, B4⟩
          replace hb := bl_tr hb B4
          clear B4
          go_wp2_with fail
          refine (c_row z 0x3E638E39 Rz ⟨by omega, by omega⟩ _ 0 4 [0x3E924925, 0x3ECCCCCD, 0x3F2AAAAB, 0x40000000] (by intro c h; simp at h; (repeat' (rcases h with rfl | h)) <;> first | exact ⟨by omega, by omega⟩ | (subst h; exact ⟨by omega, by omega⟩)) (by decide) 4 rfl (by decide) _ (by simp) ⟨by simp, by simp, by simp, by simp, trivial⟩).mono ?_
          rintro e w5 ⟨p, rfl, Hp, Rp, B5⟩
          replace hb := bl_tr (bl_tr hb ((Below.refl _ _).alloc (Nat.le_refl _) _)) B5
          clear B5
          go_wp2_with fail
          refine (c_mul s p Rs Rp _).mono ?_
          rintro e w6 ⟨l, rfl, Hl, Rl, B6⟩
          replace hb := bl_tr hb B6
          clear B6
          go_wp2_with fail
          refine (c_fromInt E (by omega) (by omega) _).mono ?_
          rintro e w7 ⟨k, rfl, Hk, Rk, B7⟩
          replace hb := bl_tr hb B7
          clear B7
          go_wp2_with fail
          refine (c_fma k 0xB95E8083 l Rk ⟨by omega, by omega⟩ Rl _).mono ?_
          rintro e w8 ⟨u, rfl, Hu, Ru, B8⟩
          replace hb := bl_tr hb B8
          clear B8
          go_wp2_with fail
          refine (c_fma k 0x3F318000 u Rk ⟨by omega, by omega⟩ Ru _).mono ?_
          rintro e w9 ⟨r, rfl, Hr, Rr, B9⟩
          replace hb := bl_tr hb B9
          clear B9
          go_wp2_with fail
          go_ret
          refine ⟨_, rfl, hide ?_, Rr, hb⟩
          rw [unhide Hr, unhide Hu, unhide Hk, unhide Hl, unhide Hp, unhide Hz, unhide Hs, unhide Hg, unhide Hf, unhide Hm, unhide HE]
          unfold logV logM logL logS logF
          rw [hn, hl, if_neg (by decide), if_neg hz, hi, if_neg (by decide)]
        · go_enter Try.func17, Try.ntmps17
          go_wp2_with (first | (go_at_call 22; refine (nan_any _ hx.lo hx.hi _).mono ?_; rintro e w1 ⟨rfl, rfl⟩) | (go_at_call 23; refine (less_any _ _ hx.lo hx.hi (by omega) (by omega) _).mono ?_; rintro e w1 ⟨rfl, rfl⟩) | (go_at_call 31; refine (c_nought _ hx _).mono ?_; rintro e w1 ⟨rfl, rfl⟩) | (go_at_call 39; refine (inf_any _ hx.lo hx.hi _).mono ?_; rintro e w1 ⟨rfl, rfl⟩))
          go_ret
          exact ⟨_, rfl, hide (by unfold logV; rw [hn, hl, if_neg (by decide), if_neg hz, hi]; rfl), hx, Below.refl _ _⟩
    · go_enter Try.func17, Try.ntmps17
      go_wp2_with (first | (go_at_call 22; refine (nan_any _ hx.lo hx.hi _).mono ?_; rintro e w1 ⟨rfl, rfl⟩) | (go_at_call 23; refine (less_any _ _ hx.lo hx.hi (by omega) (by omega) _).mono ?_; rintro e w1 ⟨rfl, rfl⟩) | (go_at_call 31; refine (c_nought _ hx _).mono ?_; rintro e w1 ⟨rfl, rfl⟩) | (go_at_call 39; refine (inf_any _ hx.lo hx.hi _).mono ?_; rintro e w1 ⟨rfl, rfl⟩))
      go_ret
      exact ⟨_, rfl, hide (by unfold logV; rw [hn, hl]; rfl), ⟨by omega, by omega⟩, Below.refl _ _⟩
  · go_enter Try.func17, Try.ntmps17
    go_wp2_with (first | (go_at_call 22; refine (nan_any _ hx.lo hx.hi _).mono ?_; rintro e w1 ⟨rfl, rfl⟩) | (go_at_call 23; refine (less_any _ _ hx.lo hx.hi (by omega) (by omega) _).mono ?_; rintro e w1 ⟨rfl, rfl⟩) | (go_at_call 31; refine (c_nought _ hx _).mono ?_; rintro e w1 ⟨rfl, rfl⟩) | (go_at_call 39; refine (inf_any _ hx.lo hx.hi _).mono ?_; rintro e w1 ⟨rfl, rfl⟩))
    go_ret
    exact ⟨_, rfl, hide (by unfold logV; rw [hn, if_pos (.inl rfl)]), ⟨by omega, by omega⟩, Below.refl _ _⟩

set_option maxRecDepth 100000 in
set_option maxHeartbeats 2000000 in
theorem c_within (r : Int) (hr : R r) (w : World) :
    Calls Try.prog 53 #[.int .u32 r] w fun e w' => ∃ s c, e = .returned (.tuple #[.int .u32 s, .int .u32 c]) ∧ Hid (s = cirS r) ∧ Hid (c = cirC r) ∧ R s ∧ R c ∧ Below w.heap.size w w' := by
  go_enter Try.func53, Try.ntmps53
  have hb := Below.refl w.heap.size w
  go_wp2_with fail
  refine (c_mul r r hr hr _).mono ?_
  rintro e w1 ⟨z, rfl, Hz, Rz, B1⟩
  replace hb := bl_tr hb B1
  clear B1
  go_wp2_with fail
  refine (c_mul r z hr Rz _).mono ?_
  rintro e w2 ⟨t, rfl, Ht, Rt, B2⟩
  replace hb := bl_tr hb B2
  clear B2
  go_wp2_with fail
  refine (c_row z 0xB9500D01 Rz ⟨by omega, by omega⟩ _ 0 2 [0x3C088889, 0xBE2AAAAB] (by intro c h; simp at h; (repeat' (rcases h with rfl | h)) <;> first | exact ⟨by omega, by omega⟩ | (subst h; exact ⟨by omega, by omega⟩)) (by decide) 2 rfl (by decide) _ (by simp) ⟨by simp, by simp, trivial⟩).mono ?_
  rintro e w3 ⟨p, rfl, Hp, Rp, B3⟩
  replace hb := bl_tr (bl_tr hb ((Below.refl _ _).alloc (Nat.le_refl _) _)) B3
  clear B3
  go_wp2_with fail
  refine (c_fma t p r Rt Rp hr _).mono ?_
  rintro e w4 ⟨s, rfl, Hs, Rs, B4⟩
  replace hb := bl_tr hb B4
  clear B4
  go_wp2_with fail
  refine (c_row z 0xBAB60B61 Rz ⟨by omega, by omega⟩ _ 0 3 [0x3D2AAAAB, 0xBF000000, 0x3F800000] (by intro c h; simp at h; (repeat' (rcases h with rfl | h)) <;> first | exact ⟨by omega, by omega⟩ | (subst h; exact ⟨by omega, by omega⟩)) (by decide) 3 rfl (by decide) _ (by simp) ⟨by simp, by simp, by simp, trivial⟩).mono ?_
  rintro e w5 ⟨c, rfl, Hc, Rc, B5⟩
  replace hb := bl_tr (bl_tr hb ((Below.refl _ _).alloc (Nat.le_refl _) _)) B5
  clear B5
  go_wp2_with fail
  go_ret2
  refine ⟨_, _, rfl, hide ?_, hide ?_, Rs, Rc, hb⟩
  · unfold cirS; rw [unhide Hs, unhide Hp, unhide Ht, unhide Hz]
  · unfold cirC; rw [unhide Hc, unhide Hz]

set_option maxRecDepth 100000 in
set_option maxHeartbeats 4000000 in
theorem c_circle (x ahead : Int) (hx : R x) (ha : ahead = 0 ∨ ahead = 1) (w : World) :
    Calls Try.prog 30 #[.int .u32 x, .int .i64 ahead] w fun e w' => ∃ k, e = .returned (.int .u32 k) ∧ Hid (k = cirV x ahead) ∧ R k ∧ Below w.heap.size w w' := by
  cases hn : finB x
  · go_enter Try.func30, Try.ntmps30
    go_wp2_with (first | (go_at_call 43; refine (c_finite _ hx _).mono ?_; rintro e w1 ⟨rfl, rfl⟩))
    go_ret
    refine ⟨_, rfl, hide ?_, ⟨by omega, by omega⟩, Below.refl _ _⟩
    unfold finB at hn
    unfold cirV
    rw [if_pos (by cases h1 : Flt.isNaN x <;> cases h2 : Flt.isInf x <;> simp_all)]
  · go_enter Try.func30, Try.ntmps30
    have hb := Below.refl w.heap.size w
    go_wp2_with (first | (go_at_call 43; refine (c_finite _ hx _).mono ?_; rintro e w1 ⟨rfl, rfl⟩))
    refine (c_mul x 0x3F22F983 hx ⟨by omega, by omega⟩ _).mono ?_
    rintro e w1 ⟨a, rfl, Ha, Ra, B1⟩
    replace hb := bl_tr hb B1
    clear B1
    go_wp2_with fail
    refine (c_even a Ra _).mono ?_
    rintro e w2 ⟨k, rfl, Hk, Rk, B2⟩
    replace hb := bl_tr hb B2
    clear B2
    go_wp2_with fail
    refine (c_fma k 0xBFC90000 x Rk ⟨by omega, by omega⟩ hx _).mono ?_
    rintro e w3 ⟨b, rfl, Hb, Rb, B3⟩
    replace hb := bl_tr hb B3
    clear B3
    go_wp2_with fail
    refine (c_fma k 0xB9FDA000 b Rk ⟨by omega, by omega⟩ Rb _).mono ?_
    rintro e w4 ⟨d, rfl, Hd, Rd, B4⟩
    replace hb := bl_tr hb B4
    clear B4
    go_wp2_with fail
    refine (c_fma k 0xB3A22169 d Rk ⟨by omega, by omega⟩ Rd _).mono ?_
    rintro e w5 ⟨r, rfl, Hr, Rr, B5⟩
    replace hb := bl_tr hb B5
    clear B5
    go_wp2_with fail
    refine (c_within r Rr _).mono ?_
    rintro e v0 ⟨s, c, rfl, Hs, Hc, Rs, Rc, B0⟩
    replace hb := bl_tr hb B0
    clear B0
    go_wp2_with fail
    refine (c_toInt k Rk _).mono ?_
    rintro e v00 ⟨n, rfl, Hn, lon, hin, B00⟩
    replace hb := bl_tr hb B00
    clear B00
    obtain ⟨q, hq⟩ : ∃ q, (n % 4 + ahead) % 4 = q := ⟨_, rfl⟩
    have e1 := and3_i64 n
    have e2 := and3_i64 (n % 4 + ahead)
    rw [hq] at e2
    have hqr : q = 0 ∨ q = 1 ∨ q = 2 ∨ q = 3 := by omega
    have n40 : 0 ≤ n % 4 := by omega
    have n41 : n % 4 < 4 := by omega
    have HQ := hide hq
    clear hq
    generalize hn4 : n % 4 = N4 at e1 e2 n40 n41 HQ
    have HN4 := hide hn4
    clear hn4
    have a0 : 0 ≤ ahead := by omega
    have a1 : ahead ≤ 1 := by omega
    have HA := hide ha
    clear ha
    rcases hqr with rfl | rfl | rfl | rfl
    · go_wp2_with fail
      refine (c_held 0xBF800000 0x3F800000 s ⟨by omega, by omega⟩ ⟨by omega, by omega⟩ Rs _).mono ?_
      rintro e w21 ⟨h, rfl, Hh, Rh, B21⟩
      replace hb := bl_tr hb B21
      clear B21
      go_wp2_with fail
      have hval : heldV 0xBF800000 0x3F800000 s = cirV x ahead := by
        unfold finB at hn
        unfold cirV
        rw [if_neg (by cases h1 : Flt.isNaN x <;> cases h2 : Flt.isInf x <;> simp_all)]
        have ek : k = cirK x := by unfold cirK; rw [unhide Hk, unhide Ha]
        have er : r = cirR x := by unfold cirR; rw [unhide Hr, unhide Hd, unhide Hb, ek]
        rw [← ek, ← unhide Hn, unhide HN4, unhide HQ, ← er, ← unhide Hs, ← unhide Hc]
        rfl
      go_ret
      refine ⟨_, rfl, hide ?_, Rh, hb⟩
      rw [unhide Hh, hval]
    · go_wp2_with fail
      refine (c_held 0xBF800000 0x3F800000 c ⟨by omega, by omega⟩ ⟨by omega, by omega⟩ Rc _).mono ?_
      rintro e w26 ⟨h, rfl, Hh, Rh, B26⟩
      replace hb := bl_tr hb B26
      clear B26
      go_wp2_with fail
      have hval : heldV 0xBF800000 0x3F800000 c = cirV x ahead := by
        unfold finB at hn
        unfold cirV
        rw [if_neg (by cases h1 : Flt.isNaN x <;> cases h2 : Flt.isInf x <;> simp_all)]
        have ek : k = cirK x := by unfold cirK; rw [unhide Hk, unhide Ha]
        have er : r = cirR x := by unfold cirR; rw [unhide Hr, unhide Hd, unhide Hb, ek]
        rw [← ek, ← unhide Hn, unhide HN4, unhide HQ, ← er, ← unhide Hs, ← unhide Hc]
        rfl
      go_ret
      refine ⟨_, rfl, hide ?_, Rh, hb⟩
      rw [unhide Hh, hval]
    · go_wp2_with fail
      refine (c_neg s Rs _).mono ?_
      rintro e w31 ⟨ns, rfl, Hns, Rns, B31⟩
      replace hb := bl_tr hb B31
      clear B31
      go_wp2_with fail
      refine (c_held 0xBF800000 0x3F800000 ns ⟨by omega, by omega⟩ ⟨by omega, by omega⟩ Rns _).mono ?_
      rintro e w32 ⟨h, rfl, Hh, Rh, B32⟩
      replace hb := bl_tr hb B32
      clear B32
      go_wp2_with fail
      have hval : heldV 0xBF800000 0x3F800000 (Flt.negF s) = cirV x ahead := by
        unfold finB at hn
        unfold cirV
        rw [if_neg (by cases h1 : Flt.isNaN x <;> cases h2 : Flt.isInf x <;> simp_all)]
        have ek : k = cirK x := by unfold cirK; rw [unhide Hk, unhide Ha]
        have er : r = cirR x := by unfold cirR; rw [unhide Hr, unhide Hd, unhide Hb, ek]
        rw [← ek, ← unhide Hn, unhide HN4, unhide HQ, ← er, ← unhide Hs, ← unhide Hc]
        rfl
      go_ret
      refine ⟨_, rfl, hide ?_, Rh, hb⟩
      rw [unhide Hh, unhide Hns, hval]
    · go_wp2_with fail
      refine (c_neg c Rc _).mono ?_
      rintro e w36 ⟨nc, rfl, Hnc, Rnc, B36⟩
      replace hb := bl_tr hb B36
      clear B36
      go_wp2_with fail
      refine (c_held 0xBF800000 0x3F800000 nc ⟨by omega, by omega⟩ ⟨by omega, by omega⟩ Rnc _).mono ?_
      rintro e w37 ⟨h, rfl, Hh, Rh, B37⟩
      replace hb := bl_tr hb B37
      clear B37
      go_wp2_with fail
      have hval : heldV 0xBF800000 0x3F800000 (Flt.negF c) = cirV x ahead := by
        unfold finB at hn
        unfold cirV
        rw [if_neg (by cases h1 : Flt.isNaN x <;> cases h2 : Flt.isInf x <;> simp_all)]
        have ek : k = cirK x := by unfold cirK; rw [unhide Hk, unhide Ha]
        have er : r = cirR x := by unfold cirR; rw [unhide Hr, unhide Hd, unhide Hb, ek]
        rw [← ek, ← unhide Hn, unhide HN4, unhide HQ, ← er, ← unhide Hs, ← unhide Hc]
        rfl
      go_ret
      refine ⟨_, rfl, hide ?_, Rh, hb⟩
      rw [unhide Hh, unhide Hnc, hval]

set_option maxRecDepth 100000 in
set_option maxHeartbeats 2000000 in
theorem c_sin (x : Int) (hx : R x) (w : World) :
    Calls Try.prog 9 #[.int .u32 x] w fun e w' => ∃ k, e = .returned (.int .u32 k) ∧ Hid (k = cirV x 0) ∧ R k ∧ Below w.heap.size w w' := by
  go_enter Try.func9, Try.ntmps9
  have hb := Below.refl w.heap.size w
  go_wp2_with fail
  refine (c_circle x 0 hx (by omega) _).mono ?_
  rintro e w1 ⟨k, rfl, Hk, Rk, B1⟩
  replace hb := bl_tr hb B1
  clear B1
  go_wp2_with fail
  go_ret
  exact ⟨_, rfl, Hk, Rk, hb⟩

set_option maxRecDepth 100000 in
set_option maxHeartbeats 2000000 in
theorem c_cos (x : Int) (hx : R x) (w : World) :
    Calls Try.prog 13 #[.int .u32 x] w fun e w' => ∃ k, e = .returned (.int .u32 k) ∧ Hid (k = cirV x 1) ∧ R k ∧ Below w.heap.size w w' := by
  go_enter Try.func13, Try.ntmps13
  have hb := Below.refl w.heap.size w
  go_wp2_with fail
  refine (c_circle x 1 hx (by omega) _).mono ?_
  rintro e w1 ⟨k, rfl, Hk, Rk, B1⟩
  replace hb := bl_tr hb B1
  clear B1
  go_wp2_with fail
  go_ret
  exact ⟨_, rfl, Hk, Rk, hb⟩

end Go.Proofs.Ytkbniebahledmab
