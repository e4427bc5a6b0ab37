import Derived.Test.YtkbniebahledmabGK

/-
  Layer 3: how great its numbers can be: bounds by powers of two, and where no 'no number' can come of it (P3.8).
-/
namespace Go.Proofs.Ytkbniebahledmab
open Go.RowKit
set_option linter.unusedVariables false

/-- At most 2^n in amount. -/
def Bd (x : Int) (n : Nat) : Prop := Flt.mg x ≤ (n + 127) * 8388608
theorem A_bits (n : Nat) : Flt.A ((n + 127) * 8388608) = 2 ^ (n + 149) := by
  have := Flt.A_form (n + 126) 8388608 (by omega) (by omega)
  rw [show (n + 126) * 8388608 + 8388608 = (n + 127) * 8388608 by omega] at this
  rw [this, show (8388608 : Nat) = 2 ^ 23 by decide, ← Nat.pow_add]; congr 1; omega
theorem Bd.A {x : Int} {n : Nat} (h : Bd x n) : Flt.A (Flt.mg x) ≤ 2 ^ (n + 149) := by rw [← A_bits]; exact Flt.A_mono h
theorem Bd.fin {x : Int} {n : Nat} (h : Bd x n) (hn : n ≤ 127) : Flt.mg x < 2139095040 := by unfold Bd at h; omega
theorem Bd.nn {x : Int} {n : Nat} (h : Bd x n) (hn : n ≤ 127) : Flt.isNaN x = false := by rw [Flt.isNaN_not]; have := h.fin hn; omega
theorem Bd.mono {x : Int} {n m : Nat} (h : Bd x n) (hn : n ≤ m) : Bd x m := by
  unfold Bd at *
  exact Nat.le_trans h (Nat.mul_le_mul_right _ (by omega))
theorem Bd_neg {x : Int} {n : Nat} (h : Bd x n) : Bd (Flt.negF x) n := by unfold Bd at *; rw [Flt.mg_neg]; exact h
theorem Bd_signed (s : Bool) {r n : Nat} (h : r ≤ (n + 127) * 8388608) (hn : n ≤ 127) : Bd (Flt.signBit s + (r : Int)) n := by
  unfold Bd; rw [Flt.mg_signed _ _ (by omega)]; exact h
theorem Bd_signBit (s : Bool) (n : Nat) : Bd (Flt.signBit s) n := by
  unfold Bd; have := Flt.mg_signed s 0 (by omega); rw [show Flt.signBit s + ((0 : Nat) : Int) = Flt.signBit s by omega] at this; omega
theorem RN_bd {way : Int} {neg : Bool} {p q r n : Nat} (hq : 0 < q) (hn : n ≤ 127) (hp : p ≤ 2 ^ (n + 149) * q) (h : Flt.RN way neg p q r) : r ≤ (n + 127) * 8388608 := by
  rw [← A_bits] at hp
  exact Flt.RN_mono hq hp h (Flt.RN_self way neg q _ hq (by omega))
theorem RN_ge {way : Int} {neg : Bool} {p q r m : Nat} (hq : 0 < q) (hm : m < 2139095040) (hp : Flt.A m * q ≤ p) (h : Flt.RN way neg p q r) : m ≤ r :=
  Flt.RN_mono hq hp (Flt.RN_self way neg q m hq hm) h
theorem RN_up {way : Int} {neg : Bool} {p q r m : Nat} (hq : 0 < q) (hm : m < 2139095040) (hp : p ≤ Flt.A m * q) (h : Flt.RN way neg p q r) : r ≤ m :=
  Flt.RN_mono hq hp h (Flt.RN_self way neg q m hq hm)
theorem Bd_sumQ {way : Int} {xn yn : Bool} {X Y q n : Nat} {res : Int} (hq : 0 < q) (hn : n ≤ 127) (h : Flt.SumQ way xn yn X Y q res) (hb : X + Y ≤ 2 ^ (n + 149) * q) : Bd res n := by
  obtain ⟨h1, h2, h3, h4, h5⟩ := h
  by_cases hs : xn = yn
  · rcases Nat.eq_zero_or_pos (X + Y) with hz | hz
    · rw [h1 hs hz]; exact Bd_signBit _ _
    · obtain ⟨r, e, hr⟩ := h2 hs hz
      rw [e]; exact Bd_signed _ (RN_bd hq hn hb hr) hn
  · rcases Nat.lt_trichotomy X Y with g | g | g
    · obtain ⟨r, e, hr⟩ := h5 hs g
      rw [e]; exact Bd_signed _ (RN_bd hq hn (by omega) hr) hn
    · rw [h3 hs g]; exact Bd_signBit _ _
    · obtain ⟨r, e, hr⟩ := h4 hs g
      rw [e]; exact Bd_signed _ (RN_bd hq hn (by omega) hr) hn
theorem sumQ_of_spec {way : Int} {xn yn : Bool} {X Y : Nat} {res : Int} (h : Flt.SumSpec way xn yn X Y res) : Flt.SumQ way xn yn X Y 1 res := h
theorem sumQ_nn {way : Int} {xn yn : Bool} {X Y q : Nat} {res : Int} (h : Flt.SumQ way xn yn X Y q res) : Flt.isNaN res = false := by
  have sg : ∀ (s : Bool) (r : Nat), r ≤ 2139095040 → Flt.isNaN (Flt.signBit s + (r : Int)) = false := fun s r hr => by rw [Flt.isNaN_not, Flt.mg_signed _ _ (by omega)]; exact hr
  have sz : ∀ s : Bool, Flt.isNaN (Flt.signBit s) = false := fun s => by have := sg s 0 (by omega); simpa using this
  obtain ⟨h1, h2, h3, h4, h5⟩ := h
  by_cases hs : xn = yn
  · rcases Nat.eq_zero_or_pos (X + Y) with hz | hz
    · rw [h1 hs hz]; exact sz _
    · obtain ⟨r, e, hr⟩ := h2 hs hz
      rw [e]; exact sg _ _ (Flt.RN_le hr)
  · rcases Nat.lt_trichotomy X Y with g | g | g
    · obtain ⟨r, e, hr⟩ := h5 hs g
      rw [e]; exact sg _ _ (Flt.RN_le hr)
    · rw [h3 hs g]; exact sz _
    · obtain ⟨r, e, hr⟩ := h4 hs g
      rw [e]; exact sg _ _ (Flt.RN_le hr)
theorem pow_half (n m : Nat) (h : m + 1 ≤ n) : 2 ^ m + 2 ^ m ≤ 2 ^ n := by
  have := Nat.pow_le_pow_right (show 0 < 2 by decide) h
  rw [Nat.pow_succ] at this; omega
theorem pow_le2 {n m : Nat} (h : m ≤ n) : 2 ^ m ≤ 2 ^ n := Nat.pow_le_pow_right (show 0 < 2 by decide) h

theorem Bd_fma {a b c : Int} (ha : R a) (hb : R b) (hc : R c) {i j k n : Nat} (ba : Bd a i) (bb : Bd b j) (bc : Bd c k) (h1 : i + j + 1 ≤ n) (h2 : k + 1 ≤ n) (hn : n ≤ 127) : Bd (Flt.fmaC 0 a b c) n := by
  have h := Flt.fmaC_fin 0 a b c ha.lo hb.lo hc.lo hc.hi (ba.fin (by omega)) (bb.fin (by omega)) (bc.fin (by omega))
  refine Bd_sumQ (Nat.two_pow_pos 149) hn h ?_
  have x := Nat.mul_le_mul ba.A bb.A
  have y := Nat.mul_le_mul_right (2 ^ 149) bc.A
  rw [← Nat.pow_add] at x y
  have z := pow_half (n + 149 + 149) (n - 1 + 149 + 149) (by omega)
  have x2 := pow_le2 (show i + 149 + (j + 149) ≤ n - 1 + 149 + 149 by omega)
  have y2 := pow_le2 (show k + 149 + 149 ≤ n - 1 + 149 + 149 by omega)
  rw [← Nat.pow_add]; omega
theorem fma_nn {a b c : Int} (ha : R a) (hb : R b) (hc : R c) (fa : Flt.mg a < 2139095040) (fb : Flt.mg b < 2139095040) (fc : Flt.mg c < 2139095040) : Flt.isNaN (Flt.fmaC 0 a b c) = false :=
  sumQ_nn (Flt.fmaC_fin 0 a b c ha.lo hb.lo hc.lo hc.hi fa fb fc)
theorem Bd_mul {a b : Int} (ha : R a) (hb : R b) {i j n : Nat} (ba : Bd a i) (bb : Bd b j) (h1 : i + j ≤ n) (hn : n ≤ 127) : Bd (Flt.mulBy 0 a b) n := by
  obtain ⟨r, e, hr⟩ := Flt.mulBy_fin 0 a b ha.lo hb.lo (ba.fin (by omega)) (bb.fin (by omega))
  rw [e]
  refine Bd_signed _ (RN_bd (Nat.two_pow_pos 149) hn ?_ hr) hn
  have x := Nat.mul_le_mul ba.A bb.A
  rw [← Nat.pow_add] at x ⊢
  have x2 := pow_le2 (show i + 149 + (j + 149) ≤ n + 149 + 149 by omega)
  omega
theorem Bd_add {a b : Int} (ha : R a) (hb : R b) {i j n : Nat} (ba : Bd a i) (bb : Bd b j) (h1 : i + 1 ≤ n) (h2 : j + 1 ≤ n) (hn : n ≤ 127) : Bd (Flt.addBy 0 a b) n := by
  have h := sumQ_of_spec (Flt.addBy_fin 0 a b ha.lo hb.lo (ba.fin (by omega)) (bb.fin (by omega)))
  refine Bd_sumQ (by omega) hn h ?_
  have x := ba.A
  have y := bb.A
  have z := pow_half (n + 149) (n - 1 + 149) (by omega)
  have x2 := pow_le2 (show i + 149 ≤ n - 1 + 149 by omega)
  have y2 := pow_le2 (show j + 149 ≤ n - 1 + 149 by omega)
  omega
theorem Bd_even {a : Int} (ha : R a) {i : Nat} (ba : Bd a i) (hn : i + 1 ≤ 127) : Bd (Flt.wholeC 0 a) (i + 1) := by
  obtain ⟨m, N, e, hm, hA, hN⟩ := Flt.wholeC_spec 0 a ha.lo ha.hi (ba.fin (by omega))
  rw [e]
  refine Bd_signed _ (Flt.le_of_A ?_) hn
  rw [A_bits, hA]
  have x := ba.A
  have hd := Nat.div_mul_le_self (Flt.A (Flt.mg a)) (2 ^ 149)
  have z := pow_half (i + 1 + 149) (i + 149) (by omega)
  have y := pow_le2 (show 149 ≤ i + 149 by omega)
  have hN2 : N ≤ Flt.A (Flt.mg a) / 2 ^ 149 + 1 := by rcases hN with ⟨_, h⟩ | ⟨_, h⟩ <;> omega
  exact Nat.le_trans (Nat.mul_le_mul_right _ hN2) (by rw [Nat.add_mul, Nat.one_mul]; exact Nat.le_trans (Nat.add_le_add (Nat.le_trans hd x) y) z)
theorem even_sgn {a : Int} (ha : R a) (fa : Flt.mg a < 2139095040) : Flt.sgn (Flt.wholeC 0 a) = Flt.sgn a := by
  obtain ⟨m, N, e, hm, _⟩ := Flt.wholeC_spec 0 a ha.lo ha.hi fa
  rw [e, Flt.sgn_signed _ _ (by omega)]
theorem mul_sgn {a b : Int} (ha : R a) (hb : R b) (fa : Flt.mg a < 2139095040) (fb : Flt.mg b < 2139095040) : Flt.sgn (Flt.mulBy 0 a b) = (Flt.sgn a != Flt.sgn b) := by
  obtain ⟨r, e, hr⟩ := Flt.mulBy_fin 0 a b ha.lo hb.lo fa fb
  have := Flt.RN_le hr
  rw [e, Flt.sgn_signed _ _ (by omega)]
theorem A_one2 : Flt.A 1065353216 = 2 ^ 149 := Flt.A_one
theorem Bd_div {a b : Int} (ha : R a) (hb : R b) {i : Nat} (ba : Bd a i) (hn : i ≤ 127) (fb : Flt.mg b < 2139095040) (gb : 1065353216 ≤ Flt.mg b) : Bd (Flt.divBy 0 a b) i := by
  by_cases hz : Flt.mg a = 0
  · have : Flt.divBy 0 a b = Flt.signBit (Flt.sgn a != Flt.sgn b) := by
      obtain ⟨n1, n2⟩ := (Flt.fin_iff a).2 (by omega)
      obtain ⟨n3, n4⟩ := (Flt.fin_iff b).2 fb
      unfold Flt.mg at hz gb fb
      unfold Flt.divBy
      rw [n1, n2, n3, n4, if_neg (by decide), if_neg (by rintro (⟨h, _⟩ | ⟨_, h⟩); cases h; omega), if_neg (by rintro (h | h); cases h; omega), if_pos (.inr (by omega))]
    rw [this]; exact Bd_signBit _ _
  · obtain ⟨r, e, hr⟩ := Flt.divBy_fin 0 a b ha.lo hb.lo (ba.fin hn) fb hz (by omega)
    rw [e]
    have g := Flt.A_mono gb
    rw [A_one2] at g
    refine Bd_signed _ (RN_bd (by have := Nat.two_pow_pos 149; omega) hn ?_ hr) hn
    exact Nat.mul_le_mul ba.A g
theorem nan_const : Flt.isNaN 2143289344 = true := by decide
theorem nn_add {a b : Int} (ha : R a) (hb : R b) (fa : Flt.mg a < 2139095040) (nb : Flt.isNaN b = false) : Flt.isNaN (Flt.addBy 0 a b) = false := by
  obtain ⟨n1, n2⟩ := (Flt.fin_iff a).2 fa
  cases hi : Flt.isInf b
  · exact sumQ_nn (sumQ_of_spec (Flt.addBy_fin 0 a b ha.lo hb.lo fa ((Flt.fin_iff b).1 ⟨nb, hi⟩)))
  · have : Flt.addBy 0 a b = b := by unfold Flt.addBy; rw [n1, n2, nb, hi]; rfl
    rw [this]; exact nb
theorem sig_nn (s : Bool) (r : Nat) (hr : r ≤ 2139095040) : Flt.isNaN (Flt.signBit s + (r : Int)) = false := by rw [Flt.isNaN_not, Flt.mg_signed _ _ (by omega)]; exact hr
theorem sig_nn2 (s : Bool) : Flt.isNaN (Flt.signBit s + 2139095040) = false := sig_nn s 2139095040 (by omega)
theorem nn_mul {a b : Int} (ha : R a) (hb : R b) (fa : Flt.mg a < 2139095040) (za : Flt.mg a ≠ 0) (nb : Flt.isNaN b = false) : Flt.isNaN (Flt.mulBy 0 a b) = false := by
  obtain ⟨n1, n2⟩ := (Flt.fin_iff a).2 fa
  cases hi : Flt.isInf b
  · exact Flt.mulBy_fin_nan 0 a b ha.lo hb.lo fa ((Flt.fin_iff b).1 ⟨nb, hi⟩)
  · have : Flt.mulBy 0 a b = Flt.signBit (Flt.sgn a != Flt.sgn b) + 2139095040 := by
      unfold Flt.mg at za
      unfold Flt.mulBy; rw [n1, n2, nb, hi, if_neg (by decide), if_neg (by rintro (⟨h, _⟩ | ⟨h, _⟩); cases h; omega), if_pos (.inr rfl)]
    rw [this]; exact sig_nn2 _
theorem nn_div {a b : Int} (ha : R a) (hb : R b) (fa : Flt.mg a < 2139095040) (za : Flt.mg a ≠ 0) (nb : Flt.isNaN b = false) : Flt.isNaN (Flt.divBy 0 a b) = false := by
  obtain ⟨n1, n2⟩ := (Flt.fin_iff a).2 fa
  by_cases hz : Flt.mg b = 0
  · have : Flt.divBy 0 a b = Flt.signBit (Flt.sgn a != Flt.sgn b) + 2139095040 := by
      unfold Flt.mg at za hz
      unfold Flt.divBy; rw [n1, n2, nb, if_neg (by decide), if_neg (by rintro (⟨h, _⟩ | ⟨h, _⟩); cases h; omega), if_pos (.inr (by omega))]
    rw [this]; exact sig_nn2 _
  · cases hi : Flt.isInf b
    · obtain ⟨r, e, hr⟩ := Flt.divBy_fin 0 a b ha.lo hb.lo fa ((Flt.fin_iff b).1 ⟨nb, hi⟩) za hz
      rw [e]; exact sig_nn _ _ (Flt.RN_le hr)
    · have : Flt.divBy 0 a b = Flt.signBit (Flt.sgn a != Flt.sgn b) := by
        unfold Flt.mg at za hz
        unfold Flt.divBy; rw [n1, n2, nb, hi, if_neg (by decide), if_neg (by rintro (⟨h, _⟩ | ⟨h, _⟩); cases h; omega), if_neg (by rintro (h | h); cases h; omega), if_pos (.inl rfl)]
      rw [this]; have := sig_nn (Flt.sgn a != Flt.sgn b) 0 (by omega); simpa using this
theorem nn_neg {a : Int} (h : Flt.isNaN a = false) : Flt.isNaN (Flt.negF a) = false := by rw [Flt.isNaN_not] at *; rw [Flt.mg_neg]; exact h
theorem nn_abs {a : Int} (h : Flt.isNaN a = false) : Flt.isNaN (Flt.absF a) = false := by
  rw [Flt.isNaN_not] at *
  have : Flt.mg (Flt.absF a) = Flt.mg a := by unfold Flt.mg Flt.absF; omega
  omega
theorem nn_scale {a : Int} (h : Flt.isNaN a = false) (k : Int) : Flt.isNaN (scaleC a k) = false := by
  unfold scaleC
  split
  · unfold Flt.canon; rw [h, if_neg (by decide)]; exact h
  · obtain ⟨s0, s1⟩ := Flt.sig_range a
    obtain ⟨s, es⟩ : ∃ s : Nat, Flt.sig a = (s : Int) := ⟨(Flt.sig a).toNat, by omega⟩
    obtain ⟨r, e, hr⟩ := rnd_signed 0 (Flt.sgn a) (Flt.expo a + clampK k) s (by omega)
    rw [es, e]; exact sig_nn _ _ hr
theorem add_nn' {a b : Int} (ha : R a) (hb : R b) (na : Flt.isNaN a = false) (fb : Flt.mg b < 2139095040) : Flt.isNaN (Flt.addBy 0 a b) = false := by
  rw [Flt.addBy_comm 0 a b ha.lo hb.lo]; exact nn_add hb ha fb na
theorem Rn (c : Int) (h0 : 0 ≤ c) (h1 : c < 4294967296) : R c := ⟨h0, h1⟩

/-! Exp -/
theorem exp_bd {x : Int} (hx : R x) (bx : Bd x 7) : Bd (expK x) 9 ∧ R (expK x) ∧ Bd (expP x) 72 ∧ R (expP x) := by
  have rk : R (expK x) := R_good (even_good (R_mul hx ⟨by omega, by omega⟩))
  have bk : Bd (expK x) 9 := Bd_even (R_mul hx ⟨by omega, by omega⟩) (Bd_mul hx ⟨by omega, by omega⟩ bx (show Bd 0x3FB8AA3B 1 by unfold Bd; decide) (by omega) (by omega)) (by omega)
  have ri : R (Flt.fmaC 0 (expK x) 0xBF318000 x) := R_fma rk ⟨by omega, by omega⟩ hx
  have bi : Bd (Flt.fmaC 0 (expK x) 0xBF318000 x) 10 := Bd_fma rk ⟨by omega, by omega⟩ hx bk (show Bd 0xBF318000 0 by unfold Bd; decide) bx (by omega) (by omega) (by omega)
  have rr : R (expR x) := R_fma rk ⟨by omega, by omega⟩ ri
  have br : Bd (expR x) 11 := Bd_fma rk ⟨by omega, by omega⟩ ri bk (show Bd 0x395E8083 0 by unfold Bd; decide) bi (by omega) (by omega) (by omega)
  refine ⟨bk, rk, ?_, ?_⟩
  · unfold expP rowV
    simp only [List.foldl]
    have step : ∀ (y c : Int) (i n : Nat), R y → R c → Bd y i → Bd c 0 → n = i + 12 → n ≤ 127 → R (Flt.fmaC 0 (expR x) y c) ∧ Bd (Flt.fmaC 0 (expR x) y c) n := fun y c i n hy hc by' bc e hn => ⟨R_fma rr hy hc, Bd_fma rr hy hc br by' bc (by omega) (by omega) hn⟩
    obtain ⟨r1, b1⟩ := step 0x3AB60B61 0x3C088889 0 12 ⟨by omega, by omega⟩ ⟨by omega, by omega⟩ (by unfold Bd; decide) (by unfold Bd; decide) rfl (by omega)
    obtain ⟨r2, b2⟩ := step _ 0x3D2AAAAB 12 24 r1 ⟨by omega, by omega⟩ b1 (by unfold Bd; decide) rfl (by omega)
    obtain ⟨r3, b3⟩ := step _ 0x3E2AAAAB 24 36 r2 ⟨by omega, by omega⟩ b2 (by unfold Bd; decide) rfl (by omega)
    obtain ⟨r4, b4⟩ := step _ 0x3F000000 36 48 r3 ⟨by omega, by omega⟩ b3 (by unfold Bd; decide) rfl (by omega)
    obtain ⟨r5, b5⟩ := step _ 0x3F800000 48 60 r4 ⟨by omega, by omega⟩ b4 (by unfold Bd; decide) rfl (by omega)
    exact (step _ 0x3F800000 60 72 r5 ⟨by omega, by omega⟩ b5 (by unfold Bd; decide) rfl (by omega)).2
  · unfold expP
    refine R_row rr _ ⟨by omega, by omega⟩ ?_
    intro c h; simp at h
    (repeat' (rcases h with rfl | h)) <;> first | exact ⟨by omega, by omega⟩ | (subst h; exact ⟨by omega, by omega⟩)
theorem place_const (c : Int) (h0 : 0 ≤ c) (h1 : c < 2147483648) : Flt.place c = c := by unfold Flt.place; rw [if_neg (by omega)]
theorem less_false {a b : Int} (na : Flt.isNaN a = false) (nb : Flt.isNaN b = false) (h : Flt.lessF a b = false) : Flt.place b ≤ Flt.place a := by
  unfold Flt.lessF at h
  rw [na, nb] at h
  simp at h; exact h
theorem less_true {a b : Int} (h : Flt.lessF a b = true) : Flt.isNaN a = false ∧ Flt.isNaN b = false ∧ Flt.place a < Flt.place b := by
  unfold Flt.lessF at h
  simp at h; exact ⟨h.1.1, h.1.2, h.2⟩
theorem exp_in {x : Int} (hx : R x) (hn : Flt.isNaN x = false) (h1 : Flt.lessF 0x42B17217 x = false) (h2 : Flt.lessF x 0xC2D00000 = false) : Bd x 7 := by
  have p1 := less_false (by decide) hn h1
  have p2 := less_false hn (by decide) h2
  rw [show Flt.place 0x42B17217 = 0x42B17217 by decide] at p1
  rw [show Flt.place 0xC2D00000 = -0x42D00000 by decide] at p2
  rw [Flt.place_eq_mg x hx.lo hx.hi] at p1 p2
  unfold Bd
  split at p1 <;> rename_i hs <;> simp only [hs] at p2 <;> simp at p2 <;> omega
theorem exp_good {x : Int} (hx : R x) : Flt.Good (expV x) := by
  unfold expV
  split
  · exact Flt.good_nan
  · rename_i hn
    have hn : Flt.isNaN x = false := by simpa using hn
    split
    · exact ⟨by omega, by omega, fun h => by revert h; decide⟩
    · rename_i h1
      split
      · exact ⟨by omega, by omega, fun h => by revert h; decide⟩
      · rename_i h2
        exact scale_good (exp_bd hx (exp_in hx hn (by simpa using h1) (by simpa using h2))).2.2.2 _
theorem exp_nn {x : Int} (hx : R x) (hn : Flt.isNaN x = false) : Flt.isNaN (expV x) = false := by
  unfold expV
  rw [hn, if_neg (by decide)]
  split
  · decide
  · rename_i h1
    split
    · decide
    · rename_i h2
      exact nn_scale ((exp_bd hx (exp_in hx hn (by simpa using h1) (by simpa using h2))).2.2.1.nn (by omega)) _

theorem scale_le {p : Int} (hp : R p) (fp : Flt.mg p < 2139095040) (k : Int) (k0 : -700 ≤ k) (k1 : k ≤ 0) : Flt.mg (scaleC p k) ≤ Flt.mg p := by
  obtain ⟨n1, n2⟩ := (Flt.fin_iff p).2 fp
  unfold scaleC
  rw [n1, n2, if_neg (by decide)]
  have hc : clampK k = k := by unfold clampK; rw [if_neg (by omega), if_neg (by omega)]
  rw [hc]
  obtain ⟨e, s, x1, x2, x3, x4, x5, x6, x7⟩ := Flt.amt p hp.lo fp
  rw [x1, x2]
  rcases Nat.eq_zero_or_pos s with hz | h0
  · subst hz
    have : Flt.rnd 0 (Flt.sgn p) ((e : Int) - 149 + k) ((0 : Nat) : Int) false = Flt.signBit (Flt.sgn p) + ((0 : Nat) : Int) := by simp [Flt.rnd]
    rw [this, Flt.mg_signed _ _ (by omega)]; exact Nat.zero_le _
  · obtain ⟨j, hj⟩ : ∃ j : Nat, (j : Int) = -k := ⟨(-k).toNat, by omega⟩
    obtain ⟨r, r1, r2⟩ := Flt.rnd_RN 0 (Flt.sgn p) ((e : Int) - 149 + k) s false (s * 2 ^ e) (2 ^ j) j e h0 (by omega) (by omega) (by omega) (Nat.two_pow_pos _) (by omega) (.inl ⟨rfl, by rw [Nat.mul_right_comm]⟩)
    have hr := Flt.RN_le r2
    rw [r1, Flt.mg_signed _ _ (by omega)]
    refine RN_up (Nat.two_pow_pos j) fp ?_ r2
    rw [x6]; exact Nat.le_mul_of_pos_right _ (Nat.two_pow_pos j)
theorem toInt_bd {a : Int} {n : Nat} (h : Bd a n) (hn : n ≤ 60) : (Flt.toIntV a).natAbs ≤ 2 ^ n ∧ (Flt.sgn a = true → Flt.toIntV a ≤ 0) ∧ (Flt.sgn a = false → 0 ≤ Flt.toIntV a) := by
  have hf := h.fin (by omega)
  have hnn := h.nn (by omega)
  have hd : Flt.A (Flt.mg a) / 2 ^ 149 ≤ 2 ^ n := by
    have := h.A
    rw [Nat.pow_add] at this
    exact Nat.div_le_of_le_mul (by rw [Nat.mul_comm]; exact this)
  unfold Bd at h
  unfold Flt.toIntV
  rw [hnn, if_neg (by decide), if_neg (by omega)]
  generalize Flt.A (Flt.mg a) / 2 ^ 149 = D at hd ⊢
  cases hs : Flt.sgn a
  · rw [if_neg (by decide)]
    exact ⟨by omega, fun h => (by cases h), fun _ => by omega⟩
  · rw [if_pos rfl]
    exact ⟨by omega, fun _ => by omega, fun h => (by cases h)⟩
/-- Of what is not above 0 Exp stays finite. -/
theorem exp_low {y : Int} (hy : R y) (sy : Flt.sgn y = true) (byy : Bd y 4) : Bd (expV y) 72 := by
  have hn := byy.nn (by omega)
  obtain ⟨bk, rk, bp, rp⟩ := exp_bd hy (byy.mono (by omega))
  have l1 : Flt.lessF 0x42B17217 y = false := by
    unfold Flt.lessF
    rw [show Flt.place 0x42B17217 = 0x42B17217 by decide, Flt.place_eq_mg y hy.lo hy.hi, sy, if_pos rfl, show decide ((0x42B17217 : Int) < -((Flt.mg y : Nat) : Int)) = false by rw [decide_eq_false_iff_not]; omega, Bool.and_false]
  have l2 : Flt.lessF y 0xC2D00000 = false := by
    unfold Flt.lessF
    rw [show Flt.place 0xC2D00000 = -0x42D00000 by decide, Flt.place_eq_mg y hy.lo hy.hi, sy]
    unfold Bd at byy
    simp; intro _ _; omega
  unfold expV
  rw [hn, l1, l2, if_neg (by decide), if_neg (by decide), if_neg (by decide)]
  have hsk : Flt.sgn (expK y) = true := by
    unfold expK
    rw [even_sgn (R_mul hy ⟨by omega, by omega⟩) ((Bd_mul (n := 5) hy ⟨by omega, by omega⟩ byy (show Bd 0x3FB8AA3B 1 by unfold Bd; decide) (by omega) (by omega)).fin (by omega)), mul_sgn hy ⟨by omega, by omega⟩ (byy.fin (by omega)) (by decide), sy]
    decide
  obtain ⟨t1, t2, _⟩ := toInt_bd bk (by omega)
  have t3 := t2 hsk
  have e : (2 : Nat) ^ 9 = 512 := by decide
  have := scale_le rp (bp.fin (by omega)) (Flt.toIntV (expK y)) (by omega) t3
  unfold Bd at *
  omega

/-! Held -/
def Btw (lo hi v : Int) : Prop := v = 2143289344 ∨ (Flt.isNaN v = false ∧ Flt.place lo ≤ Flt.place v ∧ Flt.place v ≤ Flt.place hi)
theorem min_place {a b : Int} (na : Flt.isNaN a = false) (nb : Flt.isNaN b = false) : Flt.isNaN (Flt.minF a b) = false ∧ (Flt.place (Flt.minF a b) ≤ Flt.place a) ∧ (Flt.place (Flt.minF a b) = Flt.place a ∨ Flt.place (Flt.minF a b) = Flt.place b) ∧ Flt.place (Flt.minF a b) ≤ Flt.place b := by
  unfold Flt.minF
  rw [na, nb, if_neg (by decide)]
  split
  · exact ⟨na, by omega, .inl rfl, by omega⟩
  · split
    · exact ⟨nb, by omega, .inr rfl, by omega⟩
    · split
      · exact ⟨na, by omega, .inl rfl, by omega⟩
      · exact ⟨nb, by omega, .inr rfl, by omega⟩
theorem max_place {a b : Int} (na : Flt.isNaN a = false) (nb : Flt.isNaN b = false) : Flt.isNaN (Flt.maxF a b) = false ∧ (Flt.place a ≤ Flt.place (Flt.maxF a b)) ∧ (Flt.place (Flt.maxF a b) = Flt.place a ∨ Flt.place (Flt.maxF a b) = Flt.place b) ∧ Flt.place b ≤ Flt.place (Flt.maxF a b) := by
  unfold Flt.maxF
  rw [na, nb, if_neg (by decide)]
  split
  · exact ⟨nb, by omega, .inr rfl, by omega⟩
  · split
    · exact ⟨na, by omega, .inl rfl, by omega⟩
    · split
      · exact ⟨nb, by omega, .inr rfl, by omega⟩
      · exact ⟨na, by omega, .inl rfl, by omega⟩
theorem held_nan {lo hi y : Int} (h : Flt.isNaN y = true) : heldV lo hi y = 2143289344 := by
  unfold heldV
  have : Flt.minF hi y = 2143289344 := by unfold Flt.minF; rw [if_pos (.inr h)]
  rw [this]; unfold Flt.maxF; rw [if_pos (.inr nan_const)]
theorem held_nn {lo hi y : Int} (nl : Flt.isNaN lo = false) (nh : Flt.isNaN hi = false) (hlh : Flt.place lo ≤ Flt.place hi) (ny : Flt.isNaN y = false) :
    Flt.isNaN (heldV lo hi y) = false ∧ Flt.place lo ≤ Flt.place (heldV lo hi y) ∧ Flt.place (heldV lo hi y) ≤ Flt.place hi := by
  obtain ⟨a1, a2, a3, a4⟩ := min_place nh ny
  obtain ⟨b1, b2, b3, b4⟩ := max_place nl a1
  exact ⟨b1, b2, by unfold heldV; omega⟩
theorem held_btw {lo hi y : Int} (nl : Flt.isNaN lo = false) (nh : Flt.isNaN hi = false) (hlh : Flt.place lo ≤ Flt.place hi) : Btw lo hi (heldV lo hi y) := by
  cases ny : Flt.isNaN y
  · exact .inr (held_nn nl nh hlh ny)
  · exact .inl (held_nan ny)
theorem place_neg {a : Int} (ha : R a) : Flt.place (Flt.negF a) = -Flt.place a := by
  have r := R_neg a
  rw [Flt.place_eq_mg _ r.lo r.hi, Flt.place_eq_mg a ha.lo ha.hi, Flt.mg_neg, Flt.sgn_neg a ha.lo ha.hi]
  cases Flt.sgn a <;> simp
theorem R_held {lo hi y : Int} (hl : R lo) (hh : R hi) (hy : R y) : R (heldV lo hi y) := R_max hl (R_min hh hy)
theorem R_with {x y : Int} (hy : R y) : R (withV x y) := by unfold withV; split; exact R_neg y; exact hy
theorem with_btw {x y : Int} (hy : R y) (ny : Flt.isNaN y = false) (h0 : 0 ≤ Flt.place y) (h1 : Flt.place y ≤ 1065353216) : Btw 0xBF800000 0x3F800000 (withV x y) := by
  right
  rw [show Flt.place 0xBF800000 = -1065353216 by decide, show Flt.place 0x3F800000 = 1065353216 by decide]
  unfold withV
  split
  · rw [place_neg hy]; exact ⟨nn_neg ny, by omega, by omega⟩
  · exact ⟨ny, by omega, by omega⟩

/-! Tanh and Erf -/
theorem two_fin : Flt.mg 0x40000000 < 2139095040 ∧ Flt.mg 0x40000000 ≠ 0 := by decide
theorem one_fin : Flt.mg 0x3F800000 < 2139095040 ∧ Flt.mg 0x3F800000 ≠ 0 := by decide
theorem tanhT_nn {a : Int} (ha : R a) (na : Flt.isNaN a = false) : R (tanhT a) ∧ Flt.isNaN (tanhT a) = false := by
  have r2 : R 0x40000000 := ⟨by omega, by omega⟩
  have r1 : R 0x3F800000 := ⟨by omega, by omega⟩
  have m := R_mul r2 ha
  have nm := nn_mul r2 ha two_fin.1 two_fin.2 na
  have e := R_good (exp_good m)
  have ne := exp_nn m nm
  have s := R_add e r1
  have ns := add_nn' e r1 ne one_fin.1
  have d := R_div r2 s
  have nd := nn_div r2 s two_fin.1 two_fin.2 ns
  exact ⟨R_add r1 (R_neg _), nn_add r1 (R_neg _) one_fin.1 (nn_neg nd)⟩
theorem tanh_btw {x : Int} (hx : R x) : Btw 0xBF800000 0x3F800000 (tanhV x) := by
  unfold tanhV
  split
  · exact .inl rfl
  · rename_i hn
    have hn : Flt.isNaN x = false := by simpa using hn
    split
    · rename_i hl
      obtain ⟨_, _, h⟩ := less_true hl
      right
      rw [show Flt.place 0xBF800000 = -1065353216 by decide, show Flt.place 0x3F800000 = 1065353216 by decide]
      have ra := R_abs x
      have pa : Flt.place (Flt.absF x) = (Flt.mg x : Int) := by unfold Flt.absF Flt.mg Flt.place; rw [if_neg (by omega)]; omega
      rw [pa, show Flt.place 0x39800000 = 0x39800000 by decide] at h
      rw [Flt.place_eq_mg x hx.lo hx.hi]
      refine ⟨hn, ?_, ?_⟩ <;> split <;> omega
    · obtain ⟨rt, nt⟩ := tanhT_nn (R_abs x) (nn_abs hn)
      obtain ⟨h1, h2, h3⟩ := held_nn (lo := 0) (hi := 0x3F800000) (by decide) (by decide) (by decide) nt
      exact with_btw (R_held ⟨by omega, by omega⟩ ⟨by omega, by omega⟩ rt) h1 h2 h3
theorem erfT_bd {a : Int} (ha : R a) (sa : Flt.sgn a = false) (ba : Bd a 2) : R (erfT a) ∧ Bd (erfT a) 0 := by
  have rc : R 0x3EA7BA05 := ⟨by omega, by omega⟩
  have r1 : R 0x3F800000 := ⟨by omega, by omega⟩
  have ru := R_fma rc ha r1
  have bu : Bd (Flt.fmaC 0 0x3EA7BA05 a 0x3F800000) 3 := Bd_fma rc ha r1 (show Bd 0x3EA7BA05 0 by unfold Bd; decide) ba (show Bd 0x3F800000 0 by unfold Bd; decide) (by omega) (by omega) (by omega)
  have gu : 1065353216 ≤ Flt.mg (Flt.fmaC 0 0x3EA7BA05 a 0x3F800000) := by
    have h := Flt.fmaC_fin 0 0x3EA7BA05 a 0x3F800000 rc.lo ha.lo r1.lo r1.hi (by decide) (ba.fin (by omega)) (by decide)
    rw [sa, show Flt.sgn 0x3EA7BA05 = false by decide, show Flt.sgn 0x3F800000 = false by decide, show Flt.mg 0x3F800000 = 1065353216 by decide] at h
    obtain ⟨_, h2, _⟩ := h
    have hp : 0 < Flt.A 1065353216 * 2 ^ 149 := by rw [A_one2]; exact Nat.mul_pos (Nat.two_pow_pos _) (Nat.two_pow_pos _)
    obtain ⟨r, e, hr⟩ := h2 rfl (Nat.lt_of_lt_of_le hp (Nat.le_add_left _ _))
    have hle := Flt.RN_le hr
    rw [e, Flt.mg_signed _ _ (by omega)]
    exact RN_ge (Nat.two_pow_pos 149) (by omega) (Nat.le_add_left _ _) hr
  exact ⟨R_div r1 ru, Bd_div r1 ru (show Bd 0x3F800000 0 by unfold Bd; decide) (by omega) (bu.fin (by omega)) gu⟩
theorem erfR_nn {a : Int} (ha : R a) (sa : Flt.sgn a = false) (ba : Bd a 2) : R (erfR a) ∧ Flt.isNaN (erfR a) = false := by
  obtain ⟨rt, bt⟩ := erfT_bd ha sa ba
  have r1 : R 0x3F800000 := ⟨by omega, by omega⟩
  have step : ∀ (y c : Int) (n : Nat), R y → R c → Bd y n → Bd c n → n + 1 ≤ 127 → R (Flt.fmaC 0 (erfT a) y c) ∧ Bd (Flt.fmaC 0 (erfT a) y c) (n + 1) := fun y c n hy hc by' bc hn => ⟨R_fma rt hy hc, Bd_fma rt hy hc bt by' bc (by omega) (by omega) hn⟩
  have hq : R (rowV (erfT a) 0x3F87DC22 [0xBFBA00E3, 0x3FB5F0E3, 0xBE91A98E, 0x3E827906]) ∧ Bd (rowV (erfT a) 0x3F87DC22 [0xBFBA00E3, 0x3FB5F0E3, 0xBE91A98E, 0x3E827906]) 5 := by
    unfold rowV
    simp only [List.foldl]
    obtain ⟨r1, b1⟩ := step 0x3F87DC22 0xBFBA00E3 1 ⟨by omega, by omega⟩ ⟨by omega, by omega⟩ (by unfold Bd; decide) (by unfold Bd; decide) (by omega)
    obtain ⟨r2, b2⟩ := step _ 0x3FB5F0E3 2 r1 ⟨by omega, by omega⟩ b1 (by unfold Bd; decide) (by omega)
    obtain ⟨r3, b3⟩ := step _ 0xBE91A98E 3 r2 ⟨by omega, by omega⟩ b2 (by unfold Bd; decide) (by omega)
    exact step _ 0x3E827906 4 r3 ⟨by omega, by omega⟩ b3 (by unfold Bd; decide) (by omega)
  obtain ⟨rq, bq⟩ := hq
  have rp : R (erfP a) := R_mul rt rq
  have bp : Bd (erfP a) 5 := Bd_mul rt rq bt bq (by omega) (by omega)
  have rm := R_mul ha ha
  have bm : Bd (Flt.mulBy 0 a a) 4 := Bd_mul ha ha ba ba (by omega) (by omega)
  have sm : Flt.sgn (Flt.negF (Flt.mulBy 0 a a)) = true := by
    rw [Flt.sgn_neg _ rm.lo rm.hi, mul_sgn ha ha (ba.fin (by omega)) (ba.fin (by omega)), sa]; rfl
  have be := exp_low (R_neg _) sm (Bd_neg bm)
  have re := R_good (exp_good (R_neg (Flt.mulBy 0 a a)))
  exact ⟨R_fma (R_neg _) re r1, fma_nn (R_neg _) re r1 ((Bd_neg bp).fin (by omega)) (be.fin (by omega)) one_fin.1⟩
theorem abs_facts (x : Int) : Flt.sgn (Flt.absF x) = false ∧ Flt.mg (Flt.absF x) = Flt.mg x ∧ Flt.place (Flt.absF x) = (Flt.mg x : Int) := by
  unfold Flt.sgn Flt.absF Flt.mg Flt.place
  refine ⟨by simp; omega, by omega, ?_⟩
  rw [if_neg (by omega)]; omega
theorem erf_in {x : Int} (hn : Flt.isNaN x = false) (hl : Flt.lessF 0x40800000 (Flt.absF x) = false) : Bd (Flt.absF x) 2 := by
  have := less_false (by decide) (nn_abs hn) hl
  obtain ⟨_, a2, a3⟩ := abs_facts x
  rw [a3, show Flt.place 0x40800000 = 0x40800000 by decide] at this
  unfold Bd; rw [a2]; omega
theorem erf_btw {x : Int} (hx : R x) : Btw 0xBF800000 0x3F800000 (erfV x) := by
  unfold erfV
  split
  · exact .inl rfl
  · rename_i hn
    have hn : Flt.isNaN x = false := by simpa using hn
    split
    · rename_i hz
      right
      rw [show Flt.place 0xBF800000 = -1065353216 by decide, show Flt.place 0x3F800000 = 1065353216 by decide, Flt.place_eq_mg x hx.lo hx.hi]
      have : Flt.mg x = 0 := by unfold Flt.absF at hz; unfold Flt.mg; omega
      rw [this]
      refine ⟨hn, ?_, ?_⟩ <;> split <;> omega
    · split
      · exact with_btw ⟨by omega, by omega⟩ (by decide) (by decide) (by decide)
      · rename_i hl
        obtain ⟨rt, nt⟩ := erfR_nn (R_abs x) (abs_facts x).1 (erf_in hn (by simpa using hl))
        obtain ⟨h1, h2, h3⟩ := held_nn (lo := 0) (hi := 0x3F800000) (by decide) (by decide) (by decide) nt
        exact with_btw (R_held ⟨by omega, by omega⟩ ⟨by omega, by omega⟩ rt) h1 h2 h3
theorem cir_btw {x : Int} (hx : R x) (q : Int) : Btw 0xBF800000 0x3F800000 (cirV x q) := by
  unfold cirV
  split
  · exact .inl rfl
  · exact held_btw (by decide) (by decide) (by decide)
theorem sig_btw {x : Int} (hx : R x) : Btw 0 0x3F800000 (sigV x) := by
  unfold sigV
  split
  · exact .inl rfl
  · exact held_btw (by decide) (by decide) (by decide)

/-! Log -/
theorem log_parts (m : Int) (hm : R m) (sm : Flt.sgn m = false) (bm : Bd m 1) (gm : 1056964608 ≤ Flt.mg m) : R (logL m) ∧ Bd (logL m) 22 := by
  have r1 : R 0x3F800000 := ⟨by omega, by omega⟩
  have rf : R (logF m) := R_add hm (R_neg _)
  have bf : Bd (logF m) 2 := Bd_add hm (R_neg _) bm (Bd_neg (show Bd 0x3F800000 0 by unfold Bd; decide)) (by omega) (by omega) (by omega)
  have r2 : R 0x40000000 := ⟨by omega, by omega⟩
  have A_half : Flt.A 1056964608 = 2 ^ 148 := by
    have := Flt.A_form 125 8388608 (by omega) (by omega)
    rw [show (125 : Nat) * 8388608 + 8388608 = 1056964608 by decide] at this
    rw [this, show (8388608 : Nat) = 2 ^ 23 by decide, ← Nat.pow_add]
  have A_two : Flt.A 1073741824 = 2 ^ 150 := by
    have := A_bits 1
    exact this
  have p148 : (2 : Nat) ^ 149 = 2 * 2 ^ 148 := by decide
  have p150 : (2 : Nat) ^ 150 = 4 * 2 ^ 148 := by decide
  -- f is above -1/2
  have hf : Flt.sgn (logF m) = true → Flt.mg (logF m) ≤ 1056964608 := by
    intro hs
    have h := Flt.addBy_fin 0 m (Flt.negF 0x3F800000) hm.lo (R_neg _).lo (bm.fin (by omega)) (by decide)
    rw [sm, show Flt.sgn (Flt.negF 0x3F800000) = true by decide, show Flt.mg (Flt.negF 0x3F800000) = 1065353216 by decide, A_one2] at h
    obtain ⟨_, _, h3, h4, h5⟩ := h
    have gA := Flt.A_mono gm
    rw [A_half] at gA
    unfold logF at hs ⊢
    rcases Nat.lt_trichotomy (Flt.A (Flt.mg m)) (2 ^ 149) with g | g | g
    · obtain ⟨r, e, hr⟩ := h5 (by decide) g
      have := RN_up (m := 1056964608) (by omega) (by omega) (by rw [A_half]; omega) hr
      rw [e, Flt.mg_signed _ _ (by omega)]; exact this
    · rw [h3 (by decide) g] at hs; exact absurd hs (by decide)
    · obtain ⟨r, e, hr⟩ := h4 (by decide) g
      have := Flt.RN_le hr
      rw [e, Flt.sgn_signed _ _ (by omega)] at hs; cases hs
  have bg : Bd (Flt.addBy 0 (logF m) 0x40000000) 3 := Bd_add rf r2 bf (show Bd 0x40000000 1 by unfold Bd; decide) (by omega) (by omega) (by omega)
  have gg : 1065353216 ≤ Flt.mg (Flt.addBy 0 (logF m) 0x40000000) := by
    have h := Flt.addBy_fin 0 (logF m) 0x40000000 rf.lo r2.lo (bf.fin (by omega)) (by decide)
    rw [show Flt.sgn 0x40000000 = false by decide, show Flt.mg 0x40000000 = 1073741824 by decide, A_two] at h
    obtain ⟨_, h2, h3, h4, h5⟩ := h
    have pp := Nat.two_pow_pos 148
    cases hs : Flt.sgn (logF m)
    · obtain ⟨r, e, hr⟩ := h2 hs (by omega)
      have hle := Flt.RN_le hr
      rw [e, Flt.mg_signed _ _ (by omega)]
      exact RN_ge (by omega) (by omega) (by rw [A_one2]; omega) hr
    · have := Flt.A_mono (hf hs)
      rw [A_half] at this
      obtain ⟨r, e, hr⟩ := h5 (by rw [hs]; decide) (by omega)
      have hle := Flt.RN_le hr
      rw [e, Flt.mg_signed _ _ (by omega)]
      exact RN_ge (by omega) (by omega) (by rw [A_one2]; omega) hr
  have rs : R (logS m) := R_div rf (R_add rf r2)
  have bs : Bd (logS m) 2 := Bd_div rf (R_add rf r2) bf (by omega) (bg.fin (by omega)) gg
  have rz := R_mul rs rs
  have bz : Bd (Flt.mulBy 0 (logS m) (logS m)) 4 := Bd_mul rs rs bs bs (by omega) (by omega)
  have step : ∀ (y c : Int) (i n : Nat), R y → R c → Bd y i → Bd c 1 → n = i + 5 → n ≤ 127 → R (Flt.fmaC 0 (Flt.mulBy 0 (logS m) (logS m)) y c) ∧ Bd (Flt.fmaC 0 (Flt.mulBy 0 (logS m) (logS m)) y c) n := fun y c i n hy hc by' bc e hn => ⟨R_fma rz hy hc, Bd_fma rz hy hc bz by' bc (by omega) (by omega) hn⟩
  have hp : R (rowV (Flt.mulBy 0 (logS m) (logS m)) 0x3E638E39 [0x3E924925, 0x3ECCCCCD, 0x3F2AAAAB, 0x40000000]) ∧ Bd (rowV (Flt.mulBy 0 (logS m) (logS m)) 0x3E638E39 [0x3E924925, 0x3ECCCCCD, 0x3F2AAAAB, 0x40000000]) 20 := by
    unfold rowV
    simp only [List.foldl]
    obtain ⟨r1, b1⟩ := step 0x3E638E39 0x3E924925 0 5 ⟨by omega, by omega⟩ ⟨by omega, by omega⟩ (by unfold Bd; decide) (by unfold Bd; decide) rfl (by omega)
    obtain ⟨r2, b2⟩ := step _ 0x3ECCCCCD 5 10 r1 ⟨by omega, by omega⟩ b1 (by unfold Bd; decide) rfl (by omega)
    obtain ⟨r3, b3⟩ := step _ 0x3F2AAAAB 10 15 r2 ⟨by omega, by omega⟩ b2 (by unfold Bd; decide) rfl (by omega)
    exact step _ 0x40000000 15 20 r3 ⟨by omega, by omega⟩ b3 (by unfold Bd; decide) rfl (by omega)
  exact ⟨R_mul rs hp.1, Bd_mul rs hp.1 bs hp.2 (by omega) (by omega)⟩
theorem apM_facts (x : Int) : R (apM x) ∧ Flt.sgn (apM x) = false ∧ Bd (apM x) 1 ∧ 1056964608 ≤ Flt.mg (apM x) := by
  have h0 : 1056964608 ≤ apM0 x ∧ apM0 x < 1065353216 := by unfold apM0; omega
  have r0 : R (apM0 x) := ⟨by omega, by omega⟩
  have mg0 : Flt.mg (apM0 x) = (apM0 x).toNat := by unfold Flt.mg; omega
  have s0 : Flt.sgn (apM0 x) = false := by unfold Flt.sgn; simp; omega
  have b0 : Bd (apM0 x) 0 := by unfold Bd; omega
  unfold apM
  split
  · have b : Bd (Flt.addBy 0 (apM0 x) (apM0 x)) 1 := Bd_add r0 r0 b0 b0 (by omega) (by omega) (by omega)
    have h := Flt.addBy_fin 0 (apM0 x) (apM0 x) r0.lo r0.lo (by omega) (by omega)
    rw [s0] at h
    obtain ⟨_, h2, _⟩ := h
    have hp : 0 < Flt.A (Flt.mg (apM0 x)) := by
      have := Flt.A_strict (show 0 < Flt.mg (apM0 x) by omega)
      omega
    obtain ⟨r, e, hr⟩ := h2 rfl (by omega)
    have hle := Flt.RN_le hr
    have hge := RN_ge (m := Flt.mg (apM0 x)) (by omega) (by omega) (by omega) hr
    refine ⟨R_add r0 r0, ?_, b, ?_⟩
    · rw [e, Flt.sgn_signed _ _ (by omega)]
    · rw [e, Flt.mg_signed _ _ (by omega)]; omega
  · exact ⟨r0, s0, b0.mono (by omega), by omega⟩
theorem fromI_bd (n : Int) (h0 : -1000 ≤ n) (h1 : n ≤ 1000) : R (fromI n) ∧ Bd (fromI n) 10 := by
  obtain ⟨m, e, hA, hm⟩ := Flt.fromInt_rep n (by omega) (by omega)
  refine ⟨R_good (fromI_good n (by omega) (by omega)), ?_⟩
  unfold fromI
  rw [e]
  refine Bd_signed _ (Flt.le_of_A ?_) (by omega)
  rw [A_bits, hA, Nat.pow_add]
  exact Nat.mul_le_mul_right _ (by have : (2 : Nat) ^ 10 = 1024 := by decide
                                   omega)
theorem logM_bd (x : Int) : R (logM (apM x) (apE x)) ∧ Bd (logM (apM x) (apE x)) 24 := by
  obtain ⟨rm, sm, bm, gm⟩ := apM_facts x
  obtain ⟨rl, bl⟩ := log_parts (apM x) rm sm bm gm
  obtain ⟨e0, e1⟩ := apE_range x
  obtain ⟨rk, bk⟩ := fromI_bd (apE x) e0 e1
  have ru := R_fma rk (⟨by omega, by omega⟩ : R 0xB95E8083) rl
  have bu : Bd (Flt.fmaC 0 (fromI (apE x)) 0xB95E8083 (logL (apM x))) 23 := Bd_fma rk ⟨by omega, by omega⟩ rl bk (show Bd 0xB95E8083 0 by unfold Bd; decide) bl (by omega) (by omega) (by omega)
  exact ⟨R_fma rk ⟨by omega, by omega⟩ ru, Bd_fma rk ⟨by omega, by omega⟩ ru bk (show Bd 0x3F318000 0 by unfold Bd; decide) bu (by omega) (by omega) (by omega)⟩
theorem log_good {x : Int} (hx : R x) : Flt.Good (logV x) := by
  unfold logV
  split
  · exact Flt.good_nan
  · split
    · exact ⟨by omega, by omega, fun h => by revert h; decide⟩
    · split
      · rename_i hn _ _
        exact ⟨hx.lo, hx.hi, fun h => absurd (.inl h) hn⟩
      · obtain ⟨r, b⟩ := logM_bd x
        exact ⟨r.lo, r.hi, fun h => by rw [b.nn (by omega)] at h; cases h⟩
theorem log_nn {x : Int} (hx : R x) (hn : Flt.isNaN x = false) (hl : Flt.lessF x 0 = false) : Flt.isNaN (logV x) = false := by
  unfold logV
  rw [hn, hl, if_neg (by decide)]
  split
  · decide
  · split
    · exact hn
    · exact (logM_bd x).2.nn (by omega)
theorem plus_good {x : Int} (hx : R x) : Flt.Good (plusV x) := by
  unfold plusV
  split
  · exact Flt.good_nan
  · have a := R_max hx (⟨by omega, by omega⟩ : R 0)
    have b := R_good (log_good (R_add (⟨by omega, by omega⟩ : R 0x3F800000) (R_good (exp_good (R_neg (Flt.absF x))))))
    exact Flt.addBy_good 0 _ _ a.lo a.hi b.lo b.hi
theorem pow_good {a b : Int} (ha : R a) (hb : R b) : Flt.Good (powV a b) := by
  have rl := R_good (log_good (R_abs a))
  have rm := R_mul hb rl
  have gy : Flt.Good (powY a b) := exp_good rm
  unfold powV
  split
  · exact ⟨by omega, by omega, fun h => by revert h; decide⟩
  · rename_i c1
    split
    · exact Flt.good_nan
    · rename_i c2
      split
      · exact ⟨by omega, by omega, fun h => by revert h; decide⟩
      · split
        · exact Flt.good_nan
        · split
          · rename_i c5
            have na : Flt.isNaN a = false := by cases h : Flt.isNaN a; rfl; exact absurd (.inl h) c2
            have hob := c5.2
            unfold oddB finB at hob
            simp only [Bool.and_eq_true, Bool.not_eq_true'] at hob
            have fb := (Flt.fin_iff b).1 hob.1.1.1
            have zb : Flt.mg b ≠ 0 := fun h => c1 (.inl (by unfold Flt.mg at h; unfold Flt.absF; omega))
            have ll : Flt.lessF (Flt.absF a) 0 = false := by
              unfold Flt.lessF
              rw [(abs_facts a).2.2, show Flt.place 0 = 0 by decide, show decide (((Flt.mg a : Nat) : Int) < 0) = false by simp, Bool.and_false]
            have nm := nn_mul hb rl fb zb (log_nn (R_abs a) (nn_abs na) ll)
            have ny : Flt.isNaN (powY a b) = false := exp_nn rm nm
            have rn := R_neg (powY a b)
            exact ⟨rn.lo, rn.hi, fun h => by rw [nn_neg ny] at h; cases h⟩
          · exact gy
end Go.Proofs.Ytkbniebahledmab
