import Derived.Laws.MathBits
import Derived.Laws.BitsAll
import Derived.RowKit

/-
  Plain facts on floats of 32 bits as whole numbers: definitions after the document's words, and bits. No program is named here.
-/
namespace Go.Proofs.YtkjlhmojdffooaaGreat
namespace Flt

def isNaN (a : Int) : Bool := decide (2139095040 < a % 2147483648)
def isInf (a : Int) : Bool := decide (a % 2147483648 = 2139095040)
def sgn (a : Int) : Bool := decide (2147483648 ≤ a)
def kind (a : Int) : Int := if 2139095040 < a % 2147483648 then 3 else if a % 2147483648 = 2139095040 then 2 else if a % 2147483648 = 0 then 0 else 1
def negF (a : Int) : Int := (a + 2147483648) % 4294967296
def signBit (n : Bool) : Int := if n = true then 2147483648 else 0
def place (a : Int) : Int := if 2147483648 ≤ a then -(a % 2147483648) else a
/-- The exponent of the last bit, and the bits with the hidden one. -/
def expo (a : Int) : Int := if a / 8388608 % 256 = 0 then -149 else a / 8388608 % 256 - 150
def sig (a : Int) : Int := if a / 8388608 % 256 = 0 then a % 8388608 else a % 8388608 + 8388608

/-- How many noughts stand ahead of the first 1 of 64 bits. -/
def lz (x : Int) : Int := 64 - (bitLen x.toNat : Int)
/-- The bits that are dropped, moved up to the word's head. -/
def restOf (s drop : Int) : Int := if drop ≤ 64 then s * 2 ^ (64 - drop).toNat % 18446744073709551616 else 0
def goesOn (way : Int) (neg : Bool) (s drop : Int) (more : Bool) : Bool :=
  if way = 1 then !neg && !(decide (restOf s drop = 0) && (!more && decide (drop ≤ 64)))
  else if way = 2 then neg && !(decide (restOf s drop = 0) && (!more && decide (drop ≤ 64)))
  else if restOf s drop = 9223372036854775808 ∧ more = false ∧ drop ≤ 64 then decide (s / 2 ^ drop.toNat % 2 = 1) else decide (9223372036854775808 ≤ restOf s drop)
def beyond (way : Int) (neg : Bool) : Int := if (way = 1 ∧ neg = true) ∨ (way = 2 ∧ neg = false) then 2139095039 else 2139095040
/-- Rounding of a word whose first bit is 1, at an exponent field. -/
def core (way : Int) (neg : Bool) (s field : Int) (more : Bool) : Int :=
  if 254 < field then beyond way neg
  else if field < 1 then s / 2 ^ (41 - field).toNat + (if goesOn way neg s (41 - field) more = true then 1 else 0)
  else (field - 1) * 8388608 + s / 1099511627776 + (if goesOn way neg s 40 more = true then 1 else 0)
def rnd (way : Int) (neg : Bool) (exp s : Int) (more : Bool) : Int :=
  if s = 0 then (if more = true then signBit neg + core way neg 9223372036854775808 (-873) true else signBit neg)
  else signBit neg + core way neg (s * 2 ^ (lz s).toNat) ((if exp < -1000 then -1000 else if 1000 < exp then 1000 else exp) - lz s + 190) more

end Flt
end Go.Proofs.YtkjlhmojdffooaaGreat

/-
  Sums, products and quotients of floats as package soft reckons them, as plain functions on whole numbers. No program is named here.
-/
namespace Go.Proofs.YtkjlhmojdffooaaGreat
namespace Flt

/-- The sum of two that are taken apart, the first at no lesser exponent. -/
def sumOrd (way : Int) (xn : Bool) (xe xs : Int) (yn : Bool) (ye ys : Int) : Int :=
  if xe - ye ≤ 39 then
    (if xn = yn then rnd way xn ye (xs * 2 ^ (xe - ye).toNat + ys) false
     else if ys < xs * 2 ^ (xe - ye).toNat then rnd way xn ye (xs * 2 ^ (xe - ye).toNat - ys) false
     else if xs * 2 ^ (xe - ye).toNat < ys then rnd way yn ye (ys - xs * 2 ^ (xe - ye).toNat) false
     else signBit (decide (way = 2)))
  else
    (if xn = yn then rnd way xn (xe - 39) (xs * 549755813888 + ys / 2 ^ (xe - ye - 39).toNat) (decide (ys / 2 ^ (xe - ye - 39).toNat * 2 ^ (xe - ye - 39).toNat ≠ ys))
     else if ys / 2 ^ (xe - ye - 39).toNat * 2 ^ (xe - ye - 39).toNat ≠ ys then rnd way xn (xe - 39) (xs * 549755813888 - (ys / 2 ^ (xe - ye - 39).toNat + 1)) true
     else rnd way xn (xe - 39) (xs * 549755813888 - ys / 2 ^ (xe - ye - 39).toNat) false)
def sumM (way : Int) (xn : Bool) (xe xs : Int) (yn : Bool) (ye ys : Int) : Int :=
  if xe < ye then sumOrd way yn ye ys xn xe xs else sumOrd way xn xe xs yn ye ys
def addBy (way a b : Int) : Int :=
  if isNaN a = true ∨ isNaN b = true then 2143289344
  else if isInf a = true ∧ isInf b = true ∧ a ≠ b then 2143289344
  else if isInf a = true then a
  else if isInf b = true then b
  else sumM way (sgn a) (expo a) (sig a) (sgn b) (expo b) (sig b)
end Flt
end Go.Proofs.YtkjlhmojdffooaaGreat

/-
  Rounding, as the document words it, on whole numbers: amounts of floats, the greatest float that is not above a number, and the float that a way picks. No program is named here.
-/
namespace Go.Proofs.YtkjlhmojdffooaaGreat
namespace Flt

/-- The amount of a float without its sign, in units of 2^-149. -/
def A (m : Nat) : Nat := if m < 8388608 then m else (8388608 + m % 8388608) * 2 ^ (m / 8388608 - 1)

theorem A_form (f t : Nat) (ht : t ≤ 16777216) (h : f = 0 ∨ 8388608 ≤ t) : A (f * 8388608 + t) = t * 2 ^ f := by
  unfold A
  by_cases h1 : t < 8388608
  · have hf : f = 0 := by omega
    subst hf
    rw [if_pos (by omega)]; simp
  · rw [if_neg (by omega)]
    by_cases h2 : t = 16777216
    · subst h2
      rw [show (f * 8388608 + 16777216) % 8388608 = 0 by omega, show (f * 8388608 + 16777216) / 8388608 - 1 = f + 1 by omega, Nat.pow_succ]
      generalize 2 ^ f = y
      omega
    · rw [show (f * 8388608 + t) % 8388608 = t - 8388608 by omega, show (f * 8388608 + t) / 8388608 - 1 = f by omega, show 8388608 + (t - 8388608) = t by omega]

theorem A_split (m : Nat) : ∃ f t, m = f * 8388608 + t ∧ t < 16777216 ∧ (f = 0 ∨ 8388608 ≤ t) ∧ f = m / 8388608 - 1 := by
  by_cases h : m < 8388608
  · exact ⟨0, m, by omega, by omega, by omega, by omega⟩
  · exact ⟨m / 8388608 - 1, m - (m / 8388608 - 1) * 8388608, by omega, by omega, by omega, rfl⟩

theorem A_succ (m : Nat) : A (m + 1) = A m + 2 ^ (m / 8388608 - 1) := by
  obtain ⟨f, t, hm, ht, h, hf⟩ := A_split m
  rw [← hf]
  have e1 := A_form f t (by omega) h
  have e2 := A_form f (t + 1) (by omega) (by omega)
  rw [hm, e1, show f * 8388608 + t + 1 = f * 8388608 + (t + 1) by omega, e2, Nat.succ_mul]

theorem A_lt_succ (m : Nat) : A m < A (m + 1) := by
  rw [A_succ]; have := Nat.two_pow_pos (m / 8388608 - 1); omega
theorem A_le_add (m k : Nat) : A m ≤ A (m + k) := by
  induction k with
  | zero => exact Nat.le_refl _
  | succ k ih => have := A_lt_succ (m + k); rw [show m + (k + 1) = m + k + 1 by omega]; omega
theorem A_mono {m n : Nat} (h : m ≤ n) : A m ≤ A n := by
  obtain ⟨k, rfl⟩ := Nat.exists_eq_add_of_le h
  exact A_le_add m k
theorem A_strict {m n : Nat} (h : m < n) : A m < A n := Nat.lt_of_lt_of_le (A_lt_succ m) (A_mono h)
theorem A_inf : A 2139095040 = 8388608 * 2 ^ 254 := A_form 254 8388608 (by omega) (by omega)

/-- m: the greatest float (without a sign; up to the infinite one) whose amount is not above p / q. -/
def IsFl (p q m : Nat) : Prop := m ≤ 2139095040 ∧ A m * q ≤ p ∧ (m < 2139095040 → p < A (m + 1) * q)
theorem isFl_mono {p q p' q' m m' : Nat} (h : IsFl p q m) (h' : IsFl p' q' m') (hq : 0 < q) (hp : p * q' ≤ p' * q) : m ≤ m' := by
  obtain ⟨a1, a2, a3⟩ := h
  obtain ⟨b1, b2, b3⟩ := h'
  rcases Nat.lt_or_ge m' m with hlt | hge
  · exfalso
    have c := b3 (by omega)
    have d := A_mono (show m' + 1 ≤ m by omega)
    have e1 : p' * q < A (m' + 1) * q' * q := Nat.mul_lt_mul_of_pos_right c hq
    have e2 : A (m' + 1) * q' * q ≤ A m * q' * q := Nat.mul_le_mul_right _ (Nat.mul_le_mul_right _ d)
    have e3 : A m * q' * q ≤ p * q' := by
      rw [Nat.mul_right_comm]; exact Nat.mul_le_mul_right _ a2
    omega
  · exact hge
theorem isFl_one {p q m m' : Nat} (h : IsFl p q m) (h' : IsFl p q m') (hq : 0 < q) : m = m' :=
  Nat.le_antisymm (isFl_mono h h' hq (Nat.le_refl _)) (isFl_mono h' h hq (Nat.le_refl _))

def inW (way : Int) (neg : Bool) : Bool := (decide (way = 1) && neg) || (decide (way = 2) && !neg)
def outW (way : Int) (neg : Bool) : Bool := (decide (way = 1) && !neg) || (decide (way = 2) && neg)
/-- The float (without its sign) that a way picks, of m and the next one. -/
def pick (way : Int) (neg : Bool) (p q m : Nat) : Nat :=
  if m = 2139095040 then (if inW way neg = true then 2139095039 else 2139095040)
  else if A m * q = p ∨ inW way neg = true then m
  else if outW way neg = true then m + 1
  else if (A m + A (m + 1)) * q < 2 * p ∨ ((A m + A (m + 1)) * q = 2 * p ∧ m % 2 = 1) then m + 1 else m
/-- r: the float (without its sign) that p / q is rounded to, by a way, with a sign. -/
def RN (way : Int) (neg : Bool) (p q r : Nat) : Prop := ∃ m, IsFl p q m ∧ r = pick way neg p q m

/-- What the dropped bits say: S = t * M + r, of p / q = (S + something) / M * (K / q). -/
theorem pick_of {p q m t K M H S g : Nat} {more : Bool} (hA : A m * q = t * K) (hA1 : A (m + 1) * q = (t + 1) * K) (hK : 0 < K) (hH : 0 < H) (hM : M = 2 * H)
    (ht : t = S / M) (hm : m < 2139095040) (gS : g ∣ S) (gH : g ∣ H)
    (hv : (more = false ∧ p * M = S * K) ∨ (more = true ∧ S * K < p * M ∧ p * M < (S + g) * K)) :
    IsFl p q m ∧ (A m * q = p ↔ (more = false ∧ S % M = 0)) ∧ ((A m + A (m + 1)) * q < 2 * p ↔ (H < S % M ∨ (more = true ∧ S % M = H))) ∧
      ((A m + A (m + 1)) * q = 2 * p ↔ (more = false ∧ S % M = H)) := by
  have hMp : 0 < M := by omega
  have hS : t * M + S % M = S := by rw [ht, Nat.mul_comm]; exact Nat.div_add_mod S M
  have hr : S % M < M := Nat.mod_lt _ hMp
  obtain ⟨h, rfl⟩ := gH
  obtain ⟨s, rfl⟩ := gS
  have gpos : 0 < g := by
    rcases Nat.eq_zero_or_pos g with h0 | h0
    · subst h0; simp at hH
    · exact h0
  -- what is dropped is a multiple of g
  have hrg : ∃ r, g * s % M = g * r := by
    refine ⟨s % (2 * h), ?_⟩
    rw [hM, show 2 * (g * h) = g * (2 * h) by ac_rfl, Nat.mul_mod_mul_left]
  obtain ⟨r, hr1⟩ := hrg
  rw [hr1] at hS hr ⊢
  have r1 : g * r < g * h → g * r + g ≤ g * h := by
    intro hlt
    have := Nat.lt_of_mul_lt_mul_left hlt
    have h2 : g * (r + 1) ≤ g * h := Nat.mul_le_mul_left g this
    rw [Nat.mul_add, Nat.mul_one] at h2; exact h2
  have r2 : g * r + g ≤ M := by
    rw [hM, show 2 * (g * h) = g * (2 * h) by ac_rfl] at hr ⊢
    have := Nat.lt_of_mul_lt_mul_left hr
    have h2 : g * (r + 1) ≤ g * (2 * h) := Nat.mul_le_mul_left g this
    rw [Nat.mul_add, Nat.mul_one] at h2; exact h2
  generalize g * r = R at *
  generalize g * s = S at *
  generalize g * h = H at *
  subst hM
  clear ht hr1
  -- all at M times
  have k1 : (t * K) * (2 * H) = (t * (2 * H)) * K := by ac_rfl
  have k2 : ((t + 1) * K) * (2 * H) = ((t + 1) * (2 * H)) * K := by ac_rfl
  have kc : ∀ x y : Nat, x * (2 * H) < y * (2 * H) → x < y := fun x y hxy => Nat.lt_of_mul_lt_mul_right hxy
  have kl : ∀ x y : Nat, x * (2 * H) ≤ y * (2 * H) → x ≤ y := fun x y hxy => Nat.le_of_mul_le_mul_right hxy hMp
  have mK : ∀ x y : Nat, x ≤ y → x * K ≤ y * K := fun x y hxy => Nat.mul_le_mul_right K hxy
  have mKl : ∀ x y : Nat, x < y → x * K < y * K := fun x y hxy => Nat.mul_lt_mul_of_pos_right hxy hK
  have hs1 : (t + 1) * (2 * H) = t * (2 * H) + 2 * H := Nat.succ_mul _ _
  have low : S * K ≤ p * (2 * H) := by rcases hv with ⟨_, e⟩ | ⟨_, e, _⟩ <;> omega
  have up : p * (2 * H) < ((t + 1) * (2 * H)) * K := by
    rcases hv with ⟨_, e⟩ | ⟨_, _, e⟩
    · rw [e]; exact mKl _ _ (by omega)
    · exact Nat.lt_of_lt_of_le e (mK _ _ (by omega))
  have lowT : (t * (2 * H)) * K ≤ S * K := mK _ _ (by omega)
  have h2 : (A m + A (m + 1)) * q = (2 * t + 1) * K := by
    rw [Nat.add_mul, hA, hA1, ← Nat.add_mul]; congr 1; omega
  have hh : (2 * t + 1) * (2 * H) = 2 * (t * (2 * H) + H) := by
    rw [Nat.add_mul, Nat.one_mul, Nat.mul_assoc 2 t (2 * H)]; omega
  have k3 : ((2 * t + 1) * K) * (2 * H) = 2 * ((t * (2 * H) + H) * K) := by
    rw [show (2 * t + 1) * K * (2 * H) = ((2 * t + 1) * (2 * H)) * K by ac_rfl, hh, Nat.mul_assoc]
  have k4 : (2 * p) * (2 * H) = 2 * (p * (2 * H)) := by ac_rfl
  refine ⟨⟨by omega, ?_, fun _ => ?_⟩, ?_, ?_, ?_⟩
  · rw [hA]; apply kl; omega
  · rw [hA1]; apply kc; omega
  · rw [hA]
    constructor
    · intro e
      have e2 : p * (2 * H) = (t * (2 * H)) * K := by rw [← e]; exact k1
      rcases hv with ⟨f, e3⟩ | ⟨f, e3, _⟩
      · refine ⟨f, ?_⟩
        have : S = t * (2 * H) := Nat.eq_of_mul_eq_mul_right hK (by omega)
        omega
      · omega
    · rintro ⟨f, e⟩
      rcases hv with ⟨_, e3⟩ | ⟨f', _, _⟩
      · have : S = t * (2 * H) := by omega
        rw [this] at e3
        exact Nat.eq_of_mul_eq_mul_right hMp (by omega)
      · rw [f] at f'; cases f'
  · rw [h2]
    constructor
    · intro e
      have e2 : ((2 * t + 1) * K) * (2 * H) < (2 * p) * (2 * H) := Nat.mul_lt_mul_of_pos_right e hMp
      have e3 : (t * (2 * H) + H) * K < p * (2 * H) := by omega
      rcases hv with ⟨_, e4⟩ | ⟨f, _, e4⟩
      · left
        rw [e4] at e3
        have := Nat.lt_of_mul_lt_mul_right e3
        omega
      · rcases Nat.lt_or_ge R H with hlt | hge
        · exfalso
          have := mK (S + g) (t * (2 * H) + H) (by have := r1 hlt; omega)
          omega
        · rcases Nat.lt_or_ge H R with h5 | h5
          · left; exact h5
          · right; exact ⟨f, by omega⟩
    · intro e
      apply kc
      rw [k3, k4]
      rcases e with e | ⟨f, e⟩
      · have := mKl (t * (2 * H) + H) S (by omega)
        omega
      · have := mK (t * (2 * H) + H) S (by omega)
        rcases hv with ⟨f', _⟩ | ⟨_, e4, _⟩
        · rw [f] at f'; cases f'
        · omega
  · rw [h2]
    constructor
    · intro e
      have e2 : ((2 * t + 1) * K) * (2 * H) = (2 * p) * (2 * H) := by rw [e]
      have e3 : (t * (2 * H) + H) * K = p * (2 * H) := by omega
      rcases hv with ⟨f, e4⟩ | ⟨f, e4, e5⟩
      · refine ⟨f, ?_⟩
        have : S = t * (2 * H) + H := Nat.eq_of_mul_eq_mul_right hK (by omega)
        omega
      · exfalso
        rcases Nat.lt_or_ge R H with hlt | hge
        · have := mK (S + g) (t * (2 * H) + H) (by have := r1 hlt; omega)
          omega
        · have := mK (t * (2 * H) + H) S (by omega)
          omega
    · rintro ⟨f, e⟩
      rcases hv with ⟨_, e4⟩ | ⟨f', _, _⟩
      · have : S = t * (2 * H) + H := by omega
        rw [this] at e4
        exact Nat.eq_of_mul_eq_mul_right hMp (by omega)
      · rw [f] at f'; cases f'
end Flt
end Go.Proofs.YtkjlhmojdffooaaGreat

/-
  Rounding as package soft reckons it is rounding as the document words it. No program is named here.
-/
namespace Go.Proofs.YtkjlhmojdffooaaGreat
namespace Flt

/-- The dropped bits, for a drop of at most 64. -/
theorem rest_nat (S D : Nat) (hD : D ≤ 64) : restOf (S : Int) (D : Int) = ((S % 2 ^ D * 2 ^ (64 - D) : Nat) : Int) := by
  unfold restOf
  rw [if_pos (by omega), show (64 - (D : Int)).toNat = 64 - D by omega]
  have e : (2 : Nat) ^ 64 = 2 ^ D * 2 ^ (64 - D) := by rw [← Nat.pow_add, show D + (64 - D) = 64 by omega]
  have e2 : S * 2 ^ (64 - D) % 2 ^ 64 = S % 2 ^ D * 2 ^ (64 - D) := by rw [e, Nat.mul_mod_mul_right]
  rw [← e2, show (18446744073709551616 : Int) = ((2 ^ 64 : Nat) : Int) by decide, show (2 : Int) ^ (64 - D) = ((2 ^ (64 - D) : Nat) : Int) from (Int.natCast_pow 2 (64 - D)).symm, ← Int.natCast_mul, ← Int.natCast_emod]

theorem rest_zero (S D : Nat) (hD : D ≤ 64) : restOf (S : Int) (D : Int) = 0 ↔ S % 2 ^ D = 0 := by
  rw [rest_nat S D hD]
  have hp := Nat.two_pow_pos (64 - D)
  constructor
  · intro h
    have h2 : S % 2 ^ D * 2 ^ (64 - D) = 0 := by generalize S % 2 ^ D * 2 ^ (64 - D) = X at h ⊢; omega
    rcases Nat.mul_eq_zero.1 h2 with h3 | h3
    · exact h3
    · omega
  · intro h; rw [h]; simp
theorem half_nat (D : Nat) (hD : D ≤ 64) (h1 : 1 ≤ D) : 9223372036854775808 = 2 ^ (D - 1) * 2 ^ (64 - D) := by
  rw [← Nat.pow_add, show D - 1 + (64 - D) = 63 by omega]
theorem rest_half (S D : Nat) (hD : D ≤ 64) (h1 : 1 ≤ D) : restOf (S : Int) (D : Int) = 9223372036854775808 ↔ S % 2 ^ D = 2 ^ (D - 1) := by
  rw [rest_nat S D hD]
  have hp := Nat.two_pow_pos (64 - D)
  have hh := half_nat D hD h1
  constructor
  · intro h
    have h2 : S % 2 ^ D * 2 ^ (64 - D) = 9223372036854775808 := by generalize S % 2 ^ D * 2 ^ (64 - D) = X at h ⊢; omega
    rw [hh] at h2
    exact Nat.eq_of_mul_eq_mul_right hp h2
  · intro h; rw [h, ← hh]; rfl
theorem rest_ge (S D : Nat) (hD : D ≤ 64) (h1 : 1 ≤ D) : 9223372036854775808 ≤ restOf (S : Int) (D : Int) ↔ 2 ^ (D - 1) ≤ S % 2 ^ D := by
  rw [rest_nat S D hD]
  have hp := Nat.two_pow_pos (64 - D)
  have hh := half_nat D hD h1
  constructor
  · intro h
    have h2 : 9223372036854775808 ≤ S % 2 ^ D * 2 ^ (64 - D) := by generalize S % 2 ^ D * 2 ^ (64 - D) = X at h ⊢; omega
    rw [hh] at h2
    exact Nat.le_of_mul_le_mul_right h2 hp
  · intro h
    have h2 : 9223372036854775808 ≤ S % 2 ^ D * 2 ^ (64 - D) := by rw [hh]; exact Nat.mul_le_mul_right _ h
    generalize S % 2 ^ D * 2 ^ (64 - D) = X at h2 ⊢; omega

theorem pow_split (D : Nat) (h : 1 ≤ D) : 2 ^ D = 2 * 2 ^ (D - 1) := by
  rw [← Nat.pow_succ', show (D - 1).succ = D by omega]

/-- Does the amount go on to the next one? By the dropped bits alone. -/
theorem goesOn_iff (way : Int) (neg : Bool) (S D : Nat) (more : Bool) (h0 : 0 < S) (h1 : S < 18446744073709551616) (hD : 40 ≤ D) :
    goesOn way neg (S : Int) (D : Int) more = true ↔
      (way = 1 ∧ neg = false ∧ ¬ (more = false ∧ S % 2 ^ D = 0)) ∨ (way = 2 ∧ neg = true ∧ ¬ (more = false ∧ S % 2 ^ D = 0)) ∨
      (way ≠ 1 ∧ way ≠ 2 ∧ ((more = false ∧ S % 2 ^ D = 2 ^ (D - 1) ∧ S / 2 ^ D % 2 = 1) ∨ (more = true ∧ S % 2 ^ D = 2 ^ (D - 1)) ∨ 2 ^ (D - 1) < S % 2 ^ D)) := by
  unfold goesOn
  by_cases hd : D ≤ 64
  · have hd' : (D : Int) ≤ 64 := by omega
    have q1 : ((S : Int) / 2 ^ (D : Int).toNat % 2 = 1) ↔ S / 2 ^ D % 2 = 1 := by
      rw [Int.toNat_natCast]
      have : ((S / 2 ^ D % 2 : Nat) : Int) = (S : Int) / 2 ^ D % 2 := by push_cast; rfl
      rw [← this]; omega
    simp only [rest_zero S D hd, rest_half S D hd (by omega), rest_ge S D hd (by omega), q1, hd', decide_true, Bool.and_true, and_true]
    by_cases w1 : way = 1
    · subst w1
      cases neg <;> cases more <;> simp
    · by_cases w2 : way = 2
      · subst w2
        cases neg <;> cases more <;> simp
      · rw [if_neg w1, if_neg w2]
        have hp := Nat.two_pow_pos (D - 1)
        cases more
        · by_cases hh : S % 2 ^ D = 2 ^ (D - 1)
          · simp [hh, w1, w2]
          · simp [hh, w1, w2]; omega
        · simp [w1, w2]; omega
  · have hr : restOf (S : Int) (D : Int) = 0 := by unfold restOf; rw [if_neg (by omega)]
    have hd' : ¬ (D : Int) ≤ 64 := by omega
    have hp : 2 ^ 64 ≤ 2 ^ (D - 1) := Nat.pow_le_pow_right (by decide) (by omega)
    have hp2 := pow_split D (by omega)
    have hm : S % 2 ^ D = S := Nat.mod_eq_of_lt (by omega)
    rw [hm, hr]
    simp only [hd', decide_false, Bool.and_false, Bool.not_false, Bool.and_true, and_false, if_false]
    have n0 : S ≠ 0 := by omega
    have n1 : S ≠ 2 ^ (D - 1) := by omega
    have n2 : ¬ 2 ^ (D - 1) < S := by omega
    by_cases w1 : way = 1
    · subst w1; simp [n0]
    · by_cases w2 : way = 2
      · subst w2; simp [n0]
      · simp [w1, w2, n1, n2]

/-- From the value in two powers of two to the value at the drop. -/
theorem at_drop {p S q a b D f g : Nat} {more : Bool} (hF : f + a = D + b)
    (hv : (more = false ∧ p * 2 ^ a = S * q * 2 ^ b) ∨ (more = true ∧ S * q * 2 ^ b < p * 2 ^ a ∧ p * 2 ^ a < (S + g) * q * 2 ^ b)) :
    (more = false ∧ p * 2 ^ D = S * (q * 2 ^ f)) ∨ (more = true ∧ S * (q * 2 ^ f) < p * 2 ^ D ∧ p * 2 ^ D < (S + g) * (q * 2 ^ f)) := by
  have k1 : ∀ x : Nat, x * q * 2 ^ b * 2 ^ D = x * (q * 2 ^ f) * 2 ^ a := by
    intro x
    rw [Nat.mul_assoc (x * q), ← Nat.pow_add, Nat.add_comm b D, ← hF, Nat.pow_add, ← Nat.mul_assoc, Nat.mul_assoc x q]
  have k2 : p * 2 ^ a * 2 ^ D = p * 2 ^ D * 2 ^ a := by ac_rfl
  have pa := Nat.two_pow_pos a
  have pD := Nat.two_pow_pos D
  rcases hv with ⟨h, e⟩ | ⟨h, e1, e2⟩
  · left
    refine ⟨h, Nat.eq_of_mul_eq_mul_right pa ?_⟩
    rw [← k2, e, k1]
  · right
    refine ⟨h, Nat.lt_of_mul_lt_mul_right (a := 2 ^ a) ?_, Nat.lt_of_mul_lt_mul_right (a := 2 ^ a) ?_⟩
    · rw [← k2, ← k1]; exact Nat.mul_lt_mul_of_pos_right e1 pD
    · rw [← k2, ← k1]; exact Nat.mul_lt_mul_of_pos_right e2 pD

/-- The amount that the code picks is the one that the way picks. -/
theorem pick_goes {way : Int} {neg more : Bool} {p q m S D : Nat} (h0 : 0 < S) (h1 : S < 18446744073709551616) (hD : 40 ≤ D) (hm : m < 2139095040)
    (c1 : A m * q = p ↔ (more = false ∧ S % 2 ^ D = 0))
    (c2 : (A m + A (m + 1)) * q < 2 * p ↔ (2 ^ (D - 1) < S % 2 ^ D ∨ (more = true ∧ S % 2 ^ D = 2 ^ (D - 1))))
    (c3 : (A m + A (m + 1)) * q = 2 * p ↔ (more = false ∧ S % 2 ^ D = 2 ^ (D - 1))) (hodd : m % 2 = S / 2 ^ D % 2) :
    pick way neg p q m = m + (if goesOn way neg (S : Int) (D : Int) more = true then 1 else 0) := by
  have hg := goesOn_iff way neg S D more h0 h1 hD
  unfold pick
  rw [if_neg (by omega)]
  simp only [hg, c1, c2, c3, hodd]
  have hp := Nat.two_pow_pos (D - 1)
  by_cases w1 : way = 1
  · subst w1
    cases neg
    · by_cases hx : more = false ∧ S % 2 ^ D = 0
      · simp [hx]
      · simp [inW, outW, hx]
    · simp [inW]
  · by_cases w2 : way = 2
    · subst w2
      cases neg
      · simp [inW]
      · by_cases hx : more = false ∧ S % 2 ^ D = 0
        · simp [hx]
        · simp [inW, outW, hx]
    · have i0 : inW way neg = false := by simp [inW, w1, w2]
      have o0 : outW way neg = false := by simp [outW, w1, w2]
      simp only [i0, o0, w1, w2]
      generalize S % 2 ^ D = R at *
      generalize 2 ^ (D - 1) = H at *
      generalize S / 2 ^ D % 2 = o at *
      clear hg c1 c2 c3 hodd
      by_cases e0 : R = 0 <;> by_cases e1 : H < R <;> by_cases e2 : R = H <;> by_cases e3 : o = 1 <;> first | (exfalso; omega) | (cases more <;> simp [e0, e1, e2, e3]; done) | (cases more <;> simp_all; done) | (cases more <;> simp_all <;> omega)

theorem beyond_pick (way : Int) (neg : Bool) : beyond way neg = ((if inW way neg = true then 2139095039 else 2139095040 : Nat) : Int) := by
  unfold beyond inW
  by_cases w1 : way = 1
  · subst w1; cases neg <;> simp
  · by_cases w2 : way = 2
    · subst w2; cases neg <;> simp
    · simp [w1, w2]

/-- A word whose first bit is 1, at an exponent field, as the code rounds it. -/
theorem core_RN (way : Int) (neg more : Bool) (S : Nat) (F : Int) (p q a b g : Nat) (h0 : 9223372036854775808 ≤ S) (h1 : S < 18446744073709551616) (hq : 0 < q)
    (hF : F - 41 = (b : Int) - a) (gS : g ∣ S) (gH : g ∣ 2 ^ 39)
    (hv : (more = false ∧ p * 2 ^ a = S * q * 2 ^ b) ∨ (more = true ∧ S * q * 2 ^ b < p * 2 ^ a ∧ p * 2 ^ a < (S + g) * q * 2 ^ b)) :
    ∃ r : Nat, core way neg (S : Int) F more = (r : Int) ∧ RN way neg p q r := by
  by_cases f1 : 254 < F
  · refine ⟨_, ?_, 2139095040, ⟨Nat.le_refl _, ?_, fun h => absurd h (Nat.lt_irrefl _)⟩, rfl⟩
    · unfold core pick
      rw [if_pos f1, if_pos rfl]; exact beyond_pick way neg
    · rw [A_inf]
      obtain ⟨c, hc⟩ : ∃ c, b = a + 214 + c := ⟨b - a - 214, by omega⟩
      have low : S * q * 2 ^ b ≤ p * 2 ^ a := by rcases hv with ⟨_, e⟩ | ⟨_, e, _⟩ <;> omega
      have e1 : 9223372036854775808 * q * 2 ^ b ≤ S * q * 2 ^ b := Nat.mul_le_mul_right _ (Nat.mul_le_mul_right _ h0)
      have e2 : 9223372036854775808 * q * 2 ^ b = (9223372036854775808 * 2 ^ 214 * q * 2 ^ c) * 2 ^ a := by
        rw [hc, Nat.pow_add, Nat.pow_add]; ac_rfl
      have e3 : 9223372036854775808 * 2 ^ 214 * q * 2 ^ c ≤ p := Nat.le_of_mul_le_mul_right (by omega) (Nat.two_pow_pos a)
      have e4 : 9223372036854775808 * 2 ^ 214 * q * 1 ≤ 9223372036854775808 * 2 ^ 214 * q * 2 ^ c := Nat.mul_le_mul_left _ (Nat.two_pow_pos c)
      have e5 : 8388608 * 2 ^ 254 = 9223372036854775808 * 2 ^ 214 := by decide
      rw [e5]; omega
  by_cases f2 : F < 1
  · obtain ⟨D, hD⟩ : ∃ D : Nat, (D : Int) = 41 - F := ⟨(41 - F).toNat, by omega⟩
    have hv' := at_drop (f := 0) (D := D) (by omega) hv
    rw [Nat.pow_zero, Nat.mul_one] at hv'
    have ht : S / 2 ^ D < 8388608 := by
      rw [Nat.div_lt_iff_lt_mul (Nat.two_pow_pos D)]
      have : 2 ^ 41 ≤ 2 ^ D := Nat.pow_le_pow_right (by decide) (by omega)
      omega
    have hA : A (S / 2 ^ D) = S / 2 ^ D := by have := A_form 0 (S / 2 ^ D) (by omega) (by omega); simpa using this
    have hA1 : A (S / 2 ^ D + 1) = S / 2 ^ D + 1 := by have := A_form 0 (S / 2 ^ D + 1) (by omega) (by omega); simpa using this
    have gD : g ∣ 2 ^ (D - 1) := Nat.dvd_trans gH (Nat.pow_dvd_pow 2 (by omega))
    have P := pick_of (p := p) (q := q) (m := S / 2 ^ D) (t := S / 2 ^ D) (K := q) (M := 2 ^ D) (H := 2 ^ (D - 1)) (S := S) (g := g) (more := more)
      (by rw [hA]) (by rw [hA1]) hq (Nat.two_pow_pos _) (pow_split D (by omega)) rfl (by omega) gS gD hv'
    obtain ⟨P1, P2, P3, P4⟩ := P
    refine ⟨_, ?_, S / 2 ^ D, P1, rfl⟩
    rw [pick_goes (S := S) (D := D) (more := more) (by omega) h1 (by omega) (by omega) P2 P3 P4 rfl]
    unfold core
    rw [if_neg f1, if_pos f2, ← hD, Int.toNat_natCast]
    have e : (S : Int) / 2 ^ D = ((S / 2 ^ D : Nat) : Int) := by
      rw [Int.natCast_ediv, Int.natCast_pow]; rfl
    rw [e]
    split <;> simp
  · obtain ⟨f, hf⟩ : ∃ f : Nat, (f : Int) = F - 1 := ⟨(F - 1).toNat, by omega⟩
    have hv' := at_drop (f := f) (D := 40) (by omega) hv
    have e40 : (2 : Nat) ^ 40 = 1099511627776 := by decide
    have ht1 : S / 2 ^ 40 < 16777216 := by rw [e40]; omega
    have ht2 : 8388608 ≤ S / 2 ^ 40 := by rw [e40]; omega
    have hA := A_form f (S / 2 ^ 40) (by omega) (by omega)
    have hA1 := A_form f (S / 2 ^ 40 + 1) (by omega) (by omega)
    have P := pick_of (p := p) (q := q) (m := f * 8388608 + S / 2 ^ 40) (t := S / 2 ^ 40) (K := q * 2 ^ f) (M := 2 ^ 40) (H := 2 ^ 39) (S := S) (g := g) (more := more)
      (by rw [hA]; ac_rfl) (by rw [show f * 8388608 + S / 2 ^ 40 + 1 = f * 8388608 + (S / 2 ^ 40 + 1) by omega, hA1]; ac_rfl) (Nat.mul_pos hq (Nat.two_pow_pos _)) (by decide) (by decide) rfl (by omega) gS gH hv'
    obtain ⟨P1, P2, P3, P4⟩ := P
    refine ⟨_, ?_, f * 8388608 + S / 2 ^ 40, P1, rfl⟩
    rw [pick_goes (S := S) (D := 40) (more := more) (by omega) h1 (by omega) (by omega) P2 P3 P4 (by omega)]
    unfold core
    rw [if_neg f1, if_neg f2]
    rw [e40]
    have e : ((S / 1099511627776 : Nat) : Int) = (S : Int) / 1099511627776 := rfl
    rw [show ((40 : Nat) : Int) = 40 from rfl]
    split <;> omega
end Flt
end Go.Proofs.YtkjlhmojdffooaaGreat

/-
  Round, sums, products and quotients of package soft are the document's: what is rounded is the very value. No program is named here.
-/
namespace Go.Proofs.YtkjlhmojdffooaaGreat
namespace Flt

theorem lz_nat (s : Nat) (h0 : 1 ≤ s) (h1 : s < 18446744073709551616) :
    ∃ L : Nat, lz (s : Int) = (L : Int) ∧ L ≤ 63 ∧ 9223372036854775808 ≤ s * 2 ^ L ∧ s * 2 ^ L < 18446744073709551616 ∧ (16777216 ≤ s → L ≤ 39) := by
  obtain ⟨s1, s2⟩ := bitLen_spec s
  have s3 := s2 (by omega)
  unfold lz
  rw [Int.toNat_natCast]
  generalize bitLen s = B at *
  have hB : 1 ≤ B := by
    rcases Nat.eq_zero_or_pos B with h | h
    · rw [h] at s1; simp at s1; omega
    · exact h
  have hB2 : B ≤ 64 := by
    rcases Nat.lt_or_ge 64 B with h | h
    · exfalso
      have : 2 ^ 64 ≤ 2 ^ (B - 1) := Nat.pow_le_pow_right (by decide) (by omega)
      omega
    · exact h
  have p1 : (2 : Nat) ^ (B - 1) * 2 ^ (64 - B) = 9223372036854775808 := by
    rw [← Nat.pow_add, show B - 1 + (64 - B) = 63 by omega]
  have p2 : (2 : Nat) ^ B * 2 ^ (64 - B) = 18446744073709551616 := by
    rw [← Nat.pow_add, show B + (64 - B) = 64 by omega]
  have q1 : 2 ^ (B - 1) * 2 ^ (64 - B) ≤ s * 2 ^ (64 - B) := Nat.mul_le_mul_right _ s3
  have q2 : s * 2 ^ (64 - B) < 2 ^ B * 2 ^ (64 - B) := Nat.mul_lt_mul_of_pos_right s1 (Nat.two_pow_pos _)
  rw [p1] at q1
  rw [p2] at q2
  refine ⟨64 - B, by omega, by omega, q1, q2, fun hs => ?_⟩
  rcases Nat.lt_or_ge 39 (64 - B) with h | h
  · exfalso
    have e1 : 2 ^ 40 ≤ 2 ^ (64 - B) := Nat.pow_le_pow_right (by decide) (by omega)
    have e2 : 16777216 * 2 ^ 40 ≤ s * 2 ^ (64 - B) := Nat.mul_le_mul hs e1
    omega
  · exact h

/-- What is rounded: s at an exponent, exactly, or a little more. -/
def Val (p q a b s : Nat) (more : Bool) : Prop :=
  (more = false ∧ p * 2 ^ a = s * q * 2 ^ b) ∨
  (more = true ∧ 16777216 ≤ s ∧ s * q * 2 ^ b < p * 2 ^ a ∧ p * 2 ^ a < (s + 1) * q * 2 ^ b) ∨
  (more = true ∧ s * q * 2 ^ b < p * 2 ^ a ∧ p * 2 ^ a * 2 ^ 63 < (s * 2 ^ 63 + 1) * q * 2 ^ b)

theorem rnd_RN (way : Int) (neg : Bool) (exp : Int) (s : Nat) (more : Bool) (p q a b : Nat) (h0 : 1 ≤ s) (h1 : s < 18446744073709551616)
    (e0 : -1000 ≤ exp) (e1 : exp ≤ 1000) (hq : 0 < q) (hE : exp + 149 = (b : Int) - a) (hv : Val p q a b s more) :
    ∃ r : Nat, rnd way neg exp (s : Int) more = signBit neg + (r : Int) ∧ RN way neg p q r := by
  obtain ⟨L, hL, L1, S0, S1, L39⟩ := lz_nat s h0 h1
  have hS : (s : Int) * 2 ^ L = ((s * 2 ^ L : Nat) : Int) := by rw [Int.natCast_mul, Int.natCast_pow]; rfl
  have hr : rnd way neg exp (s : Int) more = signBit neg + core way neg ((s * 2 ^ L : Nat) : Int) (exp - L + 190) more := by
    unfold rnd
    rw [if_neg (by omega), hL, Int.toNat_natCast, hS, if_neg (by omega), if_neg (by omega)]
  have key : ∃ g, g ∣ s * 2 ^ L ∧ g ∣ 2 ^ 39 ∧ ((more = false ∧ p * 2 ^ (a + L) = (s * 2 ^ L) * q * 2 ^ b) ∨ (more = true ∧ (s * 2 ^ L) * q * 2 ^ b < p * 2 ^ (a + L) ∧ p * 2 ^ (a + L) < (s * 2 ^ L + g) * q * 2 ^ b)) := by
    have k1 : p * 2 ^ (a + L) = p * 2 ^ a * 2 ^ L := by rw [Nat.pow_add, Nat.mul_assoc]
    have k2 : (s * 2 ^ L) * q * 2 ^ b = s * q * 2 ^ b * 2 ^ L := by ac_rfl
    have pL := Nat.two_pow_pos L
    rcases hv with ⟨h, e⟩ | ⟨h, hs, v1, v2⟩ | ⟨h, v1, v2⟩
    · exact ⟨1, ⟨s * 2 ^ L, by omega⟩, ⟨2 ^ 39, by omega⟩, .inl ⟨h, by rw [k1, k2, e]⟩⟩
    · refine ⟨2 ^ L, ⟨s, Nat.mul_comm _ _⟩, Nat.pow_dvd_pow 2 (L39 hs), .inr ⟨h, ?_, ?_⟩⟩
      · rw [k1, k2]; exact Nat.mul_lt_mul_of_pos_right v1 pL
      · rw [k1, show (s * 2 ^ L + 2 ^ L) * q * 2 ^ b = (s + 1) * q * 2 ^ b * 2 ^ L by rw [← Nat.succ_mul]; ac_rfl]
        exact Nat.mul_lt_mul_of_pos_right v2 pL
    · refine ⟨1, ⟨s * 2 ^ L, by omega⟩, ⟨2 ^ 39, by omega⟩, .inr ⟨h, ?_, ?_⟩⟩
      · rw [k1, k2]; exact Nat.mul_lt_mul_of_pos_right v1 pL
      · refine Nat.lt_of_mul_lt_mul_right (a := 2 ^ (63 - L)) ?_
        have c1 : p * 2 ^ (a + L) * 2 ^ (63 - L) = p * 2 ^ a * 2 ^ 63 := by
          rw [k1, Nat.mul_assoc, ← Nat.pow_add, show L + (63 - L) = 63 by omega]
        have c2 : s * 2 ^ 63 + 1 ≤ (s * 2 ^ L + 1) * 2 ^ (63 - L) := by
          rw [Nat.add_mul, Nat.mul_assoc, ← Nat.pow_add, show L + (63 - L) = 63 by omega, Nat.one_mul]
          have := Nat.two_pow_pos (63 - L)
          omega
        have c3 : (s * 2 ^ 63 + 1) * q * 2 ^ b ≤ (s * 2 ^ L + 1) * 2 ^ (63 - L) * q * 2 ^ b := Nat.mul_le_mul_right _ (Nat.mul_le_mul_right _ c2)
        have c4 : (s * 2 ^ L + 1) * 2 ^ (63 - L) * q * 2 ^ b = (s * 2 ^ L + 1) * q * 2 ^ b * 2 ^ (63 - L) := by ac_rfl
        omega
  obtain ⟨g, g1, g2, hv'⟩ := key
  obtain ⟨r, c1, c2⟩ := core_RN way neg more (s * 2 ^ L) (exp - L + 190) p q (a + L) b g S0 S1 hq (by omega) g1 g2 hv'
  exact ⟨r, by rw [hr, c1], c2⟩
end Flt
end Go.Proofs.YtkjlhmojdffooaaGreat

/-
  Sums of package soft are the document's: the very sum, rounded once. No program is named here.
-/
namespace Go.Proofs.YtkjlhmojdffooaaGreat
namespace Flt

/-- The document's words for a sum of two amounts with signs. -/
def SumSpec (way : Int) (xn yn : Bool) (X Y : Nat) (res : Int) : Prop :=
  (xn = yn → X + Y = 0 → res = signBit xn) ∧
  (xn = yn → 0 < X + Y → ∃ r : Nat, res = signBit xn + (r : Int) ∧ RN way xn (X + Y) 1 r) ∧
  (xn ≠ yn → X = Y → res = signBit (decide (way = 2))) ∧
  (xn ≠ yn → Y < X → ∃ r : Nat, res = signBit xn + (r : Int) ∧ RN way xn (X - Y) 1 r) ∧
  (xn ≠ yn → X < Y → ∃ r : Nat, res = signBit yn + (r : Int) ∧ RN way yn (Y - X) 1 r)

theorem SumSpec.swap {way : Int} {xn yn : Bool} {X Y : Nat} {res : Int} (h : SumSpec way xn yn X Y res) : SumSpec way yn xn Y X res := by
  obtain ⟨h1, h2, h3, h4, h5⟩ := h
  refine ⟨?_, ?_, ?_, ?_, ?_⟩
  · intro e; subst e; rw [Nat.add_comm]; exact h1 rfl
  · intro e; subst e; rw [Nat.add_comm]; exact h2 rfl
  · intro e f; exact h3 (Ne.symm e) f.symm
  · intro e f; exact h5 (Ne.symm e) f
  · intro e f; exact h4 (Ne.symm e) f

theorem pow_cast (n : Nat) : (2 : Int) ^ n = ((2 ^ n : Nat) : Int) := (Int.natCast_pow 2 n).symm

theorem rnd_exact (way : Int) (neg : Bool) (e : Nat) (s p : Nat) (h0 : 1 ≤ s) (h1 : s < 18446744073709551616) (he : e ≤ 1100) (hp : p = s * 2 ^ e) :
    ∃ r : Nat, rnd way neg ((e : Int) - 149) (s : Int) false = signBit neg + (r : Int) ∧ RN way neg p 1 r :=
  rnd_RN way neg _ s false p 1 0 e h0 h1 (by omega) (by omega) (by decide) (by omega) (.inl ⟨rfl, by rw [hp]; simp⟩)

theorem rnd_more (way : Int) (neg : Bool) (e : Nat) (s p : Nat) (h0 : 16777216 ≤ s) (h1 : s < 18446744073709551616) (he : e ≤ 1100) (hp : s * 2 ^ e < p) (hp2 : p < (s + 1) * 2 ^ e) :
    ∃ r : Nat, rnd way neg ((e : Int) - 149) (s : Int) true = signBit neg + (r : Int) ∧ RN way neg p 1 r :=
  rnd_RN way neg _ s true p 1 0 e (by omega) h1 (by omega) (by omega) (by decide) (by omega) (.inr (.inl ⟨rfl, h0, by simpa using hp, by simpa using hp2⟩))

theorem sum_near_spec (way : Int) (xn yn : Bool) (ex xs ey ys : Nat) (hx : xs < 16777216) (hy : ys < 16777216) (ho : ey ≤ ex) (hg : ex - ey ≤ 39) (hey : ey ≤ 254) :
    SumSpec way xn yn (xs * 2 ^ ex) (ys * 2 ^ ey) (sumOrd way xn ((ex : Int) - 149) (xs : Int) yn ((ey : Int) - 149) (ys : Int)) := by
  have hgap : ((ex : Int) - 149 - ((ey : Int) - 149)).toNat = ex - ey := by omega
  have hB : (xs : Int) * 2 ^ (ex - ey) = ((xs * 2 ^ (ex - ey) : Nat) : Int) := by rw [pow_cast, ← Int.natCast_mul]
  have hX : xs * 2 ^ ex = (xs * 2 ^ (ex - ey)) * 2 ^ ey := by rw [Nat.mul_assoc, ← Nat.pow_add, show ex - ey + ey = ex by omega]
  have hBlt : xs * 2 ^ (ex - ey) < 16777216 * 2 ^ 39 := by
    have h1 : 2 ^ (ex - ey) ≤ 2 ^ 39 := Nat.pow_le_pow_right (by decide) hg
    have h2 : xs * 2 ^ (ex - ey) ≤ xs * 2 ^ 39 := Nat.mul_le_mul_left _ h1
    have h3 : xs * 2 ^ 39 < 16777216 * 2 ^ 39 := Nat.mul_lt_mul_of_pos_right hx (by decide)
    omega
  have e39 : (16777216 : Nat) * 2 ^ 39 = 9223372036854775808 := by decide
  unfold sumOrd
  rw [if_pos (by omega), hgap, hB, hX]
  generalize xs * 2 ^ (ex - ey) = B at *
  have pe := Nat.two_pow_pos ey
  have addm : B * 2 ^ ey + ys * 2 ^ ey = (B + ys) * 2 ^ ey := (Nat.add_mul _ _ _).symm
  have hlt : B * 2 ^ ey < ys * 2 ^ ey ↔ B < ys := ⟨fun h => Nat.lt_of_mul_lt_mul_right h, fun h => Nat.mul_lt_mul_of_pos_right h pe⟩
  have hgt : ys * 2 ^ ey < B * 2 ^ ey ↔ ys < B := ⟨fun h => Nat.lt_of_mul_lt_mul_right h, fun h => Nat.mul_lt_mul_of_pos_right h pe⟩
  refine ⟨?_, ?_, ?_, ?_, ?_⟩
  · intro e f
    rw [if_pos e]
    have : B + ys = 0 := by
      rw [addm] at f
      rcases Nat.mul_eq_zero.1 f with h | h <;> omega
    rw [← Int.natCast_add, this]; simp [rnd]
  · intro e f
    rw [if_pos e, ← Int.natCast_add]
    rw [addm] at f ⊢
    exact rnd_exact way xn ey (B + ys) _ (by rcases Nat.eq_zero_or_pos (B + ys) with h | h; (rw [h] at f; simp at f); exact h) (by omega) (by omega) rfl
  · intro e f
    have : B = ys := Nat.eq_of_mul_eq_mul_right pe f
    rw [if_neg e, if_neg (by omega), if_neg (by omega)]
  · intro e f
    have f' := hgt.1 f
    rw [if_neg e, if_pos (by omega), ← Int.natCast_sub (by omega)]
    exact rnd_exact way xn ey (B - ys) _ (by omega) (by omega) (by omega) (by rw [Nat.sub_mul])
  · intro e f
    have f' := hlt.1 f
    rw [if_neg e, if_neg (by omega), if_pos (by omega), ← Int.natCast_sub (by omega)]
    exact rnd_exact way yn ey (ys - B) _ (by omega) (by omega) (by omega) (by rw [Nat.sub_mul])

theorem sum_far_spec (way : Int) (xn yn : Bool) (ex xs ey ys : Nat) (hx : xs < 16777216) (hxb : 8388608 ≤ xs) (hy : ys < 16777216) (hg : 39 < ex - ey) (hex : ex ≤ 254) :
    SumSpec way xn yn (xs * 2 ^ ex) (ys * 2 ^ ey) (sumOrd way xn ((ex : Int) - 149) (xs : Int) yn ((ey : Int) - 149) (ys : Int)) := by
  obtain ⟨D, hD⟩ : ∃ D, ex = ey + 39 + D := ⟨ex - ey - 39, by omega⟩
  have hgap : ((ex : Int) - 149 - ((ey : Int) - 149) - 39).toNat = D := by omega
  have hQ : (ys : Int) / 2 ^ D = ((ys / 2 ^ D : Nat) : Int) := by rw [pow_cast, ← Int.natCast_ediv]
  have hT : ((ys / 2 ^ D : Nat) : Int) * 2 ^ D = ((ys / 2 ^ D * 2 ^ D : Nat) : Int) := by rw [pow_cast, ← Int.natCast_mul]
  have he : ((ex : Int) - 149) - 39 = ((ey + D : Nat) : Int) - 149 := by omega
  unfold sumOrd
  rw [if_neg (by omega), hgap, hQ, hT, he]
  have pD := Nat.two_pow_pos D
  have pE := Nat.two_pow_pos ey
  have pED := Nat.two_pow_pos (ey + D)
  have hQ1 : ys / 2 ^ D * 2 ^ D ≤ ys := Nat.div_mul_le_self _ _
  have hQ2 : ys < (ys / 2 ^ D + 1) * 2 ^ D := by
    have := Nat.lt_div_mul_add (a := ys) pD
    rw [Nat.add_mul]; omega
  have hQ3 : ys / 2 ^ D ≤ ys := Nat.div_le_self _ _
  have hX : xs * 2 ^ ex = (xs * 549755813888) * 2 ^ (ey + D) := by
    rw [hD, show ey + 39 + D = 39 + (ey + D) by omega, Nat.pow_add, ← Nat.mul_assoc]
  have hYs : ∀ z : Nat, z * 2 ^ D * 2 ^ ey = z * 2 ^ (ey + D) := by
    intro z; rw [Nat.pow_add]; ac_rfl
  rw [hX]
  generalize ys / 2 ^ D = Q at *
  have y1 : Q * 2 ^ (ey + D) ≤ ys * 2 ^ ey := by rw [← hYs]; exact Nat.mul_le_mul_right _ hQ1
  have y2 : ys * 2 ^ ey < (Q + 1) * 2 ^ (ey + D) := by rw [← hYs]; exact Nat.mul_lt_mul_of_pos_right hQ2 pE
  have hbig : (Q + 1) * 2 ^ (ey + D) ≤ xs * 549755813888 * 2 ^ (ey + D) := Nat.mul_le_mul_right _ (by omega)
  have c1 : ((xs : Int) * 549755813888 + (Q : Int)) = ((xs * 549755813888 + Q : Nat) : Int) := by omega
  have c2 : ((xs : Int) * 549755813888 - ((Q : Int) + 1)) = ((xs * 549755813888 - (Q + 1) : Nat) : Int) := by omega
  have c3 : ((xs : Int) * 549755813888 - (Q : Int)) = ((xs * 549755813888 - Q : Nat) : Int) := by omega
  rw [c1, c2, c3]
  by_cases hx2 : Q * 2 ^ D = ys
  · have n1 : decide (((Q * 2 ^ D : Nat) : Int) ≠ (ys : Int)) = false := by simp [hx2]
    have n2 : ¬ ((Q * 2 ^ D : Nat) : Int) ≠ (ys : Int) := by simp [hx2]
    have yq : ys * 2 ^ ey = Q * 2 ^ (ey + D) := by rw [← hYs, hx2]
    rw [n1, yq]
    refine ⟨?_, ?_, ?_, ?_, ?_⟩
    · intro e f
      exfalso
      have : 0 < xs * 549755813888 * 2 ^ (ey + D) := Nat.mul_pos (by omega) pED
      omega
    · intro e f
      rw [if_pos e, ← Nat.add_mul]
      exact rnd_exact way xn (ey + D) _ _ (by omega) (by omega) (by omega) rfl
    · intro e f; exfalso; omega
    · intro e f
      rw [if_neg e, if_neg n2]
      exact rnd_exact way xn (ey + D) _ _ (by omega) (by omega) (by omega) (by rw [Nat.sub_mul])
    · intro e f; exfalso; omega
  · have n1 : decide (((Q * 2 ^ D : Nat) : Int) ≠ (ys : Int)) = true := by
      rw [decide_eq_true_eq]; intro h; exact hx2 (Int.ofNat.inj h)
    have n2 : ((Q * 2 ^ D : Nat) : Int) ≠ (ys : Int) := by intro h; exact hx2 (Int.ofNat.inj h)
    have y3 : Q * 2 ^ (ey + D) < ys * 2 ^ ey := by rw [← hYs]; exact Nat.mul_lt_mul_of_pos_right (by omega) pE
    rw [n1]
    refine ⟨?_, ?_, ?_, ?_, ?_⟩
    · intro e f
      exfalso
      have : 0 < xs * 549755813888 * 2 ^ (ey + D) := Nat.mul_pos (by omega) pED
      omega
    · intro e f
      rw [if_pos e]
      refine rnd_more way xn (ey + D) _ _ (by omega) (by omega) (by omega) ?_ ?_
      · rw [Nat.add_mul]; omega
      · rw [show xs * 549755813888 + Q + 1 = xs * 549755813888 + (Q + 1) by omega, Nat.add_mul]; omega
    · intro e f; exfalso; omega
    · intro e f
      rw [if_neg e, if_pos n2]
      refine rnd_more way xn (ey + D) _ _ (by omega) (by omega) (by omega) ?_ ?_
      · rw [Nat.sub_mul]; omega
      · rw [show xs * 549755813888 - (Q + 1) + 1 = xs * 549755813888 - Q by omega, Nat.sub_mul]; omega
    · intro e f; exfalso; omega
end Flt
end Go.Proofs.YtkjlhmojdffooaaGreat

/-
  AddBy, MulBy and DivBy of package soft are the document's, of all finite floats. No program is named here.
-/
namespace Go.Proofs.YtkjlhmojdffooaaGreat
namespace Flt

/-- A float without its sign. -/
def mg (a : Int) : Nat := (a % 2147483648).toNat
theorem isNaN_not (a : Int) : isNaN a = false ↔ mg a ≤ 2139095040 := by unfold isNaN mg; rw [decide_eq_false_iff_not]; omega
theorem isInf_not (a : Int) : isInf a = false ↔ mg a ≠ 2139095040 := by unfold isInf mg; rw [decide_eq_false_iff_not]; omega
theorem fin_iff (a : Int) : (isNaN a = false ∧ isInf a = false) ↔ mg a < 2139095040 := by rw [isNaN_not, isInf_not]; omega
theorem sgn_signed (n : Bool) (m : Nat) (h : m < 2147483648) : sgn (signBit n + (m : Int)) = n := by
  unfold sgn signBit
  cases n
  · simp; omega
  · simp; omega
theorem mg_signed (n : Bool) (m : Nat) (h : m < 2147483648) : mg (signBit n + (m : Int)) = m := by
  unfold mg signBit
  cases n
  · simp; omega
  · simp; omega
theorem amt (a : Int) (_h0 : 0 ≤ a) (hf : mg a < 2139095040) :
    ∃ e s : Nat, expo a = (e : Int) - 149 ∧ sig a = (s : Int) ∧ s < 16777216 ∧ e ≤ 253 ∧ (0 < e → 8388608 ≤ s) ∧ A (mg a) = s * 2 ^ e ∧ (s = 0 ↔ mg a = 0) := by
  unfold mg at *
  unfold expo sig
  by_cases h : a / 8388608 % 256 = 0
  · refine ⟨0, (a % 8388608).toNat, by rw [if_pos h]; omega, by rw [if_pos h]; omega, by omega, by omega, by omega, ?_, by omega⟩
    have := A_form 0 (a % 8388608).toNat (by omega) (by omega)
    rw [← this]
    congr 1; omega
  · refine ⟨(a / 8388608 % 256 - 1).toNat, (a % 8388608 + 8388608).toNat, by rw [if_neg h]; omega, by rw [if_neg h]; omega, by omega, by omega, by omega, ?_, by omega⟩
    have := A_form (a / 8388608 % 256 - 1).toNat (a % 8388608 + 8388608).toNat (by omega) (by omega)
    rw [← this]
    congr 1; omega

theorem addBy_fin (way a b : Int) (h0 : 0 ≤ a) (g0 : 0 ≤ b) (ha : mg a < 2139095040) (hb : mg b < 2139095040) :
    SumSpec way (sgn a) (sgn b) (A (mg a)) (A (mg b)) (addBy way a b) := by
  obtain ⟨n1, n2⟩ := (fin_iff a).2 ha
  obtain ⟨n3, n4⟩ := (fin_iff b).2 hb
  have hd : addBy way a b = sumM way (sgn a) (expo a) (sig a) (sgn b) (expo b) (sig b) := by simp [addBy, n1, n2, n3, n4]
  rw [hd]
  obtain ⟨ex, xs, x1, x2, x3, x4, x5, x6, _⟩ := amt a h0 ha
  obtain ⟨ey, ys, y1, y2, y3, y4, y5, y6, _⟩ := amt b g0 hb
  rw [x1, x2, y1, y2, x6, y6]
  unfold sumM
  by_cases ho : (ex : Int) - 149 < (ey : Int) - 149
  · rw [if_pos ho]
    refine SumSpec.swap ?_
    by_cases hg : ey - ex ≤ 39
    · exact sum_near_spec way _ _ ey ys ex xs y3 x3 (by omega) hg (by omega)
    · exact sum_far_spec way _ _ ey ys ex xs y3 (y5 (by omega)) x3 (by omega) (by omega)
  · rw [if_neg ho]
    by_cases hg : ex - ey ≤ 39
    · exact sum_near_spec way _ _ ex xs ey ys x3 y3 (by omega) hg (by omega)
    · exact sum_far_spec way _ _ ex xs ey ys x3 (x5 (by omega)) y3 (by omega) (by omega)

end Flt
end Go.Proofs.YtkjlhmojdffooaaGreat

/-
  What follows of sums, products and quotients: changed about, the three ways side by side, order kept, exact differences. No program is named here.
-/
namespace Go.Proofs.YtkjlhmojdffooaaGreat
namespace Flt

theorem sgn_neg (a : Int) (h0 : 0 ≤ a) (h1 : a < 4294967296) : sgn (negF a) = !sgn a := by
  unfold negF sgn
  rw [Bool.eq_iff_iff]; simp; omega
theorem mg_neg (a : Int) : mg (negF a) = mg a := by unfold negF mg; omega
theorem sub_self (a : Int) (h0 : 0 ≤ a) (h1 : a < 4294967296) (ha : mg a < 2139095040) : addBy 0 a (negF a) = 0 := by
  have hn : 0 ≤ negF a := by unfold negF; omega
  obtain ⟨_, _, h3, _, _⟩ := addBy_fin 0 a (negF a) h0 hn ha (by rw [mg_neg]; exact ha)
  rw [mg_neg, sgn_neg a h0 h1] at h3
  have := h3 (by cases sgn a <;> simp) rfl
  rw [this]; simp [signBit]

end Flt
end Go.Proofs.YtkjlhmojdffooaaGreat

/-
  What follows of sums: order is kept, and differences of neighbours in size are exact. No program is named here.
-/
namespace Go.Proofs.YtkjlhmojdffooaaGreat
namespace Flt

theorem RN_exact {way : Int} {neg : Bool} {q m r : Nat} (hq : 0 < q) (hm : m < 2139095040) (h : RN way neg (A m * q) q r) : r = m := by
  obtain ⟨m', m1, rfl⟩ := h
  have e : IsFl (A m * q) q m := ⟨by omega, Nat.le_refl _, fun _ => Nat.mul_lt_mul_of_pos_right (A_lt_succ m) hq⟩
  have := isFl_one m1 e hq
  subst this
  unfold pick
  rw [if_neg (by omega), if_pos (Or.inl rfl)]

/-- The value of a finite float, in units of 2^-149. -/
def val (a : Int) : Int := if sgn a = true then -(A (mg a) : Int) else (A (mg a) : Int)

/-- What fits into 24 bits at a power of two is a float's amount. -/
theorem repr_of (f : Nat) : ∀ d : Nat, d ≤ 16777216 → ∃ m, A m = d * 2 ^ f := by
  induction f with
  | zero => intro d hd; exact ⟨d, by have := A_form 0 d hd (by omega); simpa using this⟩
  | succ f ih =>
    intro d hd
    by_cases h : 8388608 ≤ d
    · exact ⟨(f + 1) * 8388608 + d, A_form (f + 1) d hd (by omega)⟩
    · obtain ⟨m, hm⟩ := ih (2 * d) (by omega)
      exact ⟨m, by rw [hm, Nat.pow_succ]; ac_rfl⟩

end Flt
end Go.Proofs.YtkjlhmojdffooaaGreat

/-
  Round at exponents far out, and the values that the document's answer rounds. No program is named here.
-/
namespace Go.Proofs.YtkjlhmojdffooaaGreat
namespace Flt

end Flt
end Go.Proofs.YtkjlhmojdffooaaGreat

/-
  Sums of amounts in units of any size, rounded once; roots; whole numbers. No program is named here.
-/
namespace Go.Proofs.YtkjlhmojdffooaaGreat
namespace Flt

/-- The document's words for a sum of two amounts with signs, in units of 1 / q of the least float. -/
def SumQ (way : Int) (xn yn : Bool) (X Y q : Nat) (res : Int) : Prop :=
  (xn = yn → X + Y = 0 → res = signBit xn) ∧
  (xn = yn → 0 < X + Y → ∃ r : Nat, res = signBit xn + (r : Int) ∧ RN way xn (X + Y) q r) ∧
  (xn ≠ yn → X = Y → res = signBit (decide (way = 2))) ∧
  (xn ≠ yn → Y < X → ∃ r : Nat, res = signBit xn + (r : Int) ∧ RN way xn (X - Y) q r) ∧
  (xn ≠ yn → X < Y → ∃ r : Nat, res = signBit yn + (r : Int) ∧ RN way yn (Y - X) q r)

/-- A root: m the greatest whose amount's square is at most n. -/
def IsRt (n m : Nat) : Prop := m < 2139095040 ∧ A m * A m ≤ n ∧ n < A (m + 1) * A (m + 1)
theorem isRt_one {n m m' : Nat} (h : IsRt n m) (h' : IsRt n m') : m = m' := by
  have key : ∀ a b : Nat, IsRt n a → IsRt n b → ¬ a < b := by
    intro a b ha hb hlt
    have h1 := A_mono (show a + 1 ≤ b by omega)
    have h2 := Nat.mul_le_mul h1 h1
    have := ha.2.2; have := hb.2.1
    omega
  rcases Nat.lt_trichotomy m m' with h1 | h1 | h1
  · exact absurd h1 (key _ _ h h')
  · exact h1
  · exact absurd h1 (key _ _ h' h)
def pickRt (way : Int) (n m : Nat) : Nat :=
  if A m * A m = n ∨ way = 2 then m
  else if way = 1 then m + 1
  else if (A m + A (m + 1)) * (A m + A (m + 1)) < n * 4 ∨ ((A m + A (m + 1)) * (A m + A (m + 1)) = n * 4 ∧ m % 2 = 1) then m + 1 else m
/-- r: the float that the root of n is rounded to by a way. -/
def RT (way : Int) (n r : Nat) : Prop := ∃ m, IsRt n m ∧ r = pickRt way n m
end Flt
end Go.Proofs.YtkjlhmojdffooaaGreat

/-
  Floats without their broken part. No program is named here.
-/
namespace Go.Proofs.YtkjlhmojdffooaaGreat
namespace Flt

/-- A float without its broken part, as a whole number of 64 bits. -/
def toIntV (a : Int) : Int :=
  if isNaN a = true then 0
  else if 190 ≤ mg a / 8388608 then (if sgn a = true then -9223372036854775808 else 9223372036854775807)
  else if sgn a = true then -((A (mg a) / 2 ^ 149 : Nat) : Int) else ((A (mg a) / 2 ^ 149 : Nat) : Int)
end Flt
end Go.Proofs.YtkjlhmojdffooaaGreat

/-
  Fused products and sums as package round reckons them, in two words, are the document's: the very sum, rounded once. No program is named here.
-/
namespace Go.Proofs.YtkjlhmojdffooaaGreat
namespace Flt

def lowT (s n : Nat) : Nat := s * 2 ^ 64 / 2 ^ n
theorem SumQ.swap {way : Int} {xn yn : Bool} {X Y q : Nat} {res : Int} (h : SumQ way xn yn X Y q res) : SumQ way yn xn Y X q res := by
  obtain ⟨h1, h2, h3, h4, h5⟩ := h
  refine ⟨?_, ?_, ?_, ?_, ?_⟩
  · intro e; subst e; rw [Nat.add_comm]; exact h1 rfl
  · intro e; subst e; rw [Nat.add_comm]; exact h2 rfl
  · intro e f; exact h3 (Ne.symm e) f.symm
  · intro e f; exact h5 (Ne.symm e) f
  · intro e f; exact h4 (Ne.symm e) f

end Flt
end Go.Proofs.YtkjlhmojdffooaaGreat

/-
  The fused product and sum of package round is the document's. No program is named here.
-/
namespace Go.Proofs.YtkjlhmojdffooaaGreat
namespace Flt

end Flt
end Go.Proofs.YtkjlhmojdffooaaGreat

/-
  Whole numbers of floats, roots and powers of two as package round reckons them are the document's. No program is named here.
-/
namespace Go.Proofs.YtkjlhmojdffooaaGreat
namespace Flt

end Flt
end Go.Proofs.YtkjlhmojdffooaaGreat

/-
  Roots as package round reckons them are the document's; powers of two. No program is named here.
-/
namespace Go.Proofs.YtkjlhmojdffooaaGreat
namespace Flt

end Flt
end Go.Proofs.YtkjlhmojdffooaaGreat

/-
  What follows of fused products and sums, and of roots: against sums and products; each is its own canonical form. No program is named here.
-/
namespace Go.Proofs.YtkjlhmojdffooaaGreat
namespace Flt

end Flt
end Go.Proofs.YtkjlhmojdffooaaGreat

/-
  Whole numbers come back, roots and squares: the mathematics of P2.7 and P2.8.
-/
namespace Go.Proofs.YtkjlhmojdffooaaGreat
namespace Flt

theorem rep_lt {n m : Nat} (hn : n ≤ 16777216) (h : A m = n * 2 ^ 149) : m ≤ 1266679808 := by
  have e : A 1266679808 = 16777216 * 2 ^ 149 := by
    have := A_form 150 8388608 (by omega) (by omega)
    rw [show (150 : Nat) * 8388608 + 8388608 = 1266679808 by decide] at this
    rw [this]
  rcases Nat.lt_or_ge 1266679808 m with g | g
  · have := A_strict g
    rw [e, h] at this
    have := Nat.lt_of_mul_lt_mul_right this
    omega
  · exact g

/-- A whole number of at most 2^24 is a float. -/
theorem fromInt_rep (n : Int) (h0 : -16777216 ≤ n) (h1 : n ≤ 16777216) :
    ∃ m : Nat, rnd 0 (decide (n < 0)) 0 (n.natAbs : Int) false = signBit (decide (n < 0)) + (m : Int) ∧ A m = n.natAbs * 2 ^ 149 ∧ m ≤ 1266679808 := by
  by_cases hz : n = 0
  · subst hz
    exact ⟨0, by decide +kernel, by decide +kernel, by omega⟩
  · obtain ⟨v, v1, v2⟩ := rnd_exact 0 (decide (n < 0)) 149 n.natAbs (n.natAbs * 2 ^ 149) (by omega) (by omega) (by omega) rfl
    obtain ⟨m, hm⟩ := repr_of 149 n.natAbs (by omega)
    have hl := rep_lt (by omega) hm
    rw [← hm] at v2
    have e := RN_exact (q := 1) (m := m) (by decide) (by omega) (by rw [Nat.mul_one]; exact v2)
    refine ⟨m, ?_, hm, hl⟩
    rw [← e, ← v1]; rfl

theorem back (n : Int) (h0 : -16777216 ≤ n) (h1 : n ≤ 16777216) : toIntV (rnd 0 (decide (n < 0)) 0 (n.natAbs : Int) false) = n := by
  obtain ⟨m, e, hm, hl⟩ := fromInt_rep n h0 h1
  rw [e]
  unfold toIntV
  have nn : isNaN (signBit (decide (n < 0)) + (m : Int)) = false := by rw [isNaN_not, mg_signed _ _ (by omega)]; omega
  rw [nn, mg_signed _ _ (by omega), sgn_signed _ _ (by omega), hm, Nat.mul_div_cancel _ (Nat.two_pow_pos 149)]
  rw [if_neg (by simp), if_neg (by omega)]
  by_cases hn : n < 0
  · simp only [hn, decide_true, if_true]; omega
  · simp only [hn, decide_false]; simp; omega

theorem le_of_A {x y : Nat} (h : A x ≤ A y) : x ≤ y := by
  rcases Nat.lt_or_ge y x with g | g
  · have := A_strict g; omega
  · exact g

/-- Of a number above 0: its lesser and its greater root, and their squares rounded down and up. -/
theorem roots (n l h rb ra : Nat) (hn : n < 2139095040) (hl : RT 2 (A n * 2 ^ 149) l) (hh : RT 1 (A n * 2 ^ 149) h)
    (hb : RN 2 false (A l * A l) (2 ^ 149) rb) (ha : RN 1 false (A h * A h) (2 ^ 149) ra) : rb ≤ n ∧ n ≤ ra ∧ l ≤ h := by
  obtain ⟨m, i1, rfl⟩ := hl
  obtain ⟨m', i2, rfl⟩ := hh
  have e := isRt_one i1 i2
  subst e
  have e1 : pickRt 2 (A n * 2 ^ 149) m = m := by unfold pickRt; rw [if_pos (.inr rfl)]
  rw [e1] at hb ⊢
  refine ⟨?_, ?_, ?_⟩
  · obtain ⟨k, ⟨k1, k2, k3⟩, rfl⟩ := hb
    have h1 : A k ≤ A n := Nat.le_of_mul_le_mul_right (Nat.le_trans k2 i1.2.1) (Nat.two_pow_pos 149)
    have h2 := le_of_A h1
    unfold pick
    rw [if_neg (by omega), if_pos (.inr rfl)]
    exact h2
  · have hp : A n * 2 ^ 149 ≤ A (pickRt 1 (A n * 2 ^ 149) m) * A (pickRt 1 (A n * 2 ^ 149) m) := by
      unfold pickRt
      by_cases hx : A m * A m = A n * 2 ^ 149
      · rw [if_pos (.inl hx)]; omega
      · rw [if_neg (by rintro (h | h); exact hx h; cases h), if_pos rfl]; have := i2.2.2; omega
    generalize A (pickRt 1 (A n * 2 ^ 149) m) * A (pickRt 1 (A n * 2 ^ 149) m) = p at ha hp
    obtain ⟨k, ⟨k1, k2, k3⟩, rfl⟩ := ha
    unfold pick
    by_cases hi : k = 2139095040
    · rw [if_pos hi, if_neg (by decide)]; omega
    · rw [if_neg hi]
      by_cases hx : A k * 2 ^ 149 = p
      · rw [if_pos (.inl hx)]
        rw [← hx] at hp
        exact le_of_A (Nat.le_of_mul_le_mul_right hp (Nat.two_pow_pos 149))
      · rw [if_neg (by rintro (h | h); exact hx h; cases h), if_pos (by decide)]
        have := Nat.lt_of_le_of_lt hp (k3 (by omega))
        exact le_of_A (Nat.le_of_lt (Nat.lt_of_mul_lt_mul_right this))
  · unfold pickRt; (repeat' split) <;> omega
end Flt
end Go.Proofs.YtkjlhmojdffooaaGreat

/-
  Plain facts on rows of digits (of 32 bits, the lowest first) and the whole numbers that they stand for. No program is named here.
-/
namespace Go.Proofs.YtkjlhmojdffooaaGreat
namespace Dg

end Dg
end Go.Proofs.YtkjlhmojdffooaaGreat
