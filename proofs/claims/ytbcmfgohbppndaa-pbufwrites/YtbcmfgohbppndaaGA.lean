import Derived.Laws.MathBits
import Derived.Laws.BitsAll
import Derived.RowKit

/-
  Plain facts on floats of 32 bits as whole numbers: definitions after the document's words, and bits. No program is named here.
-/
namespace Go.Proofs.Ytbcmfgohbppndaa
namespace Flt

def isNaN (a : Int) : Bool := decide (2139095040 < a % 2147483648)
def isInf (a : Int) : Bool := decide (a % 2147483648 = 2139095040)
def sgn (a : Int) : Bool := decide (2147483648 ≤ a)
def kind (a : Int) : Int := if 2139095040 < a % 2147483648 then 3 else if a % 2147483648 = 2139095040 then 2 else if a % 2147483648 = 0 then 0 else 1
def negF (a : Int) : Int := (a + 2147483648) % 4294967296
def absF (a : Int) : Int := a % 2147483648
def signBit (n : Bool) : Int := if n = true then 2147483648 else 0
def place (a : Int) : Int := if 2147483648 ≤ a then -(a % 2147483648) else a
def lessF (a b : Int) : Bool := !isNaN a && !isNaN b && decide (place a < place b)
def equalF (a b : Int) : Bool := !isNaN a && !isNaN b && (place a == place b)
def canon (a : Int) : Int := if isNaN a = true then 2143289344 else a
def minF (a b : Int) : Int := if isNaN a = true ∨ isNaN b = true then 2143289344 else if place a < place b then a else if place b < place a then b else if 2147483648 ≤ a then a else b
def maxF (a b : Int) : Int := if isNaN a = true ∨ isNaN b = true then 2143289344 else if place a < place b then b else if place b < place a then a else if 2147483648 ≤ a then b else a
/-- The exponent of the last bit, and the bits with the hidden one. -/
def expo (a : Int) : Int := if a / 8388608 % 256 = 0 then -149 else a / 8388608 % 256 - 150
def sig (a : Int) : Int := if a / 8388608 % 256 = 0 then a % 8388608 else a % 8388608 + 8388608

/-- How many noughts stand ahead of the first 1 of 64 bits. -/
def lz (x : Int) : Int := 64 - (bitLen x.toNat : Int)
/-- The bits that are dropped, moved up to the word's head. -/
def restOf (s drop : Int) : Int := if drop ≤ 64 then s * 2 ^ (64 - drop).toNat % 18446744073709551616 else 0
def goesOn (way : Int) (neg : Bool) (s drop : Int) (more : Bool) : Bool :=
  if way = 1 then !neg && !(decide (restOf s drop = 0) && (!more && decide (drop ≤ 64)))
  else if way = 2 then neg && !(decide (restOf s drop = 0) && (!more && decide (drop ≤ 64)))
  else if restOf s drop = 9223372036854775808 ∧ more = false ∧ drop ≤ 64 then decide (s / 2 ^ drop.toNat % 2 = 1) else decide (9223372036854775808 ≤ restOf s drop)
def beyond (way : Int) (neg : Bool) : Int := if (way = 1 ∧ neg = true) ∨ (way = 2 ∧ neg = false) then 2139095039 else 2139095040
/-- Rounding of a word whose first bit is 1, at an exponent field. -/
def core (way : Int) (neg : Bool) (s field : Int) (more : Bool) : Int :=
  if 254 < field then beyond way neg
  else if field < 1 then s / 2 ^ (41 - field).toNat + (if goesOn way neg s (41 - field) more = true then 1 else 0)
  else (field - 1) * 8388608 + s / 1099511627776 + (if goesOn way neg s 40 more = true then 1 else 0)
def rnd (way : Int) (neg : Bool) (exp s : Int) (more : Bool) : Int :=
  if s = 0 then (if more = true then signBit neg + core way neg 9223372036854775808 (-873) true else signBit neg)
  else signBit neg + core way neg (s * 2 ^ (lz s).toNat) ((if exp < -1000 then -1000 else if 1000 < exp then 1000 else exp) - lz s + 190) more

theorem and23 (a : Int) (h0 : 0 ≤ a) (h1 : a < 4294967296) : bits .and .u32 a 8388607 = a % 8388608 := by go_bits2
theorem and8 (a : Int) (h0 : 0 ≤ a) (h1 : a < 4294967296) : bits .and .u32 a 255 = a % 256 := by go_bits2
theorem and1 (a : Int) (h0 : 0 ≤ a) (h1 : a < 18446744073709551616) : bits .and .u64 a 1 = a % 2 := by go_bits2
theorem andNot31 (a : Int) (h0 : 0 ≤ a) (h1 : a < 4294967296) : bits .andNot .u32 a 2147483648 = a % 2147483648 := by go_bits2
theorem or23 (a : Int) (h0 : 0 ≤ a) (h1 : a < 8388608) : bits .or .u64 a 8388608 = a + 8388608 := by go_bits2
theorem or31 (a : Int) (h0 : 0 ≤ a) (h1 : a < 2147483648) : bits .or .u32 2147483648 a = a + 2147483648 := by go_bits2
theorem or0 (a : Int) (h0 : 0 ≤ a) (h1 : a < 4294967296) : bits .or .u32 0 a = a := by go_bits2
theorem nat_xor31 (x : Nat) (h : x < 4294967296) : x ^^^ 2147483648 = (x + 2147483648) % 4294967296 := by
  have hm : (x ^^^ 2147483648) % 2147483648 = x % 2147483648 := by
    have := Nat.xor_mod_two_pow (a := x) (b := 2147483648) (n := 31)
    simpa using this
  have hd : (x ^^^ 2147483648) / 2147483648 = x / 2147483648 ^^^ 1 := by
    have := Nat.xor_div_two_pow (a := x) (b := 2147483648) (n := 31)
    simpa using this
  rcases (by omega : x / 2147483648 = 0 ∨ x / 2147483648 = 1) with hx | hx
  · rw [hx, show (0 ^^^ 1 : Nat) = 1 from rfl] at hd; omega
  · rw [hx, show (1 ^^^ 1 : Nat) = 0 from rfl] at hd; omega
theorem xor31 (a : Int) (h0 : 0 ≤ a) (h1 : a < 4294967296) : bits .xor .u32 a 2147483648 = (a + 2147483648) % 4294967296 := by
  go_bits2
  rw [nat_xor31 _ (by omega)]
  omega
end Flt
end Go.Proofs.Ytbcmfgohbppndaa

/-
  Sums, products and quotients of floats as package soft reckons them, as plain functions on whole numbers. No program is named here.
-/
namespace Go.Proofs.Ytbcmfgohbppndaa
namespace Flt

/-- The sum of two that are taken apart, the first at no lesser exponent. -/
def sumOrd (way : Int) (xn : Bool) (xe xs : Int) (yn : Bool) (ye ys : Int) : Int :=
  if xe - ye ≤ 39 then
    (if xn = yn then rnd way xn ye (xs * 2 ^ (xe - ye).toNat + ys) false
     else if ys < xs * 2 ^ (xe - ye).toNat then rnd way xn ye (xs * 2 ^ (xe - ye).toNat - ys) false
     else if xs * 2 ^ (xe - ye).toNat < ys then rnd way yn ye (ys - xs * 2 ^ (xe - ye).toNat) false
     else signBit (decide (way = 2)))
  else
    (if xn = yn then rnd way xn (xe - 39) (xs * 549755813888 + ys / 2 ^ (xe - ye - 39).toNat) (decide (ys / 2 ^ (xe - ye - 39).toNat * 2 ^ (xe - ye - 39).toNat ≠ ys))
     else if ys / 2 ^ (xe - ye - 39).toNat * 2 ^ (xe - ye - 39).toNat ≠ ys then rnd way xn (xe - 39) (xs * 549755813888 - (ys / 2 ^ (xe - ye - 39).toNat + 1)) true
     else rnd way xn (xe - 39) (xs * 549755813888 - ys / 2 ^ (xe - ye - 39).toNat) false)
def sumM (way : Int) (xn : Bool) (xe xs : Int) (yn : Bool) (ye ys : Int) : Int :=
  if xe < ye then sumOrd way yn ye ys xn xe xs else sumOrd way xn xe xs yn ye ys
def quoM (way : Int) (neg : Bool) (xe xs ye ys : Int) : Int :=
  rnd way neg (xe - lz xs - ye) (xs * 2 ^ (lz xs).toNat / ys) (decide (xs * 2 ^ (lz xs).toNat % ys ≠ 0))

def addBy (way a b : Int) : Int :=
  if isNaN a = true ∨ isNaN b = true then 2143289344
  else if isInf a = true ∧ isInf b = true ∧ a ≠ b then 2143289344
  else if isInf a = true then a
  else if isInf b = true then b
  else sumM way (sgn a) (expo a) (sig a) (sgn b) (expo b) (sig b)
def mulBy (way a b : Int) : Int :=
  if isNaN a = true ∨ isNaN b = true then 2143289344
  else if (isInf a = true ∧ b % 2147483648 = 0) ∨ (a % 2147483648 = 0 ∧ isInf b = true) then 2143289344
  else if isInf a = true ∨ isInf b = true then signBit (sgn a != sgn b) + 2139095040
  else rnd way (sgn a != sgn b) (expo a + expo b) (sig a * sig b) false
def divBy (way a b : Int) : Int :=
  if isNaN a = true ∨ isNaN b = true then 2143289344
  else if (isInf a = true ∧ isInf b = true) ∨ (a % 2147483648 = 0 ∧ b % 2147483648 = 0) then 2143289344
  else if isInf a = true ∨ b % 2147483648 = 0 then signBit (sgn a != sgn b) + 2139095040
  else if isInf b = true ∨ a % 2147483648 = 0 then signBit (sgn a != sgn b)
  else quoM way (sgn a != sgn b) (expo a) (sig a) (expo b) (sig b)

theorem sig_range (a : Int) : 0 ≤ sig a ∧ sig a < 16777216 := by unfold sig; split <;> omega
theorem expo_range (a : Int) : -149 ≤ expo a ∧ expo a ≤ 105 := by unfold expo; split <;> omega
theorem sig_big (a : Int) (h : -149 < expo a) : 8388608 ≤ sig a := by unfold expo at h; unfold sig; split at h <;> split <;> omega
end Flt
end Go.Proofs.Ytbcmfgohbppndaa

/-
  Rounding, as the document words it, on whole numbers: amounts of floats, the greatest float that is not above a number, and the float that a way picks. No program is named here.
-/
namespace Go.Proofs.Ytbcmfgohbppndaa
namespace Flt

/-- The amount of a float without its sign, in units of 2^-149. -/
def A (m : Nat) : Nat := if m < 8388608 then m else (8388608 + m % 8388608) * 2 ^ (m / 8388608 - 1)

theorem A_form (f t : Nat) (ht : t ≤ 16777216) (h : f = 0 ∨ 8388608 ≤ t) : A (f * 8388608 + t) = t * 2 ^ f := by
  unfold A
  by_cases h1 : t < 8388608
  · have hf : f = 0 := by omega
    subst hf
    rw [if_pos (by omega)]; simp
  · rw [if_neg (by omega)]
    by_cases h2 : t = 16777216
    · subst h2
      rw [show (f * 8388608 + 16777216) % 8388608 = 0 by omega, show (f * 8388608 + 16777216) / 8388608 - 1 = f + 1 by omega, Nat.pow_succ]
      generalize 2 ^ f = y
      omega
    · rw [show (f * 8388608 + t) % 8388608 = t - 8388608 by omega, show (f * 8388608 + t) / 8388608 - 1 = f by omega, show 8388608 + (t - 8388608) = t by omega]

theorem A_split (m : Nat) : ∃ f t, m = f * 8388608 + t ∧ t < 16777216 ∧ (f = 0 ∨ 8388608 ≤ t) ∧ f = m / 8388608 - 1 := by
  by_cases h : m < 8388608
  · exact ⟨0, m, by omega, by omega, by omega, by omega⟩
  · exact ⟨m / 8388608 - 1, m - (m / 8388608 - 1) * 8388608, by omega, by omega, by omega, rfl⟩

theorem A_succ (m : Nat) : A (m + 1) = A m + 2 ^ (m / 8388608 - 1) := by
  obtain ⟨f, t, hm, ht, h, hf⟩ := A_split m
  rw [← hf]
  have e1 := A_form f t (by omega) h
  have e2 := A_form f (t + 1) (by omega) (by omega)
  rw [hm, e1, show f * 8388608 + t + 1 = f * 8388608 + (t + 1) by omega, e2, Nat.succ_mul]

theorem A_lt_succ (m : Nat) : A m < A (m + 1) := by
  rw [A_succ]; have := Nat.two_pow_pos (m / 8388608 - 1); omega
theorem A_le_add (m k : Nat) : A m ≤ A (m + k) := by
  induction k with
  | zero => exact Nat.le_refl _
  | succ k ih => have := A_lt_succ (m + k); rw [show m + (k + 1) = m + k + 1 by omega]; omega
theorem A_mono {m n : Nat} (h : m ≤ n) : A m ≤ A n := by
  obtain ⟨k, rfl⟩ := Nat.exists_eq_add_of_le h
  exact A_le_add m k
theorem A_strict {m n : Nat} (h : m < n) : A m < A n := Nat.lt_of_lt_of_le (A_lt_succ m) (A_mono h)
theorem A_inj {m n : Nat} (h : A m = A n) : m = n := by
  rcases Nat.lt_trichotomy m n with h1 | h1 | h1
  · have := A_strict h1; omega
  · exact h1
  · have := A_strict h1; omega
theorem A_zero : A 0 = 0 := rfl
theorem A_inf : A 2139095040 = 8388608 * 2 ^ 254 := A_form 254 8388608 (by omega) (by omega)

/-- m: the greatest float (without a sign; up to the infinite one) whose amount is not above p / q. -/
def IsFl (p q m : Nat) : Prop := m ≤ 2139095040 ∧ A m * q ≤ p ∧ (m < 2139095040 → p < A (m + 1) * q)
theorem isFl_mono {p q p' q' m m' : Nat} (h : IsFl p q m) (h' : IsFl p' q' m') (hq : 0 < q) (hp : p * q' ≤ p' * q) : m ≤ m' := by
  obtain ⟨a1, a2, a3⟩ := h
  obtain ⟨b1, b2, b3⟩ := h'
  rcases Nat.lt_or_ge m' m with hlt | hge
  · exfalso
    have c := b3 (by omega)
    have d := A_mono (show m' + 1 ≤ m by omega)
    have e1 : p' * q < A (m' + 1) * q' * q := Nat.mul_lt_mul_of_pos_right c hq
    have e2 : A (m' + 1) * q' * q ≤ A m * q' * q := Nat.mul_le_mul_right _ (Nat.mul_le_mul_right _ d)
    have e3 : A m * q' * q ≤ p * q' := by
      rw [Nat.mul_right_comm]; exact Nat.mul_le_mul_right _ a2
    omega
  · exact hge
theorem isFl_one {p q m m' : Nat} (h : IsFl p q m) (h' : IsFl p q m') (hq : 0 < q) : m = m' :=
  Nat.le_antisymm (isFl_mono h h' hq (Nat.le_refl _)) (isFl_mono h' h hq (Nat.le_refl _))

def inW (way : Int) (neg : Bool) : Bool := (decide (way = 1) && neg) || (decide (way = 2) && !neg)
def outW (way : Int) (neg : Bool) : Bool := (decide (way = 1) && !neg) || (decide (way = 2) && neg)
/-- The float (without its sign) that a way picks, of m and the next one. -/
def pick (way : Int) (neg : Bool) (p q m : Nat) : Nat :=
  if m = 2139095040 then (if inW way neg = true then 2139095039 else 2139095040)
  else if A m * q = p ∨ inW way neg = true then m
  else if outW way neg = true then m + 1
  else if (A m + A (m + 1)) * q < 2 * p ∨ ((A m + A (m + 1)) * q = 2 * p ∧ m % 2 = 1) then m + 1 else m
/-- r: the float (without its sign) that p / q is rounded to, by a way, with a sign. -/
def RN (way : Int) (neg : Bool) (p q r : Nat) : Prop := ∃ m, IsFl p q m ∧ r = pick way neg p q m

theorem RN_one {way : Int} {neg : Bool} {p q r r' : Nat} (hq : 0 < q) (h : RN way neg p q r) (h' : RN way neg p q r') : r = r' := by
  obtain ⟨m, hm, c⟩ := h
  obtain ⟨m', hm', c'⟩ := h'
  have := isFl_one hm hm' hq
  subst this
  rw [c, c']

/-- What the dropped bits say: S = t * M + r, of p / q = (S + something) / M * (K / q). -/
theorem pick_of {p q m t K M H S g : Nat} {more : Bool} (hA : A m * q = t * K) (hA1 : A (m + 1) * q = (t + 1) * K) (hK : 0 < K) (hH : 0 < H) (hM : M = 2 * H)
    (ht : t = S / M) (hm : m < 2139095040) (gS : g ∣ S) (gH : g ∣ H)
    (hv : (more = false ∧ p * M = S * K) ∨ (more = true ∧ S * K < p * M ∧ p * M < (S + g) * K)) :
    IsFl p q m ∧ (A m * q = p ↔ (more = false ∧ S % M = 0)) ∧ ((A m + A (m + 1)) * q < 2 * p ↔ (H < S % M ∨ (more = true ∧ S % M = H))) ∧
      ((A m + A (m + 1)) * q = 2 * p ↔ (more = false ∧ S % M = H)) := by
  have hMp : 0 < M := by omega
  have hS : t * M + S % M = S := by rw [ht, Nat.mul_comm]; exact Nat.div_add_mod S M
  have hr : S % M < M := Nat.mod_lt _ hMp
  obtain ⟨h, rfl⟩ := gH
  obtain ⟨s, rfl⟩ := gS
  have gpos : 0 < g := by
    rcases Nat.eq_zero_or_pos g with h0 | h0
    · subst h0; simp at hH
    · exact h0
  -- what is dropped is a multiple of g
  have hrg : ∃ r, g * s % M = g * r := by
    refine ⟨s % (2 * h), ?_⟩
    rw [hM, show 2 * (g * h) = g * (2 * h) by ac_rfl, Nat.mul_mod_mul_left]
  obtain ⟨r, hr1⟩ := hrg
  rw [hr1] at hS hr ⊢
  have r1 : g * r < g * h → g * r + g ≤ g * h := by
    intro hlt
    have := Nat.lt_of_mul_lt_mul_left hlt
    have h2 : g * (r + 1) ≤ g * h := Nat.mul_le_mul_left g this
    rw [Nat.mul_add, Nat.mul_one] at h2; exact h2
  have r2 : g * r + g ≤ M := by
    rw [hM, show 2 * (g * h) = g * (2 * h) by ac_rfl] at hr ⊢
    have := Nat.lt_of_mul_lt_mul_left hr
    have h2 : g * (r + 1) ≤ g * (2 * h) := Nat.mul_le_mul_left g this
    rw [Nat.mul_add, Nat.mul_one] at h2; exact h2
  generalize g * r = R at *
  generalize g * s = S at *
  generalize g * h = H at *
  subst hM
  clear ht hr1
  -- all at M times
  have k1 : (t * K) * (2 * H) = (t * (2 * H)) * K := by ac_rfl
  have k2 : ((t + 1) * K) * (2 * H) = ((t + 1) * (2 * H)) * K := by ac_rfl
  have kc : ∀ x y : Nat, x * (2 * H) < y * (2 * H) → x < y := fun x y hxy => Nat.lt_of_mul_lt_mul_right hxy
  have kl : ∀ x y : Nat, x * (2 * H) ≤ y * (2 * H) → x ≤ y := fun x y hxy => Nat.le_of_mul_le_mul_right hxy hMp
  have mK : ∀ x y : Nat, x ≤ y → x * K ≤ y * K := fun x y hxy => Nat.mul_le_mul_right K hxy
  have mKl : ∀ x y : Nat, x < y → x * K < y * K := fun x y hxy => Nat.mul_lt_mul_of_pos_right hxy hK
  have hs1 : (t + 1) * (2 * H) = t * (2 * H) + 2 * H := Nat.succ_mul _ _
  have low : S * K ≤ p * (2 * H) := by rcases hv with ⟨_, e⟩ | ⟨_, e, _⟩ <;> omega
  have up : p * (2 * H) < ((t + 1) * (2 * H)) * K := by
    rcases hv with ⟨_, e⟩ | ⟨_, _, e⟩
    · rw [e]; exact mKl _ _ (by omega)
    · exact Nat.lt_of_lt_of_le e (mK _ _ (by omega))
  have lowT : (t * (2 * H)) * K ≤ S * K := mK _ _ (by omega)
  have h2 : (A m + A (m + 1)) * q = (2 * t + 1) * K := by
    rw [Nat.add_mul, hA, hA1, ← Nat.add_mul]; congr 1; omega
  have hh : (2 * t + 1) * (2 * H) = 2 * (t * (2 * H) + H) := by
    rw [Nat.add_mul, Nat.one_mul, Nat.mul_assoc 2 t (2 * H)]; omega
  have k3 : ((2 * t + 1) * K) * (2 * H) = 2 * ((t * (2 * H) + H) * K) := by
    rw [show (2 * t + 1) * K * (2 * H) = ((2 * t + 1) * (2 * H)) * K by ac_rfl, hh, Nat.mul_assoc]
  have k4 : (2 * p) * (2 * H) = 2 * (p * (2 * H)) := by ac_rfl
  refine ⟨⟨by omega, ?_, fun _ => ?_⟩, ?_, ?_, ?_⟩
  · rw [hA]; apply kl; omega
  · rw [hA1]; apply kc; omega
  · rw [hA]
    constructor
    · intro e
      have e2 : p * (2 * H) = (t * (2 * H)) * K := by rw [← e]; exact k1
      rcases hv with ⟨f, e3⟩ | ⟨f, e3, _⟩
      · refine ⟨f, ?_⟩
        have : S = t * (2 * H) := Nat.eq_of_mul_eq_mul_right hK (by omega)
        omega
      · omega
    · rintro ⟨f, e⟩
      rcases hv with ⟨_, e3⟩ | ⟨f', _, _⟩
      · have : S = t * (2 * H) := by omega
        rw [this] at e3
        exact Nat.eq_of_mul_eq_mul_right hMp (by omega)
      · rw [f] at f'; cases f'
  · rw [h2]
    constructor
    · intro e
      have e2 : ((2 * t + 1) * K) * (2 * H) < (2 * p) * (2 * H) := Nat.mul_lt_mul_of_pos_right e hMp
      have e3 : (t * (2 * H) + H) * K < p * (2 * H) := by omega
      rcases hv with ⟨_, e4⟩ | ⟨f, _, e4⟩
      · left
        rw [e4] at e3
        have := Nat.lt_of_mul_lt_mul_right e3
        omega
      · rcases Nat.lt_or_ge R H with hlt | hge
        · exfalso
          have := mK (S + g) (t * (2 * H) + H) (by have := r1 hlt; omega)
          omega
        · rcases Nat.lt_or_ge H R with h5 | h5
          · left; exact h5
          · right; exact ⟨f, by omega⟩
    · intro e
      apply kc
      rw [k3, k4]
      rcases e with e | ⟨f, e⟩
      · have := mKl (t * (2 * H) + H) S (by omega)
        omega
      · have := mK (t * (2 * H) + H) S (by omega)
        rcases hv with ⟨f', _⟩ | ⟨_, e4, _⟩
        · rw [f] at f'; cases f'
        · omega
  · rw [h2]
    constructor
    · intro e
      have e2 : ((2 * t + 1) * K) * (2 * H) = (2 * p) * (2 * H) := by rw [e]
      have e3 : (t * (2 * H) + H) * K = p * (2 * H) := by omega
      rcases hv with ⟨f, e4⟩ | ⟨f, e4, e5⟩
      · refine ⟨f, ?_⟩
        have : S = t * (2 * H) + H := Nat.eq_of_mul_eq_mul_right hK (by omega)
        omega
      · exfalso
        rcases Nat.lt_or_ge R H with hlt | hge
        · have := mK (S + g) (t * (2 * H) + H) (by have := r1 hlt; omega)
          omega
        · have := mK (t * (2 * H) + H) S (by omega)
          omega
    · rintro ⟨f, e⟩
      rcases hv with ⟨_, e4⟩ | ⟨f', _, _⟩
      · have : S = t * (2 * H) + H := by omega
        rw [this] at e4
        exact Nat.eq_of_mul_eq_mul_right hMp (by omega)
      · rw [f] at f'; cases f'
end Flt
end Go.Proofs.Ytbcmfgohbppndaa

/-
  Rounding as package soft reckons it is rounding as the document words it. No program is named here.
-/
namespace Go.Proofs.Ytbcmfgohbppndaa
namespace Flt

/-- The dropped bits, for a drop of at most 64. -/
theorem rest_nat (S D : Nat) (hD : D ≤ 64) : restOf (S : Int) (D : Int) = ((S % 2 ^ D * 2 ^ (64 - D) : Nat) : Int) := by
  unfold restOf
  rw [if_pos (by omega), show (64 - (D : Int)).toNat = 64 - D by omega]
  have e : (2 : Nat) ^ 64 = 2 ^ D * 2 ^ (64 - D) := by rw [← Nat.pow_add, show D + (64 - D) = 64 by omega]
  have e2 : S * 2 ^ (64 - D) % 2 ^ 64 = S % 2 ^ D * 2 ^ (64 - D) := by rw [e, Nat.mul_mod_mul_right]
  rw [← e2, show (18446744073709551616 : Int) = ((2 ^ 64 : Nat) : Int) by decide, show (2 : Int) ^ (64 - D) = ((2 ^ (64 - D) : Nat) : Int) from (Int.natCast_pow 2 (64 - D)).symm, ← Int.natCast_mul, ← Int.natCast_emod]

theorem rest_zero (S D : Nat) (hD : D ≤ 64) : restOf (S : Int) (D : Int) = 0 ↔ S % 2 ^ D = 0 := by
  rw [rest_nat S D hD]
  have hp := Nat.two_pow_pos (64 - D)
  constructor
  · intro h
    have h2 : S % 2 ^ D * 2 ^ (64 - D) = 0 := by generalize S % 2 ^ D * 2 ^ (64 - D) = X at h ⊢; omega
    rcases Nat.mul_eq_zero.1 h2 with h3 | h3
    · exact h3
    · omega
  · intro h; rw [h]; simp
theorem half_nat (D : Nat) (hD : D ≤ 64) (h1 : 1 ≤ D) : 9223372036854775808 = 2 ^ (D - 1) * 2 ^ (64 - D) := by
  rw [← Nat.pow_add, show D - 1 + (64 - D) = 63 by omega]
theorem rest_half (S D : Nat) (hD : D ≤ 64) (h1 : 1 ≤ D) : restOf (S : Int) (D : Int) = 9223372036854775808 ↔ S % 2 ^ D = 2 ^ (D - 1) := by
  rw [rest_nat S D hD]
  have hp := Nat.two_pow_pos (64 - D)
  have hh := half_nat D hD h1
  constructor
  · intro h
    have h2 : S % 2 ^ D * 2 ^ (64 - D) = 9223372036854775808 := by generalize S % 2 ^ D * 2 ^ (64 - D) = X at h ⊢; omega
    rw [hh] at h2
    exact Nat.eq_of_mul_eq_mul_right hp h2
  · intro h; rw [h, ← hh]; rfl
theorem rest_ge (S D : Nat) (hD : D ≤ 64) (h1 : 1 ≤ D) : 9223372036854775808 ≤ restOf (S : Int) (D : Int) ↔ 2 ^ (D - 1) ≤ S % 2 ^ D := by
  rw [rest_nat S D hD]
  have hp := Nat.two_pow_pos (64 - D)
  have hh := half_nat D hD h1
  constructor
  · intro h
    have h2 : 9223372036854775808 ≤ S % 2 ^ D * 2 ^ (64 - D) := by generalize S % 2 ^ D * 2 ^ (64 - D) = X at h ⊢; omega
    rw [hh] at h2
    exact Nat.le_of_mul_le_mul_right h2 hp
  · intro h
    have h2 : 9223372036854775808 ≤ S % 2 ^ D * 2 ^ (64 - D) := by rw [hh]; exact Nat.mul_le_mul_right _ h
    generalize S % 2 ^ D * 2 ^ (64 - D) = X at h2 ⊢; omega

theorem pow_split (D : Nat) (h : 1 ≤ D) : 2 ^ D = 2 * 2 ^ (D - 1) := by
  rw [← Nat.pow_succ', show (D - 1).succ = D by omega]

/-- Does the amount go on to the next one? By the dropped bits alone. -/
theorem goesOn_iff (way : Int) (neg : Bool) (S D : Nat) (more : Bool) (h0 : 0 < S) (h1 : S < 18446744073709551616) (hD : 40 ≤ D) :
    goesOn way neg (S : Int) (D : Int) more = true ↔
      (way = 1 ∧ neg = false ∧ ¬ (more = false ∧ S % 2 ^ D = 0)) ∨ (way = 2 ∧ neg = true ∧ ¬ (more = false ∧ S % 2 ^ D = 0)) ∨
      (way ≠ 1 ∧ way ≠ 2 ∧ ((more = false ∧ S % 2 ^ D = 2 ^ (D - 1) ∧ S / 2 ^ D % 2 = 1) ∨ (more = true ∧ S % 2 ^ D = 2 ^ (D - 1)) ∨ 2 ^ (D - 1) < S % 2 ^ D)) := by
  unfold goesOn
  by_cases hd : D ≤ 64
  · have hd' : (D : Int) ≤ 64 := by omega
    have q1 : ((S : Int) / 2 ^ (D : Int).toNat % 2 = 1) ↔ S / 2 ^ D % 2 = 1 := by
      rw [Int.toNat_natCast]
      have : ((S / 2 ^ D % 2 : Nat) : Int) = (S : Int) / 2 ^ D % 2 := by push_cast; rfl
      rw [← this]; omega
    simp only [rest_zero S D hd, rest_half S D hd (by omega), rest_ge S D hd (by omega), q1, hd', decide_true, Bool.and_true, and_true]
    by_cases w1 : way = 1
    · subst w1
      cases neg <;> cases more <;> simp
    · by_cases w2 : way = 2
      · subst w2
        cases neg <;> cases more <;> simp
      · rw [if_neg w1, if_neg w2]
        have hp := Nat.two_pow_pos (D - 1)
        cases more
        · by_cases hh : S % 2 ^ D = 2 ^ (D - 1)
          · simp [hh, w1, w2]
          · simp [hh, w1, w2]; omega
        · simp [w1, w2]; omega
  · have hr : restOf (S : Int) (D : Int) = 0 := by unfold restOf; rw [if_neg (by omega)]
    have hd' : ¬ (D : Int) ≤ 64 := by omega
    have hp : 2 ^ 64 ≤ 2 ^ (D - 1) := Nat.pow_le_pow_right (by decide) (by omega)
    have hp2 := pow_split D (by omega)
    have hm : S % 2 ^ D = S := Nat.mod_eq_of_lt (by omega)
    rw [hm, hr]
    simp only [hd', decide_false, Bool.and_false, Bool.not_false, Bool.and_true, and_false, if_false]
    have n0 : S ≠ 0 := by omega
    have n1 : S ≠ 2 ^ (D - 1) := by omega
    have n2 : ¬ 2 ^ (D - 1) < S := by omega
    by_cases w1 : way = 1
    · subst w1; simp [n0]
    · by_cases w2 : way = 2
      · subst w2; simp [n0]
      · simp [w1, w2, n1, n2]

/-- From the value in two powers of two to the value at the drop. -/
theorem at_drop {p S q a b D f g : Nat} {more : Bool} (hF : f + a = D + b)
    (hv : (more = false ∧ p * 2 ^ a = S * q * 2 ^ b) ∨ (more = true ∧ S * q * 2 ^ b < p * 2 ^ a ∧ p * 2 ^ a < (S + g) * q * 2 ^ b)) :
    (more = false ∧ p * 2 ^ D = S * (q * 2 ^ f)) ∨ (more = true ∧ S * (q * 2 ^ f) < p * 2 ^ D ∧ p * 2 ^ D < (S + g) * (q * 2 ^ f)) := by
  have k1 : ∀ x : Nat, x * q * 2 ^ b * 2 ^ D = x * (q * 2 ^ f) * 2 ^ a := by
    intro x
    rw [Nat.mul_assoc (x * q), ← Nat.pow_add, Nat.add_comm b D, ← hF, Nat.pow_add, ← Nat.mul_assoc, Nat.mul_assoc x q]
  have k2 : p * 2 ^ a * 2 ^ D = p * 2 ^ D * 2 ^ a := by ac_rfl
  have pa := Nat.two_pow_pos a
  have pD := Nat.two_pow_pos D
  rcases hv with ⟨h, e⟩ | ⟨h, e1, e2⟩
  · left
    refine ⟨h, Nat.eq_of_mul_eq_mul_right pa ?_⟩
    rw [← k2, e, k1]
  · right
    refine ⟨h, Nat.lt_of_mul_lt_mul_right (a := 2 ^ a) ?_, Nat.lt_of_mul_lt_mul_right (a := 2 ^ a) ?_⟩
    · rw [← k2, ← k1]; exact Nat.mul_lt_mul_of_pos_right e1 pD
    · rw [← k2, ← k1]; exact Nat.mul_lt_mul_of_pos_right e2 pD

/-- The amount that the code picks is the one that the way picks. -/
theorem pick_goes {way : Int} {neg more : Bool} {p q m S D : Nat} (h0 : 0 < S) (h1 : S < 18446744073709551616) (hD : 40 ≤ D) (hm : m < 2139095040)
    (c1 : A m * q = p ↔ (more = false ∧ S % 2 ^ D = 0))
    (c2 : (A m + A (m + 1)) * q < 2 * p ↔ (2 ^ (D - 1) < S % 2 ^ D ∨ (more = true ∧ S % 2 ^ D = 2 ^ (D - 1))))
    (c3 : (A m + A (m + 1)) * q = 2 * p ↔ (more = false ∧ S % 2 ^ D = 2 ^ (D - 1))) (hodd : m % 2 = S / 2 ^ D % 2) :
    pick way neg p q m = m + (if goesOn way neg (S : Int) (D : Int) more = true then 1 else 0) := by
  have hg := goesOn_iff way neg S D more h0 h1 hD
  unfold pick
  rw [if_neg (by omega)]
  simp only [hg, c1, c2, c3, hodd]
  have hp := Nat.two_pow_pos (D - 1)
  by_cases w1 : way = 1
  · subst w1
    cases neg
    · by_cases hx : more = false ∧ S % 2 ^ D = 0
      · simp [hx]
      · simp [inW, outW, hx]
    · simp [inW]
  · by_cases w2 : way = 2
    · subst w2
      cases neg
      · simp [inW]
      · by_cases hx : more = false ∧ S % 2 ^ D = 0
        · simp [hx]
        · simp [inW, outW, hx]
    · have i0 : inW way neg = false := by simp [inW, w1, w2]
      have o0 : outW way neg = false := by simp [outW, w1, w2]
      simp only [i0, o0, w1, w2]
      generalize S % 2 ^ D = R at *
      generalize 2 ^ (D - 1) = H at *
      generalize S / 2 ^ D % 2 = o at *
      clear hg c1 c2 c3 hodd
      by_cases e0 : R = 0 <;> by_cases e1 : H < R <;> by_cases e2 : R = H <;> by_cases e3 : o = 1 <;> first | (exfalso; omega) | (cases more <;> simp [e0, e1, e2, e3]; done) | (cases more <;> simp_all; done) | (cases more <;> simp_all <;> omega)

theorem beyond_pick (way : Int) (neg : Bool) : beyond way neg = ((if inW way neg = true then 2139095039 else 2139095040 : Nat) : Int) := by
  unfold beyond inW
  by_cases w1 : way = 1
  · subst w1; cases neg <;> simp
  · by_cases w2 : way = 2
    · subst w2; cases neg <;> simp
    · simp [w1, w2]

/-- A word whose first bit is 1, at an exponent field, as the code rounds it. -/
theorem core_RN (way : Int) (neg more : Bool) (S : Nat) (F : Int) (p q a b g : Nat) (h0 : 9223372036854775808 ≤ S) (h1 : S < 18446744073709551616) (hq : 0 < q)
    (hF : F - 41 = (b : Int) - a) (gS : g ∣ S) (gH : g ∣ 2 ^ 39)
    (hv : (more = false ∧ p * 2 ^ a = S * q * 2 ^ b) ∨ (more = true ∧ S * q * 2 ^ b < p * 2 ^ a ∧ p * 2 ^ a < (S + g) * q * 2 ^ b)) :
    ∃ r : Nat, core way neg (S : Int) F more = (r : Int) ∧ RN way neg p q r := by
  by_cases f1 : 254 < F
  · refine ⟨_, ?_, 2139095040, ⟨Nat.le_refl _, ?_, fun h => absurd h (Nat.lt_irrefl _)⟩, rfl⟩
    · unfold core pick
      rw [if_pos f1, if_pos rfl]; exact beyond_pick way neg
    · rw [A_inf]
      obtain ⟨c, hc⟩ : ∃ c, b = a + 214 + c := ⟨b - a - 214, by omega⟩
      have low : S * q * 2 ^ b ≤ p * 2 ^ a := by rcases hv with ⟨_, e⟩ | ⟨_, e, _⟩ <;> omega
      have e1 : 9223372036854775808 * q * 2 ^ b ≤ S * q * 2 ^ b := Nat.mul_le_mul_right _ (Nat.mul_le_mul_right _ h0)
      have e2 : 9223372036854775808 * q * 2 ^ b = (9223372036854775808 * 2 ^ 214 * q * 2 ^ c) * 2 ^ a := by
        rw [hc, Nat.pow_add, Nat.pow_add]; ac_rfl
      have e3 : 9223372036854775808 * 2 ^ 214 * q * 2 ^ c ≤ p := Nat.le_of_mul_le_mul_right (by omega) (Nat.two_pow_pos a)
      have e4 : 9223372036854775808 * 2 ^ 214 * q * 1 ≤ 9223372036854775808 * 2 ^ 214 * q * 2 ^ c := Nat.mul_le_mul_left _ (Nat.two_pow_pos c)
      have e5 : 8388608 * 2 ^ 254 = 9223372036854775808 * 2 ^ 214 := by decide
      rw [e5]; omega
  by_cases f2 : F < 1
  · obtain ⟨D, hD⟩ : ∃ D : Nat, (D : Int) = 41 - F := ⟨(41 - F).toNat, by omega⟩
    have hv' := at_drop (f := 0) (D := D) (by omega) hv
    rw [Nat.pow_zero, Nat.mul_one] at hv'
    have ht : S / 2 ^ D < 8388608 := by
      rw [Nat.div_lt_iff_lt_mul (Nat.two_pow_pos D)]
      have : 2 ^ 41 ≤ 2 ^ D := Nat.pow_le_pow_right (by decide) (by omega)
      omega
    have hA : A (S / 2 ^ D) = S / 2 ^ D := by have := A_form 0 (S / 2 ^ D) (by omega) (by omega); simpa using this
    have hA1 : A (S / 2 ^ D + 1) = S / 2 ^ D + 1 := by have := A_form 0 (S / 2 ^ D + 1) (by omega) (by omega); simpa using this
    have gD : g ∣ 2 ^ (D - 1) := Nat.dvd_trans gH (Nat.pow_dvd_pow 2 (by omega))
    have P := pick_of (p := p) (q := q) (m := S / 2 ^ D) (t := S / 2 ^ D) (K := q) (M := 2 ^ D) (H := 2 ^ (D - 1)) (S := S) (g := g) (more := more)
      (by rw [hA]) (by rw [hA1]) hq (Nat.two_pow_pos _) (pow_split D (by omega)) rfl (by omega) gS gD hv'
    obtain ⟨P1, P2, P3, P4⟩ := P
    refine ⟨_, ?_, S / 2 ^ D, P1, rfl⟩
    rw [pick_goes (S := S) (D := D) (more := more) (by omega) h1 (by omega) (by omega) P2 P3 P4 rfl]
    unfold core
    rw [if_neg f1, if_pos f2, ← hD, Int.toNat_natCast]
    have e : (S : Int) / 2 ^ D = ((S / 2 ^ D : Nat) : Int) := by
      rw [Int.natCast_ediv, Int.natCast_pow]; rfl
    rw [e]
    split <;> simp
  · obtain ⟨f, hf⟩ : ∃ f : Nat, (f : Int) = F - 1 := ⟨(F - 1).toNat, by omega⟩
    have hv' := at_drop (f := f) (D := 40) (by omega) hv
    have e40 : (2 : Nat) ^ 40 = 1099511627776 := by decide
    have ht1 : S / 2 ^ 40 < 16777216 := by rw [e40]; omega
    have ht2 : 8388608 ≤ S / 2 ^ 40 := by rw [e40]; omega
    have hA := A_form f (S / 2 ^ 40) (by omega) (by omega)
    have hA1 := A_form f (S / 2 ^ 40 + 1) (by omega) (by omega)
    have P := pick_of (p := p) (q := q) (m := f * 8388608 + S / 2 ^ 40) (t := S / 2 ^ 40) (K := q * 2 ^ f) (M := 2 ^ 40) (H := 2 ^ 39) (S := S) (g := g) (more := more)
      (by rw [hA]; ac_rfl) (by rw [show f * 8388608 + S / 2 ^ 40 + 1 = f * 8388608 + (S / 2 ^ 40 + 1) by omega, hA1]; ac_rfl) (Nat.mul_pos hq (Nat.two_pow_pos _)) (by decide) (by decide) rfl (by omega) gS gH hv'
    obtain ⟨P1, P2, P3, P4⟩ := P
    refine ⟨_, ?_, f * 8388608 + S / 2 ^ 40, P1, rfl⟩
    rw [pick_goes (S := S) (D := 40) (more := more) (by omega) h1 (by omega) (by omega) P2 P3 P4 (by omega)]
    unfold core
    rw [if_neg f1, if_neg f2]
    rw [e40]
    have e : ((S / 1099511627776 : Nat) : Int) = (S : Int) / 1099511627776 := rfl
    rw [show ((40 : Nat) : Int) = 40 from rfl]
    split <;> omega
end Flt
end Go.Proofs.Ytbcmfgohbppndaa

/-
  Round, sums, products and quotients of package soft are the document's: what is rounded is the very value. No program is named here.
-/
namespace Go.Proofs.Ytbcmfgohbppndaa
namespace Flt

theorem lz_nat (s : Nat) (h0 : 1 ≤ s) (h1 : s < 18446744073709551616) :
    ∃ L : Nat, lz (s : Int) = (L : Int) ∧ L ≤ 63 ∧ 9223372036854775808 ≤ s * 2 ^ L ∧ s * 2 ^ L < 18446744073709551616 ∧ (16777216 ≤ s → L ≤ 39) := by
  obtain ⟨s1, s2⟩ := bitLen_spec s
  have s3 := s2 (by omega)
  unfold lz
  rw [Int.toNat_natCast]
  generalize bitLen s = B at *
  have hB : 1 ≤ B := by
    rcases Nat.eq_zero_or_pos B with h | h
    · rw [h] at s1; simp at s1; omega
    · exact h
  have hB2 : B ≤ 64 := by
    rcases Nat.lt_or_ge 64 B with h | h
    · exfalso
      have : 2 ^ 64 ≤ 2 ^ (B - 1) := Nat.pow_le_pow_right (by decide) (by omega)
      omega
    · exact h
  have p1 : (2 : Nat) ^ (B - 1) * 2 ^ (64 - B) = 9223372036854775808 := by
    rw [← Nat.pow_add, show B - 1 + (64 - B) = 63 by omega]
  have p2 : (2 : Nat) ^ B * 2 ^ (64 - B) = 18446744073709551616 := by
    rw [← Nat.pow_add, show B + (64 - B) = 64 by omega]
  have q1 : 2 ^ (B - 1) * 2 ^ (64 - B) ≤ s * 2 ^ (64 - B) := Nat.mul_le_mul_right _ s3
  have q2 : s * 2 ^ (64 - B) < 2 ^ B * 2 ^ (64 - B) := Nat.mul_lt_mul_of_pos_right s1 (Nat.two_pow_pos _)
  rw [p1] at q1
  rw [p2] at q2
  refine ⟨64 - B, by omega, by omega, q1, q2, fun hs => ?_⟩
  rcases Nat.lt_or_ge 39 (64 - B) with h | h
  · exfalso
    have e1 : 2 ^ 40 ≤ 2 ^ (64 - B) := Nat.pow_le_pow_right (by decide) (by omega)
    have e2 : 16777216 * 2 ^ 40 ≤ s * 2 ^ (64 - B) := Nat.mul_le_mul hs e1
    omega
  · exact h

/-- What is rounded: s at an exponent, exactly, or a little more. -/
def Val (p q a b s : Nat) (more : Bool) : Prop :=
  (more = false ∧ p * 2 ^ a = s * q * 2 ^ b) ∨
  (more = true ∧ 16777216 ≤ s ∧ s * q * 2 ^ b < p * 2 ^ a ∧ p * 2 ^ a < (s + 1) * q * 2 ^ b) ∨
  (more = true ∧ s * q * 2 ^ b < p * 2 ^ a ∧ p * 2 ^ a * 2 ^ 63 < (s * 2 ^ 63 + 1) * q * 2 ^ b)

theorem rnd_RN (way : Int) (neg : Bool) (exp : Int) (s : Nat) (more : Bool) (p q a b : Nat) (h0 : 1 ≤ s) (h1 : s < 18446744073709551616)
    (e0 : -1000 ≤ exp) (e1 : exp ≤ 1000) (hq : 0 < q) (hE : exp + 149 = (b : Int) - a) (hv : Val p q a b s more) :
    ∃ r : Nat, rnd way neg exp (s : Int) more = signBit neg + (r : Int) ∧ RN way neg p q r := by
  obtain ⟨L, hL, L1, S0, S1, L39⟩ := lz_nat s h0 h1
  have hS : (s : Int) * 2 ^ L = ((s * 2 ^ L : Nat) : Int) := by rw [Int.natCast_mul, Int.natCast_pow]; rfl
  have hr : rnd way neg exp (s : Int) more = signBit neg + core way neg ((s * 2 ^ L : Nat) : Int) (exp - L + 190) more := by
    unfold rnd
    rw [if_neg (by omega), hL, Int.toNat_natCast, hS, if_neg (by omega), if_neg (by omega)]
  have key : ∃ g, g ∣ s * 2 ^ L ∧ g ∣ 2 ^ 39 ∧ ((more = false ∧ p * 2 ^ (a + L) = (s * 2 ^ L) * q * 2 ^ b) ∨ (more = true ∧ (s * 2 ^ L) * q * 2 ^ b < p * 2 ^ (a + L) ∧ p * 2 ^ (a + L) < (s * 2 ^ L + g) * q * 2 ^ b)) := by
    have k1 : p * 2 ^ (a + L) = p * 2 ^ a * 2 ^ L := by rw [Nat.pow_add, Nat.mul_assoc]
    have k2 : (s * 2 ^ L) * q * 2 ^ b = s * q * 2 ^ b * 2 ^ L := by ac_rfl
    have pL := Nat.two_pow_pos L
    rcases hv with ⟨h, e⟩ | ⟨h, hs, v1, v2⟩ | ⟨h, v1, v2⟩
    · exact ⟨1, ⟨s * 2 ^ L, by omega⟩, ⟨2 ^ 39, by omega⟩, .inl ⟨h, by rw [k1, k2, e]⟩⟩
    · refine ⟨2 ^ L, ⟨s, Nat.mul_comm _ _⟩, Nat.pow_dvd_pow 2 (L39 hs), .inr ⟨h, ?_, ?_⟩⟩
      · rw [k1, k2]; exact Nat.mul_lt_mul_of_pos_right v1 pL
      · rw [k1, show (s * 2 ^ L + 2 ^ L) * q * 2 ^ b = (s + 1) * q * 2 ^ b * 2 ^ L by rw [← Nat.succ_mul]; ac_rfl]
        exact Nat.mul_lt_mul_of_pos_right v2 pL
    · refine ⟨1, ⟨s * 2 ^ L, by omega⟩, ⟨2 ^ 39, by omega⟩, .inr ⟨h, ?_, ?_⟩⟩
      · rw [k1, k2]; exact Nat.mul_lt_mul_of_pos_right v1 pL
      · refine Nat.lt_of_mul_lt_mul_right (a := 2 ^ (63 - L)) ?_
        have c1 : p * 2 ^ (a + L) * 2 ^ (63 - L) = p * 2 ^ a * 2 ^ 63 := by
          rw [k1, Nat.mul_assoc, ← Nat.pow_add, show L + (63 - L) = 63 by omega]
        have c2 : s * 2 ^ 63 + 1 ≤ (s * 2 ^ L + 1) * 2 ^ (63 - L) := by
          rw [Nat.add_mul, Nat.mul_assoc, ← Nat.pow_add, show L + (63 - L) = 63 by omega, Nat.one_mul]
          have := Nat.two_pow_pos (63 - L)
          omega
        have c3 : (s * 2 ^ 63 + 1) * q * 2 ^ b ≤ (s * 2 ^ L + 1) * 2 ^ (63 - L) * q * 2 ^ b := Nat.mul_le_mul_right _ (Nat.mul_le_mul_right _ c2)
        have c4 : (s * 2 ^ L + 1) * 2 ^ (63 - L) * q * 2 ^ b = (s * 2 ^ L + 1) * q * 2 ^ b * 2 ^ (63 - L) := by ac_rfl
        omega
  obtain ⟨g, g1, g2, hv'⟩ := key
  obtain ⟨r, c1, c2⟩ := core_RN way neg more (s * 2 ^ L) (exp - L + 190) p q (a + L) b g S0 S1 hq (by omega) g1 g2 hv'
  exact ⟨r, by rw [hr, c1], c2⟩
end Flt
end Go.Proofs.Ytbcmfgohbppndaa

/-
  Sums of package soft are the document's: the very sum, rounded once. No program is named here.
-/
namespace Go.Proofs.Ytbcmfgohbppndaa
namespace Flt

/-- The document's words for a sum of two amounts with signs. -/
def SumSpec (way : Int) (xn yn : Bool) (X Y : Nat) (res : Int) : Prop :=
  (xn = yn → X + Y = 0 → res = signBit xn) ∧
  (xn = yn → 0 < X + Y → ∃ r : Nat, res = signBit xn + (r : Int) ∧ RN way xn (X + Y) 1 r) ∧
  (xn ≠ yn → X = Y → res = signBit (decide (way = 2))) ∧
  (xn ≠ yn → Y < X → ∃ r : Nat, res = signBit xn + (r : Int) ∧ RN way xn (X - Y) 1 r) ∧
  (xn ≠ yn → X < Y → ∃ r : Nat, res = signBit yn + (r : Int) ∧ RN way yn (Y - X) 1 r)

theorem SumSpec.swap {way : Int} {xn yn : Bool} {X Y : Nat} {res : Int} (h : SumSpec way xn yn X Y res) : SumSpec way yn xn Y X res := by
  obtain ⟨h1, h2, h3, h4, h5⟩ := h
  refine ⟨?_, ?_, ?_, ?_, ?_⟩
  · intro e; subst e; rw [Nat.add_comm]; exact h1 rfl
  · intro e; subst e; rw [Nat.add_comm]; exact h2 rfl
  · intro e f; exact h3 (Ne.symm e) f.symm
  · intro e f; exact h5 (Ne.symm e) f
  · intro e f; exact h4 (Ne.symm e) f

theorem RN_sum_one {way : Int} {xn yn : Bool} {X Y : Nat} {res res' : Int} (h : SumSpec way xn yn X Y res) (h' : SumSpec way xn yn X Y res') : res = res' := by
  obtain ⟨h1, h2, h3, h4, h5⟩ := h
  obtain ⟨g1, g2, g3, g4, g5⟩ := h'
  by_cases e : xn = yn
  · rcases Nat.eq_zero_or_pos (X + Y) with f | f
    · rw [h1 e f, g1 e f]
    · obtain ⟨r, a1, a2⟩ := h2 e f
      obtain ⟨r', b1, b2⟩ := g2 e f
      rw [a1, b1, RN_one (by decide) a2 b2]
  · rcases Nat.lt_trichotomy X Y with f | f | f
    · obtain ⟨r, a1, a2⟩ := h5 e f
      obtain ⟨r', b1, b2⟩ := g5 e f
      rw [a1, b1, RN_one (by decide) a2 b2]
    · rw [h3 e f, g3 e f]
    · obtain ⟨r, a1, a2⟩ := h4 e f
      obtain ⟨r', b1, b2⟩ := g4 e f
      rw [a1, b1, RN_one (by decide) a2 b2]

theorem pow_cast (n : Nat) : (2 : Int) ^ n = ((2 ^ n : Nat) : Int) := (Int.natCast_pow 2 n).symm

theorem rnd_exact (way : Int) (neg : Bool) (e : Nat) (s p : Nat) (h0 : 1 ≤ s) (h1 : s < 18446744073709551616) (he : e ≤ 1100) (hp : p = s * 2 ^ e) :
    ∃ r : Nat, rnd way neg ((e : Int) - 149) (s : Int) false = signBit neg + (r : Int) ∧ RN way neg p 1 r :=
  rnd_RN way neg _ s false p 1 0 e h0 h1 (by omega) (by omega) (by decide) (by omega) (.inl ⟨rfl, by rw [hp]; simp⟩)

theorem rnd_more (way : Int) (neg : Bool) (e : Nat) (s p : Nat) (h0 : 16777216 ≤ s) (h1 : s < 18446744073709551616) (he : e ≤ 1100) (hp : s * 2 ^ e < p) (hp2 : p < (s + 1) * 2 ^ e) :
    ∃ r : Nat, rnd way neg ((e : Int) - 149) (s : Int) true = signBit neg + (r : Int) ∧ RN way neg p 1 r :=
  rnd_RN way neg _ s true p 1 0 e (by omega) h1 (by omega) (by omega) (by decide) (by omega) (.inr (.inl ⟨rfl, h0, by simpa using hp, by simpa using hp2⟩))

theorem sum_near_spec (way : Int) (xn yn : Bool) (ex xs ey ys : Nat) (hx : xs < 16777216) (hy : ys < 16777216) (ho : ey ≤ ex) (hg : ex - ey ≤ 39) (hey : ey ≤ 254) :
    SumSpec way xn yn (xs * 2 ^ ex) (ys * 2 ^ ey) (sumOrd way xn ((ex : Int) - 149) (xs : Int) yn ((ey : Int) - 149) (ys : Int)) := by
  have hgap : ((ex : Int) - 149 - ((ey : Int) - 149)).toNat = ex - ey := by omega
  have hB : (xs : Int) * 2 ^ (ex - ey) = ((xs * 2 ^ (ex - ey) : Nat) : Int) := by rw [pow_cast, ← Int.natCast_mul]
  have hX : xs * 2 ^ ex = (xs * 2 ^ (ex - ey)) * 2 ^ ey := by rw [Nat.mul_assoc, ← Nat.pow_add, show ex - ey + ey = ex by omega]
  have hBlt : xs * 2 ^ (ex - ey) < 16777216 * 2 ^ 39 := by
    have h1 : 2 ^ (ex - ey) ≤ 2 ^ 39 := Nat.pow_le_pow_right (by decide) hg
    have h2 : xs * 2 ^ (ex - ey) ≤ xs * 2 ^ 39 := Nat.mul_le_mul_left _ h1
    have h3 : xs * 2 ^ 39 < 16777216 * 2 ^ 39 := Nat.mul_lt_mul_of_pos_right hx (by decide)
    omega
  have e39 : (16777216 : Nat) * 2 ^ 39 = 9223372036854775808 := by decide
  unfold sumOrd
  rw [if_pos (by omega), hgap, hB, hX]
  generalize xs * 2 ^ (ex - ey) = B at *
  have pe := Nat.two_pow_pos ey
  have addm : B * 2 ^ ey + ys * 2 ^ ey = (B + ys) * 2 ^ ey := (Nat.add_mul _ _ _).symm
  have hlt : B * 2 ^ ey < ys * 2 ^ ey ↔ B < ys := ⟨fun h => Nat.lt_of_mul_lt_mul_right h, fun h => Nat.mul_lt_mul_of_pos_right h pe⟩
  have hgt : ys * 2 ^ ey < B * 2 ^ ey ↔ ys < B := ⟨fun h => Nat.lt_of_mul_lt_mul_right h, fun h => Nat.mul_lt_mul_of_pos_right h pe⟩
  refine ⟨?_, ?_, ?_, ?_, ?_⟩
  · intro e f
    rw [if_pos e]
    have : B + ys = 0 := by
      rw [addm] at f
      rcases Nat.mul_eq_zero.1 f with h | h <;> omega
    rw [← Int.natCast_add, this]; simp [rnd]
  · intro e f
    rw [if_pos e, ← Int.natCast_add]
    rw [addm] at f ⊢
    exact rnd_exact way xn ey (B + ys) _ (by rcases Nat.eq_zero_or_pos (B + ys) with h | h; (rw [h] at f; simp at f); exact h) (by omega) (by omega) rfl
  · intro e f
    have : B = ys := Nat.eq_of_mul_eq_mul_right pe f
    rw [if_neg e, if_neg (by omega), if_neg (by omega)]
  · intro e f
    have f' := hgt.1 f
    rw [if_neg e, if_pos (by omega), ← Int.natCast_sub (by omega)]
    exact rnd_exact way xn ey (B - ys) _ (by omega) (by omega) (by omega) (by rw [Nat.sub_mul])
  · intro e f
    have f' := hlt.1 f
    rw [if_neg e, if_neg (by omega), if_pos (by omega), ← Int.natCast_sub (by omega)]
    exact rnd_exact way yn ey (ys - B) _ (by omega) (by omega) (by omega) (by rw [Nat.sub_mul])

theorem sum_far_spec (way : Int) (xn yn : Bool) (ex xs ey ys : Nat) (hx : xs < 16777216) (hxb : 8388608 ≤ xs) (hy : ys < 16777216) (hg : 39 < ex - ey) (hex : ex ≤ 254) :
    SumSpec way xn yn (xs * 2 ^ ex) (ys * 2 ^ ey) (sumOrd way xn ((ex : Int) - 149) (xs : Int) yn ((ey : Int) - 149) (ys : Int)) := by
  obtain ⟨D, hD⟩ : ∃ D, ex = ey + 39 + D := ⟨ex - ey - 39, by omega⟩
  have hgap : ((ex : Int) - 149 - ((ey : Int) - 149) - 39).toNat = D := by omega
  have hQ : (ys : Int) / 2 ^ D = ((ys / 2 ^ D : Nat) : Int) := by rw [pow_cast, ← Int.natCast_ediv]
  have hT : ((ys / 2 ^ D : Nat) : Int) * 2 ^ D = ((ys / 2 ^ D * 2 ^ D : Nat) : Int) := by rw [pow_cast, ← Int.natCast_mul]
  have he : ((ex : Int) - 149) - 39 = ((ey + D : Nat) : Int) - 149 := by omega
  unfold sumOrd
  rw [if_neg (by omega), hgap, hQ, hT, he]
  have pD := Nat.two_pow_pos D
  have pE := Nat.two_pow_pos ey
  have pED := Nat.two_pow_pos (ey + D)
  have hQ1 : ys / 2 ^ D * 2 ^ D ≤ ys := Nat.div_mul_le_self _ _
  have hQ2 : ys < (ys / 2 ^ D + 1) * 2 ^ D := by
    have := Nat.lt_div_mul_add (a := ys) pD
    rw [Nat.add_mul]; omega
  have hQ3 : ys / 2 ^ D ≤ ys := Nat.div_le_self _ _
  have hX : xs * 2 ^ ex = (xs * 549755813888) * 2 ^ (ey + D) := by
    rw [hD, show ey + 39 + D = 39 + (ey + D) by omega, Nat.pow_add, ← Nat.mul_assoc]
  have hYs : ∀ z : Nat, z * 2 ^ D * 2 ^ ey = z * 2 ^ (ey + D) := by
    intro z; rw [Nat.pow_add]; ac_rfl
  rw [hX]
  generalize ys / 2 ^ D = Q at *
  have y1 : Q * 2 ^ (ey + D) ≤ ys * 2 ^ ey := by rw [← hYs]; exact Nat.mul_le_mul_right _ hQ1
  have y2 : ys * 2 ^ ey < (Q + 1) * 2 ^ (ey + D) := by rw [← hYs]; exact Nat.mul_lt_mul_of_pos_right hQ2 pE
  have hbig : (Q + 1) * 2 ^ (ey + D) ≤ xs * 549755813888 * 2 ^ (ey + D) := Nat.mul_le_mul_right _ (by omega)
  have c1 : ((xs : Int) * 549755813888 + (Q : Int)) = ((xs * 549755813888 + Q : Nat) : Int) := by omega
  have c2 : ((xs : Int) * 549755813888 - ((Q : Int) + 1)) = ((xs * 549755813888 - (Q + 1) : Nat) : Int) := by omega
  have c3 : ((xs : Int) * 549755813888 - (Q : Int)) = ((xs * 549755813888 - Q : Nat) : Int) := by omega
  rw [c1, c2, c3]
  by_cases hx2 : Q * 2 ^ D = ys
  · have n1 : decide (((Q * 2 ^ D : Nat) : Int) ≠ (ys : Int)) = false := by simp [hx2]
    have n2 : ¬ ((Q * 2 ^ D : Nat) : Int) ≠ (ys : Int) := by simp [hx2]
    have yq : ys * 2 ^ ey = Q * 2 ^ (ey + D) := by rw [← hYs, hx2]
    rw [n1, yq]
    refine ⟨?_, ?_, ?_, ?_, ?_⟩
    · intro e f
      exfalso
      have : 0 < xs * 549755813888 * 2 ^ (ey + D) := Nat.mul_pos (by omega) pED
      omega
    · intro e f
      rw [if_pos e, ← Nat.add_mul]
      exact rnd_exact way xn (ey + D) _ _ (by omega) (by omega) (by omega) rfl
    · intro e f; exfalso; omega
    · intro e f
      rw [if_neg e, if_neg n2]
      exact rnd_exact way xn (ey + D) _ _ (by omega) (by omega) (by omega) (by rw [Nat.sub_mul])
    · intro e f; exfalso; omega
  · have n1 : decide (((Q * 2 ^ D : Nat) : Int) ≠ (ys : Int)) = true := by
      rw [decide_eq_true_eq]; intro h; exact hx2 (Int.ofNat.inj h)
    have n2 : ((Q * 2 ^ D : Nat) : Int) ≠ (ys : Int) := by intro h; exact hx2 (Int.ofNat.inj h)
    have y3 : Q * 2 ^ (ey + D) < ys * 2 ^ ey := by rw [← hYs]; exact Nat.mul_lt_mul_of_pos_right (by omega) pE
    rw [n1]
    refine ⟨?_, ?_, ?_, ?_, ?_⟩
    · intro e f
      exfalso
      have : 0 < xs * 549755813888 * 2 ^ (ey + D) := Nat.mul_pos (by omega) pED
      omega
    · intro e f
      rw [if_pos e]
      refine rnd_more way xn (ey + D) _ _ (by omega) (by omega) (by omega) ?_ ?_
      · rw [Nat.add_mul]; omega
      · rw [show xs * 549755813888 + Q + 1 = xs * 549755813888 + (Q + 1) by omega, Nat.add_mul]; omega
    · intro e f; exfalso; omega
    · intro e f
      rw [if_neg e, if_pos n2]
      refine rnd_more way xn (ey + D) _ _ (by omega) (by omega) (by omega) ?_ ?_
      · rw [Nat.sub_mul]; omega
      · rw [show xs * 549755813888 - (Q + 1) + 1 = xs * 549755813888 - Q by omega, Nat.sub_mul]; omega
    · intro e f; exfalso; omega
end Flt
end Go.Proofs.Ytbcmfgohbppndaa

/-
  AddBy, MulBy and DivBy of package soft are the document's, of all finite floats. No program is named here.
-/
namespace Go.Proofs.Ytbcmfgohbppndaa
namespace Flt

/-- A float without its sign. -/
def mg (a : Int) : Nat := (a % 2147483648).toNat
theorem mg_lt (a : Int) : mg a < 2147483648 := by unfold mg; omega
theorem isNaN_iff (a : Int) : isNaN a = true ↔ 2139095040 < mg a := by unfold isNaN mg; rw [decide_eq_true_eq]; omega
theorem isNaN_not (a : Int) : isNaN a = false ↔ mg a ≤ 2139095040 := by unfold isNaN mg; rw [decide_eq_false_iff_not]; omega
theorem isInf_iff (a : Int) : isInf a = true ↔ mg a = 2139095040 := by unfold isInf mg; rw [decide_eq_true_eq]; omega
theorem isInf_not (a : Int) : isInf a = false ↔ mg a ≠ 2139095040 := by unfold isInf mg; rw [decide_eq_false_iff_not]; omega
theorem fin_iff (a : Int) : (isNaN a = false ∧ isInf a = false) ↔ mg a < 2139095040 := by rw [isNaN_not, isInf_not]; omega
theorem signed_eq (a : Int) (h0 : 0 ≤ a) (h1 : a < 4294967296) : a = signBit (sgn a) + (mg a : Int) := by
  unfold signBit sgn mg
  by_cases h : 2147483648 ≤ a
  · simp [h]; omega
  · simp [h]; omega
theorem sgn_signed (n : Bool) (m : Nat) (h : m < 2147483648) : sgn (signBit n + (m : Int)) = n := by
  unfold sgn signBit
  cases n
  · simp; omega
  · simp; omega
theorem mg_signed (n : Bool) (m : Nat) (h : m < 2147483648) : mg (signBit n + (m : Int)) = m := by
  unfold mg signBit
  cases n
  · simp; omega
  · simp; omega
theorem signed_range (n : Bool) (m : Nat) (h : m < 2147483648) : 0 ≤ signBit n + (m : Int) ∧ signBit n + (m : Int) < 4294967296 := by
  unfold signBit; cases n
  · simp; omega
  · simp; omega

theorem amt (a : Int) (_h0 : 0 ≤ a) (hf : mg a < 2139095040) :
    ∃ e s : Nat, expo a = (e : Int) - 149 ∧ sig a = (s : Int) ∧ s < 16777216 ∧ e ≤ 253 ∧ (0 < e → 8388608 ≤ s) ∧ A (mg a) = s * 2 ^ e ∧ (s = 0 ↔ mg a = 0) := by
  unfold mg at *
  unfold expo sig
  by_cases h : a / 8388608 % 256 = 0
  · refine ⟨0, (a % 8388608).toNat, by rw [if_pos h]; omega, by rw [if_pos h]; omega, by omega, by omega, by omega, ?_, by omega⟩
    have := A_form 0 (a % 8388608).toNat (by omega) (by omega)
    rw [← this]
    congr 1; omega
  · refine ⟨(a / 8388608 % 256 - 1).toNat, (a % 8388608 + 8388608).toNat, by rw [if_neg h]; omega, by rw [if_neg h]; omega, by omega, by omega, by omega, ?_, by omega⟩
    have := A_form (a / 8388608 % 256 - 1).toNat (a % 8388608 + 8388608).toNat (by omega) (by omega)
    rw [← this]
    congr 1; omega

theorem addBy_fin (way a b : Int) (h0 : 0 ≤ a) (g0 : 0 ≤ b) (ha : mg a < 2139095040) (hb : mg b < 2139095040) :
    SumSpec way (sgn a) (sgn b) (A (mg a)) (A (mg b)) (addBy way a b) := by
  obtain ⟨n1, n2⟩ := (fin_iff a).2 ha
  obtain ⟨n3, n4⟩ := (fin_iff b).2 hb
  have hd : addBy way a b = sumM way (sgn a) (expo a) (sig a) (sgn b) (expo b) (sig b) := by simp [addBy, n1, n2, n3, n4]
  rw [hd]
  obtain ⟨ex, xs, x1, x2, x3, x4, x5, x6, _⟩ := amt a h0 ha
  obtain ⟨ey, ys, y1, y2, y3, y4, y5, y6, _⟩ := amt b g0 hb
  rw [x1, x2, y1, y2, x6, y6]
  unfold sumM
  by_cases ho : (ex : Int) - 149 < (ey : Int) - 149
  · rw [if_pos ho]
    refine SumSpec.swap ?_
    by_cases hg : ey - ex ≤ 39
    · exact sum_near_spec way _ _ ey ys ex xs y3 x3 (by omega) hg (by omega)
    · exact sum_far_spec way _ _ ey ys ex xs y3 (y5 (by omega)) x3 (by omega) (by omega)
  · rw [if_neg ho]
    by_cases hg : ex - ey ≤ 39
    · exact sum_near_spec way _ _ ex xs ey ys x3 y3 (by omega) hg (by omega)
    · exact sum_far_spec way _ _ ex xs ey ys x3 (x5 (by omega)) y3 (by omega) (by omega)

theorem RN_zero (way : Int) (neg : Bool) (q : Nat) (hq : 0 < q) : RN way neg 0 q 0 := by
  refine ⟨0, ⟨by omega, by simp [A_zero], fun _ => ?_⟩, ?_⟩
  · have : A (0 + 1) = 1 := by have := A_form 0 1 (by omega) (by omega); simpa using this
    rw [this]; omega
  · simp [pick, A_zero]

theorem mulBy_fin (way a b : Int) (h0 : 0 ≤ a) (g0 : 0 ≤ b) (ha : mg a < 2139095040) (hb : mg b < 2139095040) :
    ∃ r : Nat, mulBy way a b = signBit (sgn a != sgn b) + (r : Int) ∧ RN way (sgn a != sgn b) (A (mg a) * A (mg b)) (2 ^ 149) r := by
  obtain ⟨n1, n2⟩ := (fin_iff a).2 ha
  obtain ⟨n3, n4⟩ := (fin_iff b).2 hb
  have hd : mulBy way a b = rnd way (sgn a != sgn b) (expo a + expo b) (sig a * sig b) false := by simp [mulBy, n1, n2, n3, n4]
  rw [hd]
  obtain ⟨ex, xs, x1, x2, x3, x4, x5, x6, _⟩ := amt a h0 ha
  obtain ⟨ey, ys, y1, y2, y3, y4, y5, y6, _⟩ := amt b g0 hb
  rw [x1, x2, y1, y2, x6, y6, ← Int.natCast_mul]
  rcases Nat.eq_zero_or_pos (xs * ys) with hz | hz
  · have e0 : xs * 2 ^ ex * (ys * 2 ^ ey) = 0 := by
      rw [show xs * 2 ^ ex * (ys * 2 ^ ey) = xs * ys * (2 ^ ex * 2 ^ ey) by ac_rfl, hz, Nat.zero_mul]
    rw [hz, e0]
    refine ⟨0, ?_, RN_zero way _ _ (Nat.two_pow_pos _)⟩
    simp [rnd]
  · have hlt : xs * ys < 16777216 * 16777216 := Nat.mul_lt_mul'' x3 y3
    refine rnd_RN way _ _ (xs * ys) false _ (2 ^ 149) 149 (ex + ey) hz (by omega) (by omega) (by omega) (Nat.two_pow_pos _) (by omega) (.inl ⟨rfl, ?_⟩)
    rw [Nat.pow_add]; ac_rfl

theorem divBy_fin (way a b : Int) (h0 : 0 ≤ a) (g0 : 0 ≤ b) (ha : mg a < 2139095040) (hb : mg b < 2139095040) (za : mg a ≠ 0) (zb : mg b ≠ 0) :
    ∃ r : Nat, divBy way a b = signBit (sgn a != sgn b) + (r : Int) ∧ RN way (sgn a != sgn b) (A (mg a) * 2 ^ 149) (A (mg b)) r := by
  obtain ⟨n1, n2⟩ := (fin_iff a).2 ha
  obtain ⟨n3, n4⟩ := (fin_iff b).2 hb
  have z1 : ¬ a % 2147483648 = 0 := by unfold mg at za; omega
  have z2 : ¬ b % 2147483648 = 0 := by unfold mg at zb; omega
  have hd : divBy way a b = quoM way (sgn a != sgn b) (expo a) (sig a) (expo b) (sig b) := by simp [divBy, n1, n2, n3, n4, z1, z2]
  rw [hd]
  obtain ⟨ex, xs, x1, x2, x3, x4, x5, x6, x7⟩ := amt a h0 ha
  obtain ⟨ey, ys, y1, y2, y3, y4, y5, y6, y7⟩ := amt b g0 hb
  rw [x1, x2, y1, y2, x6, y6]
  have xs1 : 1 ≤ xs := by rcases Nat.eq_zero_or_pos xs with h | h; (exact absurd (x7.1 h) za); exact h
  have ys1 : 1 ≤ ys := by rcases Nat.eq_zero_or_pos ys with h | h; (exact absurd (y7.1 h) zb); exact h
  obtain ⟨L, hL, L1, S0, S1, _⟩ := lz_nat xs xs1 (by omega)
  unfold quoM
  rw [hL, Int.toNat_natCast, pow_cast, ← Int.natCast_mul, ← Int.natCast_ediv, ← Int.natCast_emod]
  have dm := Nat.div_add_mod (xs * 2 ^ L) ys
  have dl := Nat.mod_lt (xs * 2 ^ L) (show ys > 0 by omega)
  have qlo : 549755813888 ≤ xs * 2 ^ L / ys := by
    rw [Nat.le_div_iff_mul_le (by omega)]
    have : 549755813888 * ys ≤ 549755813888 * 16777216 := Nat.mul_le_mul_left _ (by omega)
    omega
  have qhi : xs * 2 ^ L / ys ≤ xs * 2 ^ L := Nat.div_le_self _ _
  have hp : xs * 2 ^ ex * 2 ^ 149 * 2 ^ (L + ey) = (xs * 2 ^ L) * (2 ^ ey * 2 ^ (ex + 149)) := by
    rw [Nat.pow_add, Nat.pow_add]; ac_rfl
  generalize hS : xs * 2 ^ L = S at *
  have pp : 0 < 2 ^ ey * 2 ^ (ex + 149) := Nat.mul_pos (Nat.two_pow_pos _) (Nat.two_pow_pos _)
  have hs : ∀ z : Nat, z * (ys * 2 ^ ey) * 2 ^ (ex + 149) = (z * ys) * (2 ^ ey * 2 ^ (ex + 149)) := by
    intro z; rw [← Nat.mul_assoc z, Nat.mul_assoc (z * ys)]
  have hAb : 0 < ys * 2 ^ ey := Nat.mul_pos ys1 (Nat.two_pow_pos _)
  by_cases hr : S % ys = 0
  · have n : decide (((S % ys : Nat) : Int) ≠ 0) = false := by simp [hr]
    rw [n]
    refine rnd_RN way _ _ (S / ys) false _ (ys * 2 ^ ey) (L + ey) (ex + 149) (by omega) (by omega) (by omega) (by omega) hAb (by omega) (.inl ⟨rfl, ?_⟩)
    rw [hp, hs]
    congr 1
    rw [Nat.mul_comm]; omega
  · have n : decide (((S % ys : Nat) : Int) ≠ 0) = true := by
      rw [decide_eq_true_eq]; omega
    rw [n]
    refine rnd_RN way _ _ (S / ys) true _ (ys * 2 ^ ey) (L + ey) (ex + 149) (by omega) (by omega) (by omega) (by omega) hAb (by omega) (.inr (.inl ⟨rfl, by omega, ?_, ?_⟩))
    · rw [hp, hs]
      refine Nat.mul_lt_mul_of_pos_right ?_ pp
      rw [Nat.mul_comm]; omega
    · rw [hp, hs]
      refine Nat.mul_lt_mul_of_pos_right ?_ pp
      rw [Nat.mul_comm, Nat.mul_add]; omega

/-- What is picked is no more than the infinite one. -/
theorem RN_le {way : Int} {neg : Bool} {p q r : Nat} (h : RN way neg p q r) : r ≤ 2139095040 := by
  obtain ⟨m, ⟨m1, _, _⟩, rfl⟩ := h
  unfold pick
  (repeat' split) <;> omega
end Flt
end Go.Proofs.Ytbcmfgohbppndaa

/-
  What follows of sums, products and quotients: changed about, the three ways side by side, order kept, exact differences. No program is named here.
-/
namespace Go.Proofs.Ytbcmfgohbppndaa
namespace Flt

/-- A result: 32 bits; if it is no number, the one. -/
def Good (r : Int) : Prop := 0 ≤ r ∧ r < 4294967296 ∧ (isNaN r = true → r = 2143289344)
theorem good_nan : Good 2143289344 := ⟨by omega, by omega, fun _ => rfl⟩
theorem good_signed (n : Bool) (r : Nat) (h : r ≤ 2139095040) : Good (signBit n + (r : Int)) := by
  obtain ⟨a, b⟩ := signed_range n r (by omega)
  refine ⟨a, b, fun h2 => ?_⟩
  rw [isNaN_iff, mg_signed n r (by omega)] at h2
  omega
theorem canon_good {r : Int} (h : Good r) : canon r = r := by
  unfold canon
  by_cases hn : isNaN r = true
  · rw [if_pos hn, h.2.2 hn]
  · rw [if_neg hn]

theorem good_sum {way : Int} {xn yn : Bool} {X Y : Nat} {res : Int} (h : SumSpec way xn yn X Y res) : Good res := by
  obtain ⟨h1, h2, h3, h4, h5⟩ := h
  have hs : ∀ n : Bool, Good (signBit n) := fun n => by have := good_signed n 0 (by omega); simpa using this
  by_cases e : xn = yn
  · rcases Nat.eq_zero_or_pos (X + Y) with f | f
    · rw [h1 e f]; exact hs _
    · obtain ⟨r, a1, a2⟩ := h2 e f
      rw [a1]; exact good_signed _ _ (RN_le a2)
  · rcases Nat.lt_trichotomy X Y with f | f | f
    · obtain ⟨r, a1, a2⟩ := h5 e f
      rw [a1]; exact good_signed _ _ (RN_le a2)
    · rw [h3 e f]; exact hs _
    · obtain ⟨r, a1, a2⟩ := h4 e f
      rw [a1]; exact good_signed _ _ (RN_le a2)

theorem addBy_good (way a b : Int) (h0 : 0 ≤ a) (h1 : a < 4294967296) (g0 : 0 ≤ b) (g1 : b < 4294967296) : Good (addBy way a b) := by
  by_cases hn : isNaN a = true ∨ isNaN b = true
  · have : addBy way a b = 2143289344 := by unfold addBy; rw [if_pos hn]
    rw [this]; exact good_nan
  · have na : isNaN a = false := by cases h : isNaN a <;> simp_all
    have nb : isNaN b = false := by cases h : isNaN b <;> simp_all
    by_cases hi : isInf a = false ∧ isInf b = false
    · exact good_sum (addBy_fin way a b h0 g0 ((fin_iff a).1 ⟨na, hi.1⟩) ((fin_iff b).1 ⟨nb, hi.2⟩))
    · unfold addBy
      rw [if_neg hn]
      split
      · exact good_nan
      · split
        · exact ⟨h0, h1, fun h => by rw [na] at h; cases h⟩
        · split
          · exact ⟨g0, g1, fun h => by rw [nb] at h; cases h⟩
          · exfalso; simp_all

theorem mulBy_good (way a b : Int) (h0 : 0 ≤ a) (g0 : 0 ≤ b) : Good (mulBy way a b) := by
  by_cases hf : mg a < 2139095040 ∧ mg b < 2139095040
  · obtain ⟨r, e1, e2⟩ := mulBy_fin way a b h0 g0 hf.1 hf.2
    rw [e1]; exact good_signed _ _ (RN_le e2)
  · have hf' : ¬ ((isNaN a = false ∧ isInf a = false) ∧ (isNaN b = false ∧ isInf b = false)) := by rw [fin_iff, fin_iff]; exact hf
    unfold mulBy
    split
    · exact good_nan
    · split
      · exact good_nan
      · split
        · exact good_signed _ 2139095040 (by omega)
        · exfalso; simp_all

theorem divBy_good (way a b : Int) (h0 : 0 ≤ a) (g0 : 0 ≤ b) : Good (divBy way a b) := by
  by_cases hf : (mg a < 2139095040 ∧ mg a ≠ 0) ∧ (mg b < 2139095040 ∧ mg b ≠ 0)
  · obtain ⟨r, e1, e2⟩ := divBy_fin way a b h0 g0 hf.1.1 hf.2.1 hf.1.2 hf.2.2
    rw [e1]; exact good_signed _ _ (RN_le e2)
  · have hf' : ¬ (((isNaN a = false ∧ isInf a = false) ∧ a % 2147483648 ≠ 0) ∧ ((isNaN b = false ∧ isInf b = false) ∧ b % 2147483648 ≠ 0)) := by
      rw [fin_iff, fin_iff]; unfold mg at hf ⊢; omega
    unfold divBy
    split
    · exact good_nan
    · split
      · exact good_nan
      · split
        · exact good_signed _ 2139095040 (by omega)
        · split
          · have := good_signed (sgn a != sgn b) 0 (by omega); simpa using this
          · exfalso; simp_all

theorem addBy_comm (way a b : Int) (h0 : 0 ≤ a) (g0 : 0 ≤ b) : addBy way a b = addBy way b a := by
  by_cases hn : isNaN a = true ∨ isNaN b = true
  · unfold addBy; rw [if_pos hn, if_pos (Or.symm hn)]
  · have na : isNaN a = false := by cases h : isNaN a <;> simp_all
    have nb : isNaN b = false := by cases h : isNaN b <;> simp_all
    by_cases hi : isInf a = false ∧ isInf b = false
    · exact RN_sum_one (addBy_fin way a b h0 g0 ((fin_iff a).1 ⟨na, hi.1⟩) ((fin_iff b).1 ⟨nb, hi.2⟩))
        (addBy_fin way b a g0 h0 ((fin_iff b).1 ⟨nb, hi.2⟩) ((fin_iff a).1 ⟨na, hi.1⟩)).swap
    · unfold addBy
      cases ia : isInf a <;> cases ib : isInf b
      · exact absurd ⟨ia, ib⟩ hi
      · simp [na, nb]
      · simp [na, nb]
      · by_cases e : a = b
        · subst e; rfl
        · have e' : ¬ b = a := fun h => e h.symm
          simp [na, nb, e, e']
theorem mulBy_comm (way a b : Int) : mulBy way a b = mulBy way b a := by
  unfold mulBy
  rw [Int.add_comm (expo b), Int.mul_comm (sig b), show (sgn b != sgn a) = (sgn a != sgn b) by cases sgn a <;> cases sgn b <;> rfl]
  cases isNaN a <;> cases isNaN b <;> cases isInf a <;> cases isInf b <;> first | (simp; done) | simp [or_comm]

theorem sgn_neg (a : Int) (h0 : 0 ≤ a) (h1 : a < 4294967296) : sgn (negF a) = !sgn a := by
  unfold negF sgn
  rw [Bool.eq_iff_iff]; simp; omega
theorem mg_neg (a : Int) : mg (negF a) = mg a := by unfold negF mg; omega
theorem sub_self (a : Int) (h0 : 0 ≤ a) (h1 : a < 4294967296) (ha : mg a < 2139095040) : addBy 0 a (negF a) = 0 := by
  have hn : 0 ≤ negF a := by unfold negF; omega
  obtain ⟨_, _, h3, _, _⟩ := addBy_fin 0 a (negF a) h0 hn ha (by rw [mg_neg]; exact ha)
  rw [mg_neg, sgn_neg a h0 h1] at h3
  have := h3 (by cases sgn a <;> simp) rfl
  rw [this]; simp [signBit]

/-- Side by side: by Down, by Nearest, by Up. -/
theorem RN_three {neg : Bool} {p q d n h : Nat} (hq : 0 < q) (hd : RN 2 neg p q d) (hn : RN 0 neg p q n) (hh : RN 1 neg p q h) :
    d ≤ 2139095040 ∧ n ≤ 2139095040 ∧ h ≤ 2139095040 ∧
    (neg = false → d ≤ n ∧ n ≤ h ∧ (h = d ∨ h = d + 1)) ∧ (neg = true → h ≤ n ∧ n ≤ d ∧ (d = h ∨ d = h + 1)) := by
  refine ⟨RN_le hd, RN_le hn, RN_le hh, ?_⟩
  obtain ⟨m, m1, rfl⟩ := hd
  obtain ⟨m', m2, rfl⟩ := hn
  obtain ⟨m'', m3, rfl⟩ := hh
  have e1 := isFl_one m1 m2 hq
  have e2 := isFl_one m1 m3 hq
  subst e1; subst e2
  have hm := m1.1
  cases neg
  · refine ⟨fun _ => ?_, fun h => (by cases h)⟩
    have i2 : inW 2 false = true := rfl
    have i0 : inW 0 false = false := rfl
    have i1 : inW 1 false = false := rfl
    have o2 : outW 2 false = false := rfl
    have o0 : outW 0 false = false := rfl
    have o1 : outW 1 false = true := rfl
    unfold pick
    rw [i2, i0, i1, o2, o0, o1]
    by_cases hI : m = 2139095040
    · simp [hI]
    · by_cases hx : A m * q = p
      · simp [hI, hx]
      · simp [hI, hx]; (repeat' split) <;> omega
  · refine ⟨fun h => (by cases h), fun _ => ?_⟩
    have i2 : inW 2 true = false := rfl
    have i0 : inW 0 true = false := rfl
    have i1 : inW 1 true = true := rfl
    have o2 : outW 2 true = true := rfl
    have o0 : outW 0 true = false := rfl
    have o1 : outW 1 true = false := rfl
    unfold pick
    rw [i2, i0, i1, o2, o0, o1]
    by_cases hI : m = 2139095040
    · simp [hI]
    · by_cases hx : A m * q = p
      · simp [hI, hx]
      · simp [hI, hx]; (repeat' split) <;> omega
end Flt
end Go.Proofs.Ytbcmfgohbppndaa

/-
  What follows of sums: order is kept, and differences of neighbours in size are exact. No program is named here.
-/
namespace Go.Proofs.Ytbcmfgohbppndaa
namespace Flt

theorem RN_mono {way : Int} {neg : Bool} {p p' q r r' : Nat} (hq : 0 < q) (hp : p ≤ p') (h : RN way neg p q r) (h' : RN way neg p' q r') : r ≤ r' := by
  obtain ⟨m, m1, rfl⟩ := h
  obtain ⟨m', m2, rfl⟩ := h'
  have hm : m ≤ m' := isFl_mono m1 m2 hq (Nat.mul_le_mul_right _ hp)
  have b1 := m1.1
  have b2 := m2.1
  have l1 := m1.2.1
  have l2 := m2.2.1
  rcases Nat.lt_or_ge m m' with hlt | hge
  · unfold pick
    cases inW way neg
    · simp only [Bool.false_eq_true, or_false, if_false]
      (repeat' split) <;> omega
    · simp only [or_true, if_true]
      (repeat' split) <;> omega
  · have e : m = m' := by omega
    subst e
    unfold pick
    by_cases hI : m = 2139095040
    · simp [hI]
    · rw [if_neg hI, if_neg hI]
      cases inW way neg
      · cases outW way neg
        · simp only [Bool.false_eq_true, or_false, if_false]
          (repeat' split) <;> omega
        · simp only [Bool.false_eq_true, or_false, if_true]
          (repeat' split) <;> omega
      · simp

theorem RN_exact {way : Int} {neg : Bool} {q m r : Nat} (hq : 0 < q) (hm : m < 2139095040) (h : RN way neg (A m * q) q r) : r = m := by
  obtain ⟨m', m1, rfl⟩ := h
  have e : IsFl (A m * q) q m := ⟨by omega, Nat.le_refl _, fun _ => Nat.mul_lt_mul_of_pos_right (A_lt_succ m) hq⟩
  have := isFl_one m1 e hq
  subst this
  unfold pick
  rw [if_neg (by omega), if_pos (Or.inl rfl)]

/-- The value of a finite float, in units of 2^-149. -/
def val (a : Int) : Int := if sgn a = true then -(A (mg a) : Int) else (A (mg a) : Int)

theorem place_signed (n : Bool) (m : Nat) (h : m < 2147483648) : place (signBit n + (m : Int)) = if n = true then -(m : Int) else (m : Int) := by
  unfold place signBit
  cases n
  · simp; omega
  · simp; omega
theorem place_eq_mg (a : Int) (h0 : 0 ≤ a) (h1 : a < 4294967296) : place a = if sgn a = true then -(mg a : Int) else (mg a : Int) := by
  have := place_signed (sgn a) (mg a) (mg_lt a)
  rw [← signed_eq a h0 h1] at this
  exact this

theorem val_lt {a b : Int} (h0 : 0 ≤ a) (h1 : a < 4294967296) (g0 : 0 ≤ b) (g1 : b < 4294967296) (h : place a < place b) : val a < val b := by
  rw [place_eq_mg a h0 h1, place_eq_mg b g0 g1] at h
  unfold val
  have pos : ∀ m, 0 < m → 0 < A m := fun m hm => by have := A_strict hm; rw [A_zero] at this; exact this
  cases hs : sgn a <;> cases ht : sgn b <;> rw [hs, ht] at h <;> simp only [Bool.false_eq_true, if_true, if_false] at h ⊢
  · have := A_strict (show mg a < mg b by omega); omega
  · omega
  · have := pos (mg a); have := pos (mg b); omega
  · have := A_strict (show mg b < mg a by omega); omega

/-- A sum by its value. -/
theorem addBy_val (way a b : Int) (h0 : 0 ≤ a) (g0 : 0 ≤ b) (ha : mg a < 2139095040) (hb : mg b < 2139095040) :
    (val a + val b = 0 → ∃ n : Bool, addBy way a b = signBit n) ∧
    (0 < val a + val b → ∃ r : Nat, addBy way a b = signBit false + (r : Int) ∧ RN way false (val a + val b).toNat 1 r) ∧
    (val a + val b < 0 → ∃ r : Nat, addBy way a b = signBit true + (r : Int) ∧ RN way true (-(val a + val b)).toNat 1 r) := by
  obtain ⟨h1, h2, h3, h4, h5⟩ := addBy_fin way a b h0 g0 ha hb
  generalize addBy way a b = res at *
  unfold val
  generalize A (mg a) = X at *
  generalize A (mg b) = Y at *
  cases hs : sgn a <;> cases ht : sgn b <;> rw [hs, ht] at h1 h2 h3 h4 h5 <;> simp only [Bool.false_eq_true, if_true, if_false]
  · refine ⟨fun e => ⟨false, h1 rfl (by omega)⟩, fun e => ?_, fun e => by omega⟩
    rw [show ((X : Int) + (Y : Int)).toNat = X + Y by omega]
    exact h2 rfl (by omega)
  · refine ⟨fun e => ⟨_, h3 (by simp) (by omega)⟩, fun e => ?_, fun e => ?_⟩
    · rw [show ((X : Int) + -(Y : Int)).toNat = X - Y by omega]
      exact h4 (by simp) (by omega)
    · rw [show (-((X : Int) + -(Y : Int))).toNat = Y - X by omega]
      exact h5 (by simp) (by omega)
  · refine ⟨fun e => ⟨_, h3 (by simp) (by omega)⟩, fun e => ?_, fun e => ?_⟩
    · rw [show (-(X : Int) + (Y : Int)).toNat = Y - X by omega]
      exact h5 (by simp) (by omega)
    · rw [show (-(-(X : Int) + (Y : Int))).toNat = X - Y by omega]
      exact h4 (by simp) (by omega)
  · refine ⟨fun e => ⟨true, h1 rfl (by omega)⟩, fun e => by omega, fun e => ?_⟩
    rw [show (-(-(X : Int) + -(Y : Int))).toNat = X + Y by omega]
    exact h2 rfl (by omega)

theorem place_signBit (n : Bool) : place (signBit n) = 0 := by
  have := place_signed n 0 (by omega)
  simpa using this

/-- Order is kept, of finite ones. -/
theorem keeps_fin (way a b c : Int) (h0 : 0 ≤ a) (h1 : a < 4294967296) (g0 : 0 ≤ b) (g1 : b < 4294967296) (k0 : 0 ≤ c)
    (ha : mg a < 2139095040) (hb : mg b < 2139095040) (hc : mg c < 2139095040) (h : place a < place b) :
    place (addBy way a c) ≤ place (addBy way b c) := by
  have hv := val_lt h0 h1 g0 g1 h
  obtain ⟨a1, a2, a3⟩ := addBy_val way a c h0 k0 ha hc
  obtain ⟨b1, b2, b3⟩ := addBy_val way b c g0 k0 hb hc
  have hv2 : val a + val c < val b + val c := by omega
  generalize val a + val c = u at *
  generalize val b + val c = v at *
  have pf : ∀ r : Nat, r ≤ 2139095040 → place (signBit false + (r : Int)) = (r : Int) := fun r hr => by
    have := place_signed false r (by omega); simpa using this
  have pt : ∀ r : Nat, r ≤ 2139095040 → place (signBit true + (r : Int)) = -(r : Int) := fun r hr => by
    have := place_signed true r (by omega); simpa using this
  rcases Int.lt_trichotomy u 0 with hu | hu | hu
  · obtain ⟨r, e1, e2⟩ := a3 hu
    rw [e1, pt r (RN_le e2)]
    rcases Int.lt_trichotomy v 0 with hw | hw | hw
    · obtain ⟨r', f1, f2⟩ := b3 hw
      rw [f1, pt r' (RN_le f2)]
      have := RN_mono (by decide) (show (-v).toNat ≤ (-u).toNat by omega) f2 e2
      omega
    · obtain ⟨n, f1⟩ := b1 hw
      rw [f1, place_signBit]; omega
    · obtain ⟨r', f1, f2⟩ := b2 hw
      rw [f1, pf r' (RN_le f2)]; omega
  · obtain ⟨n, e1⟩ := a1 hu
    rw [e1, place_signBit]
    obtain ⟨r', f1, f2⟩ := b2 (by omega)
    rw [f1, pf r' (RN_le f2)]; omega
  · obtain ⟨r, e1, e2⟩ := a2 hu
    obtain ⟨r', f1, f2⟩ := b2 (by omega)
    rw [e1, f1, pf r (RN_le e2), pf r' (RN_le f2)]
    have := RN_mono (by decide) (show u.toNat ≤ v.toNat by omega) e2 f2
    omega

/-- What fits into 24 bits at a power of two is a float's amount. -/
theorem repr_of (f : Nat) : ∀ d : Nat, d ≤ 16777216 → ∃ m, A m = d * 2 ^ f := by
  induction f with
  | zero => intro d hd; exact ⟨d, by have := A_form 0 d hd (by omega); simpa using this⟩
  | succ f ih =>
    intro d hd
    by_cases h : 8388608 ≤ d
    · exact ⟨(f + 1) * 8388608 + d, A_form (f + 1) d hd (by omega)⟩
    · obtain ⟨m, hm⟩ := ih (2 * d) (by omega)
      exact ⟨m, by rw [hm, Nat.pow_succ]; ac_rfl⟩

theorem sterb (x y : Nat) (h1 : A y ≤ A x) (h2 : A x ≤ 2 * A y) : ∃ d, A d = A x - A y ∧ d ≤ y := by
  have hle : y ≤ x := by
    rcases Nat.lt_or_ge x y with h | h
    · have := A_strict h; omega
    · exact h
  obtain ⟨f, t, e1, e2, e3, e4⟩ := A_split x
  obtain ⟨g, u, d1, d2, d3, d4⟩ := A_split y
  have hx : A x = t * 2 ^ f := by rw [e1]; exact A_form f t (by omega) e3
  have hy : A y = u * 2 ^ g := by rw [d1]; exact A_form g u (by omega) d3
  have hgf : g ≤ f := by omega
  have hx2 : A x = (t * 2 ^ (f - g)) * 2 ^ g := by rw [hx, Nat.mul_assoc, ← Nat.pow_add, show f - g + g = f by omega]
  have pg := Nat.two_pow_pos g
  have k : A x - A y = (t * 2 ^ (f - g) - u) * 2 ^ g := by rw [hx2, hy, Nat.sub_mul]
  have hd : t * 2 ^ (f - g) - u ≤ u := by
    have : (t * 2 ^ (f - g) - u) * 2 ^ g ≤ u * 2 ^ g := by rw [← k, ← hy]; omega
    exact Nat.le_of_mul_le_mul_right this pg
  obtain ⟨m, hm⟩ := repr_of g (t * 2 ^ (f - g) - u) (by omega)
  refine ⟨m, by rw [hm, k], ?_⟩
  rcases Nat.lt_or_ge y m with h | h
  · exfalso
    have := A_strict h
    rw [hm, ← k] at this
    omega
  · exact h

/-- Twice an amount is an amount, or beyond all. -/
theorem twice_of (x : Nat) : ∃ m, A m = 2 * A x := by
  obtain ⟨f, t, e1, e2, e3, e4⟩ := A_split x
  have hx : A x = t * 2 ^ f := by rw [e1]; exact A_form f t (by omega) e3
  obtain ⟨m, hm⟩ := repr_of (f + 1) t (by omega)
  exact ⟨m, by rw [hm, hx, Nat.pow_succ]; ac_rfl⟩

/-- Where the nearest double of x is not less than y, twice x's amount is not less than y's. -/
theorem twice_ge (x y r : Nat) (hy : y < 2139095040) (h : RN 0 false (2 * A x) 1 r) (hr : y ≤ r) : A y ≤ 2 * A x := by
  rcases Nat.lt_or_ge (2 * A x) (A y) with hlt | hge
  · exfalso
    obtain ⟨m, hm⟩ := twice_of x
    have hmy : m < y := by
      rcases Nat.lt_or_ge m y with h | h
      · exact h
      · have := A_mono h; omega
    have := RN_exact (q := 1) (by decide) (show m < 2139095040 by omega) (by rw [hm, Nat.mul_one]; exact h)
    omega
  · exact hge
end Flt
end Go.Proofs.Ytbcmfgohbppndaa

/-
  Round at exponents far out, and the values that the document's answer rounds. No program is named here.
-/
namespace Go.Proofs.Ytbcmfgohbppndaa
namespace Flt

/-- What lies below half of the least float. -/
theorem RN_tiny (way : Int) (neg : Bool) (p q : Nat) (h0 : 0 < p) (h1 : 2 * p < q) : RN way neg p q (if outW way neg = true then 1 else 0) := by
  have a1 : A 1 = 1 := by have := A_form 0 1 (by omega) (by omega); simpa using this
  refine ⟨0, ⟨by omega, by rw [A_zero]; omega, fun _ => by rw [a1]; omega⟩, ?_⟩
  symm
  unfold pick
  rw [if_neg (by omega), A_zero, a1]
  by_cases hi : inW way neg = true
  · have ho : outW way neg = false := by
      unfold inW at hi; unfold outW
      cases neg <;> simp at hi ⊢ <;> omega
    rw [if_pos (.inr hi), ho]; simp
  · rw [if_neg (fun h => h.elim (fun h => by omega) hi)]
    by_cases ho : outW way neg = true
    · rw [if_pos ho, if_pos ho]
    · rw [if_neg ho, if_neg ho, if_neg (by omega)]

theorem core_low (way : Int) (neg more : Bool) (S : Nat) (F : Int) (h0 : 9223372036854775808 ≤ S) (h1 : S < 18446744073709551616) (hF : F ≤ -24) :
    core way neg (S : Int) F more = ((if outW way neg = true then 1 else 0 : Nat) : Int) := by
  obtain ⟨D, hD⟩ : ∃ D : Nat, (D : Int) = 41 - F := ⟨(41 - F).toNat, by omega⟩
  unfold core
  rw [if_neg (by omega), if_pos (by omega), ← hD, Int.toNat_natCast]
  have hp : 2 ^ 64 ≤ 2 ^ (D - 1) := Nat.pow_le_pow_right (by decide) (by omega)
  have hp2 := pow_split D (by omega)
  have hz : (S : Int) / 2 ^ D = 0 := by
    rw [pow_cast, ← Int.natCast_ediv, Nat.div_eq_of_lt (by omega)]; rfl
  have hm : S % 2 ^ D = S := Nat.mod_eq_of_lt (by omega)
  have hg := goesOn_iff way neg S D more (by omega) h1 (by omega)
  rw [hm] at hg
  have hiff : goesOn way neg (S : Int) (D : Int) more = true ↔ outW way neg = true := by
    rw [hg]
    have n0 : S ≠ 0 := by omega
    have n1 : S ≠ 2 ^ (D - 1) := by omega
    have n2 : ¬ 2 ^ (D - 1) < S := by omega
    unfold outW
    cases neg <;> simp [n0, n1, n2]
  rw [hz]
  by_cases ho : outW way neg = true
  · rw [if_pos (hiff.2 ho), if_pos ho]; rfl
  · rw [if_neg (fun h => ho (hiff.1 h)), if_neg ho]; rfl

theorem lz_int (s : Nat) (h0 : 1 ≤ s) (h1 : s < 18446744073709551616) : ∃ L : Nat, lz (s : Int) = (L : Int) ∧ L ≤ 63 ∧ 9223372036854775808 ≤ s * 2 ^ L ∧ s * 2 ^ L < 18446744073709551616 := by
  obtain ⟨L, a, b, c, d, _⟩ := lz_nat s h0 h1
  exact ⟨L, a, b, c, d⟩

theorem rnd_form (way : Int) (neg : Bool) (exp : Int) (s : Nat) (more : Bool) (L : Nat) (h0 : 1 ≤ s) (hL : lz (s : Int) = (L : Int)) :
    rnd way neg exp (s : Int) more = signBit neg + core way neg ((s * 2 ^ L : Nat) : Int) ((if exp < -1000 then -1000 else if 1000 < exp then 1000 else exp) - L + 190) more := by
  have hS : (s : Int) * 2 ^ L = ((s * 2 ^ L : Nat) : Int) := by rw [Int.natCast_mul, Int.natCast_pow]; rfl
  unfold rnd
  rw [if_neg (by omega), hL, Int.toNat_natCast, hS]

theorem rnd_high (way : Int) (neg : Bool) (exp : Int) (s : Nat) (more : Bool) (h0 : 1 ≤ s) (h1 : s < 18446744073709551616) (he : 300 ≤ exp) : rnd way neg exp (s : Int) more = rnd way neg 300 (s : Int) more := by
  obtain ⟨L, hL, l1, _, _⟩ := lz_int s h0 h1
  rw [rnd_form way neg exp s more L h0 hL, rnd_form way neg 300 s more L h0 hL]
  congr 1
  unfold core
  rw [if_pos (by (repeat' split) <;> omega), if_pos (by (repeat' split) <;> omega)]
theorem rnd_low (way : Int) (neg : Bool) (exp : Int) (s : Nat) (more : Bool) (h0 : 1 ≤ s) (h1 : s < 18446744073709551616) (he : exp ≤ -700) : rnd way neg exp (s : Int) more = rnd way neg (-700) (s : Int) more := by
  obtain ⟨L, hL, l1, l2, l3⟩ := lz_int s h0 h1
  rw [rnd_form way neg exp s more L h0 hL, rnd_form way neg (-700) s more L h0 hL,
    core_low way neg more (s * 2 ^ L) _ l2 l3 (by (repeat' split) <;> omega), core_low way neg more (s * 2 ^ L) _ l2 l3 (by (repeat' split) <;> omega)]

theorem rnd_none (way : Int) (neg : Bool) (exp : Int) (k : Nat) (hk : 2 ≤ k) : ∃ r : Nat, rnd way neg exp 0 true = signBit neg + (r : Int) ∧ RN way neg 1 (1 * 2 ^ k) r := by
  refine ⟨_, ?_, RN_tiny way neg 1 (1 * 2 ^ k) (by omega) ?_⟩
  · unfold rnd
    rw [if_pos rfl, if_pos rfl]
    have := core_low way neg true 9223372036854775808 (-873) (by omega) (by omega) (by omega)
    rw [← this]; rfl
  · have : 2 ^ 2 ≤ 2 ^ k := Nat.pow_le_pow_right (by decide) hk
    omega

/-- The values that the document's answer rounds. -/
theorem rnd_up (way : Int) (neg : Bool) (e s : Nat) (h0 : 1 ≤ s) (h1 : s < 18446744073709551616) (he : e ≤ 449) :
    ∃ r : Nat, rnd way neg ((e : Int) - 149) (s : Int) false = signBit neg + (r : Int) ∧ RN way neg (s * 2 ^ e) 1 r := rnd_exact way neg e s _ h0 h1 (by omega) rfl
theorem rnd_down (way : Int) (neg : Bool) (k s : Nat) (h0 : 1 ≤ s) (h1 : s < 18446744073709551616) (hk : k ≤ 551) :
    ∃ r : Nat, rnd way neg (-149 - (k : Int)) (s : Int) false = signBit neg + (r : Int) ∧ RN way neg s (1 * 2 ^ k) r :=
  rnd_RN way neg _ s false s (1 * 2 ^ k) k 0 h0 h1 (by omega) (by omega) (by have := Nat.two_pow_pos k; omega) (by omega) (.inl ⟨rfl, by simp⟩)
theorem more_ineq (s X : Nat) (hX : 0 < X) : (s * 2 ^ 80 + 1) * X * 2 ^ 63 < (s * 2 ^ 63 + 1) * 2 ^ 80 * X := by
  have e1 : (s * 2 ^ 80 + 1) * X * 2 ^ 63 = ((s * 2 ^ 80 + 1) * 2 ^ 63) * X := by ac_rfl
  rw [e1]
  refine Nat.mul_lt_mul_of_pos_right ?_ hX
  have e2 : (s * 2 ^ 80 + 1) * 2 ^ 63 = s * 2 ^ 143 + 2 ^ 63 := by rw [Nat.add_mul, Nat.mul_assoc, ← Nat.pow_add, Nat.one_mul]
  have e3 : (s * 2 ^ 63 + 1) * 2 ^ 80 = s * 2 ^ 143 + 2 ^ 80 := by rw [Nat.add_mul, Nat.mul_assoc, ← Nat.pow_add, Nat.one_mul]
  have : 2 ^ 63 < 2 ^ 80 := by decide
  omega
theorem rnd_up_more (way : Int) (neg : Bool) (e s : Nat) (h0 : 1 ≤ s) (h1 : s < 18446744073709551616) (he : e ≤ 449) :
    ∃ r : Nat, rnd way neg ((e : Int) - 149) (s : Int) true = signBit neg + (r : Int) ∧ RN way neg ((s * 2 ^ 80 + 1) * 2 ^ e) (1 * 2 ^ 80) r := by
  refine rnd_RN way neg _ s true _ (1 * 2 ^ 80) 0 e h0 h1 (by omega) (by omega) (by decide) (by omega) (.inr (.inr ⟨rfl, ?_, ?_⟩))
  · rw [Nat.one_mul, Nat.pow_zero, Nat.mul_one]
    exact Nat.mul_lt_mul_of_pos_right (by omega) (Nat.two_pow_pos e)
  · rw [Nat.one_mul, Nat.pow_zero, Nat.mul_one]
    exact more_ineq s (2 ^ e) (Nat.two_pow_pos e)
theorem rnd_down_more (way : Int) (neg : Bool) (k s : Nat) (h0 : 1 ≤ s) (h1 : s < 18446744073709551616) (hk : k ≤ 551) :
    ∃ r : Nat, rnd way neg (-149 - (k : Int)) (s : Int) true = signBit neg + (r : Int) ∧ RN way neg (s * 2 ^ 80 + 1) (1 * 2 ^ 80 * 2 ^ k) r := by
  have hk0 := Nat.two_pow_pos k
  refine rnd_RN way neg _ s true _ (1 * 2 ^ 80 * 2 ^ k) k 0 h0 h1 (by omega) (by omega) (Nat.mul_pos (by decide) hk0) (by omega) (.inr (.inr ⟨rfl, ?_, ?_⟩))
  · rw [Nat.one_mul, Nat.pow_zero, Nat.mul_one, ← Nat.mul_assoc]
    exact Nat.mul_lt_mul_of_pos_right (by omega) hk0
  · rw [Nat.one_mul, Nat.pow_zero, Nat.mul_one, ← Nat.mul_assoc (s * 2 ^ 63 + 1)]
    exact more_ineq s (2 ^ k) hk0
end Flt
end Go.Proofs.Ytbcmfgohbppndaa

/-
  Sums of amounts in units of any size, rounded once; roots; whole numbers. No program is named here.
-/
namespace Go.Proofs.Ytbcmfgohbppndaa
namespace Flt

/-- The document's words for a sum of two amounts with signs, in units of 1 / q of the least float. -/
def SumQ (way : Int) (xn yn : Bool) (X Y q : Nat) (res : Int) : Prop :=
  (xn = yn → X + Y = 0 → res = signBit xn) ∧
  (xn = yn → 0 < X + Y → ∃ r : Nat, res = signBit xn + (r : Int) ∧ RN way xn (X + Y) q r) ∧
  (xn ≠ yn → X = Y → res = signBit (decide (way = 2))) ∧
  (xn ≠ yn → Y < X → ∃ r : Nat, res = signBit xn + (r : Int) ∧ RN way xn (X - Y) q r) ∧
  (xn ≠ yn → X < Y → ∃ r : Nat, res = signBit yn + (r : Int) ∧ RN way yn (Y - X) q r)

theorem SumQ_one {way : Int} {xn yn : Bool} {X Y q : Nat} {res res' : Int} (hq : 0 < q) (h : SumQ way xn yn X Y q res) (h' : SumQ way xn yn X Y q res') : res = res' := by
  obtain ⟨h1, h2, h3, h4, h5⟩ := h
  obtain ⟨g1, g2, g3, g4, g5⟩ := h'
  by_cases e : xn = yn
  · rcases Nat.eq_zero_or_pos (X + Y) with f | f
    · rw [h1 e f, g1 e f]
    · obtain ⟨r, a1, a2⟩ := h2 e f
      obtain ⟨r', b1, b2⟩ := g2 e f
      rw [a1, b1, RN_one hq a2 b2]
  · rcases Nat.lt_trichotomy X Y with f | f | f
    · obtain ⟨r, a1, a2⟩ := h5 e f
      obtain ⟨r', b1, b2⟩ := g5 e f
      rw [a1, b1, RN_one hq a2 b2]
    · rw [h3 e f, g3 e f]
    · obtain ⟨r, a1, a2⟩ := h4 e f
      obtain ⟨r', b1, b2⟩ := g4 e f
      rw [a1, b1, RN_one hq a2 b2]

theorem good_sumQ {way : Int} {xn yn : Bool} {X Y q : Nat} {res : Int} (h : SumQ way xn yn X Y q res) : Good res := by
  obtain ⟨h1, h2, h3, h4, h5⟩ := h
  have hs : ∀ n : Bool, Good (signBit n) := fun n => by have := good_signed n 0 (by omega); simpa using this
  by_cases e : xn = yn
  · rcases Nat.eq_zero_or_pos (X + Y) with f | f
    · rw [h1 e f]; exact hs _
    · obtain ⟨r, a1, a2⟩ := h2 e f
      rw [a1]; exact good_signed _ _ (RN_le a2)
  · rcases Nat.lt_trichotomy X Y with f | f | f
    · obtain ⟨r, a1, a2⟩ := h5 e f
      rw [a1]; exact good_signed _ _ (RN_le a2)
    · rw [h3 e f]; exact hs _
    · obtain ⟨r, a1, a2⟩ := h4 e f
      rw [a1]; exact good_signed _ _ (RN_le a2)

/-- What a number, made finer by a factor, is rounded to. -/
theorem IsFl_scale {p q m c : Nat} (hc : 0 < c) : IsFl (p * c) (q * c) m ↔ IsFl p q m := by
  unfold IsFl
  have e1 : ∀ x : Nat, x * (q * c) ≤ p * c ↔ x * q ≤ p := fun x => by
    rw [← Nat.mul_assoc]; exact ⟨fun h => Nat.le_of_mul_le_mul_right h hc, fun h => Nat.mul_le_mul_right c h⟩
  have e2 : ∀ x : Nat, p * c < x * (q * c) ↔ p < x * q := fun x => by
    rw [← Nat.mul_assoc]; exact ⟨fun h => Nat.lt_of_mul_lt_mul_right h, fun h => Nat.mul_lt_mul_of_pos_right h hc⟩
  rw [e1, e2]
theorem pick_scale (way : Int) (neg : Bool) (p q m c : Nat) (hc : 0 < c) : pick way neg (p * c) (q * c) m = pick way neg p q m := by
  unfold pick
  have e1 : A m * (q * c) = p * c ↔ A m * q = p := by
    rw [← Nat.mul_assoc]; exact ⟨fun h => Nat.eq_of_mul_eq_mul_right hc h, fun h => by rw [h]⟩
  have e2 : (A m + A (m + 1)) * (q * c) < 2 * (p * c) ↔ (A m + A (m + 1)) * q < 2 * p := by
    rw [← Nat.mul_assoc, ← Nat.mul_assoc]; exact ⟨fun h => Nat.lt_of_mul_lt_mul_right h, fun h => Nat.mul_lt_mul_of_pos_right h hc⟩
  have e3 : (A m + A (m + 1)) * (q * c) = 2 * (p * c) ↔ (A m + A (m + 1)) * q = 2 * p := by
    rw [← Nat.mul_assoc, ← Nat.mul_assoc]; exact ⟨fun h => Nat.eq_of_mul_eq_mul_right hc h, fun h => by rw [h]⟩
  simp only [e1, e2, e3]
/-- Rounding hangs on the value alone. -/
theorem RN_scale {way : Int} {neg : Bool} {p q r c : Nat} (hc : 0 < c) : RN way neg (p * c) (q * c) r ↔ RN way neg p q r := by
  unfold RN
  constructor
  · rintro ⟨m, h1, h2⟩
    exact ⟨m, (IsFl_scale hc).1 h1, by rw [h2, pick_scale way neg p q m c hc]⟩
  · rintro ⟨m, h1, h2⟩
    exact ⟨m, (IsFl_scale hc).2 h1, by rw [h2, pick_scale way neg p q m c hc]⟩

/-- A root: m the greatest whose amount's square is at most n. -/
def IsRt (n m : Nat) : Prop := m < 2139095040 ∧ A m * A m ≤ n ∧ n < A (m + 1) * A (m + 1)
theorem isRt_one {n m m' : Nat} (h : IsRt n m) (h' : IsRt n m') : m = m' := by
  have key : ∀ a b : Nat, IsRt n a → IsRt n b → ¬ a < b := by
    intro a b ha hb hlt
    have h1 := A_mono (show a + 1 ≤ b by omega)
    have h2 := Nat.mul_le_mul h1 h1
    have := ha.2.2; have := hb.2.1
    omega
  rcases Nat.lt_trichotomy m m' with h1 | h1 | h1
  · exact absurd h1 (key _ _ h h')
  · exact h1
  · exact absurd h1 (key _ _ h' h)
def pickRt (way : Int) (n m : Nat) : Nat :=
  if A m * A m = n ∨ way = 2 then m
  else if way = 1 then m + 1
  else if (A m + A (m + 1)) * (A m + A (m + 1)) < n * 4 ∨ ((A m + A (m + 1)) * (A m + A (m + 1)) = n * 4 ∧ m % 2 = 1) then m + 1 else m
/-- r: the float that the root of n is rounded to by a way. -/
def RT (way : Int) (n r : Nat) : Prop := ∃ m, IsRt n m ∧ r = pickRt way n m
theorem RT_one {way : Int} {n r r' : Nat} (h : RT way n r) (h' : RT way n r') : r = r' := by
  obtain ⟨m, h1, h2⟩ := h
  obtain ⟨m', g1, g2⟩ := h'
  have := isRt_one h1 g1
  subst this
  rw [h2, g2]
end Flt
end Go.Proofs.Ytbcmfgohbppndaa

/-
  Floats without their broken part. No program is named here.
-/
namespace Go.Proofs.Ytbcmfgohbppndaa
namespace Flt

theorem cut_up (E f : Nat) (h : 150 ≤ E) : f * 2 ^ (E - 1) / 2 ^ 149 = f * 2 ^ (E - 150) := by
  have e : f * 2 ^ (E - 1) = f * 2 ^ (E - 150) * 2 ^ 149 := by rw [Nat.mul_assoc, ← Nat.pow_add, show E - 150 + 149 = E - 1 by omega]
  rw [e, Nat.mul_div_cancel _ (Nat.two_pow_pos 149)]
theorem cut_down (E f : Nat) (h1 : 1 ≤ E) (h2 : E ≤ 150) : f * 2 ^ (E - 1) / 2 ^ 149 = f / 2 ^ (150 - E) := by
  have e : (2 : Nat) ^ 149 = 2 ^ (150 - E) * 2 ^ (E - 1) := by rw [← Nat.pow_add, show 150 - E + (E - 1) = 149 by omega]
  rw [e, Nat.mul_div_mul_right _ _ (Nat.two_pow_pos (E - 1))]
/-- The bits and the exponent that are cut, of a float without its sign. -/
def cutE (m : Nat) : Nat := if m / 8388608 = 0 then 1 else m / 8388608
def cutF (m : Nat) : Nat := if m / 8388608 = 0 then m % 8388608 else m % 8388608 + 8388608
theorem A_cut (m : Nat) : A m = cutF m * 2 ^ (cutE m - 1) := by
  unfold A cutE cutF
  by_cases h : m < 8388608
  · rw [if_pos h, if_pos (by omega), if_pos (by omega), Nat.mod_eq_of_lt h]; simp
  · rw [if_neg h, if_neg (by omega), if_neg (by omega), Nat.add_comm]
theorem cutF_lt (m : Nat) : cutF m < 16777216 := by unfold cutF; split <;> omega
theorem cut_lt (m : Nat) (h : m / 8388608 < 190) : A m / 2 ^ 149 < 9223372036854775808 := by
  rw [Nat.div_lt_iff_lt_mul (Nat.two_pow_pos 149), A_cut]
  have h1 := cutF_lt m
  have h2 : cutE m ≤ 189 := by unfold cutE; split <;> omega
  have h3 : 2 ^ (cutE m - 1) ≤ 2 ^ 188 := Nat.pow_le_pow_right (by decide) (by omega)
  have h4 : cutF m * 2 ^ (cutE m - 1) ≤ cutF m * 2 ^ 188 := Nat.mul_le_mul_left _ h3
  have h5 : cutF m * 2 ^ 188 < 16777216 * 2 ^ 188 := Nat.mul_lt_mul_of_pos_right h1 (Nat.two_pow_pos 188)
  have h6 : 16777216 * 2 ^ 188 = 9223372036854775808 * 2 ^ 149 := by decide
  omega
/-- A float without its broken part, as a whole number of 64 bits. -/
def toIntV (a : Int) : Int :=
  if isNaN a = true then 0
  else if 190 ≤ mg a / 8388608 then (if sgn a = true then -9223372036854775808 else 9223372036854775807)
  else if sgn a = true then -((A (mg a) / 2 ^ 149 : Nat) : Int) else ((A (mg a) / 2 ^ 149 : Nat) : Int)
/-- The root where nothing is rounded. -/
def sqrtX (a : Int) : Int := if isNaN a = true then 2143289344 else if absF a = 0 ∨ a = 2139095040 then a else 2143289344
/-- The fused product and sum where not all are finite. -/
def fmaX (a b c : Int) : Int :=
  if (isNaN a || isNaN b || isNaN c || isNaN (mulBy 0 a b)) = true then 2143289344
  else if (isInf a || isInf b) = true then (if (isInf c && (sgn c != (sgn a != sgn b))) = true then 2143289344 else mulBy 0 a b)
  else c
theorem div_cast (F k : Nat) : ((F / 2 ^ k : Nat) : Int) = (F : Int) / 2 ^ k := by rw [pow_cast, ← Int.natCast_ediv]
theorem half_step (f j : Nat) : f / 2 ^ j / 2 = f / 2 ^ (j + 1) := by rw [Nat.pow_succ, Nat.div_div_eq_div_mul]
end Flt
end Go.Proofs.Ytbcmfgohbppndaa

/-
  Fused products and sums as package round reckons them, in two words, are the document's: the very sum, rounded once. No program is named here.
-/
namespace Go.Proofs.Ytbcmfgohbppndaa
namespace Flt

/-- Two words, and whether there is more, rounded. -/
def narrowM (way : Int) (neg : Bool) (exp : Int) (T : Nat) (more : Bool) : Int :=
  rnd way neg (exp - (64 - (bitLen (T / 2 ^ 64) : Int))) ((T / 2 ^ bitLen (T / 2 ^ 64) : Nat) : Int) (more || decide (T % 2 ^ bitLen (T / 2 ^ 64) ≠ 0))
def lowT (s n : Nat) : Nat := s * 2 ^ 64 / 2 ^ n
def lowM (s n : Nat) : Bool := decide (s * 2 ^ 64 % 2 ^ n ≠ 0)
def upM (b : Bool) : Nat := if b = true then 1 else 0
/-- The sum of two whose first bits stand alike, the first at no lesser exponent. -/
def sumW (way : Int) (xn : Bool) (xe : Int) (xs : Nat) (yn : Bool) (ye : Int) (ys : Nat) : Int :=
  if xn = yn then narrowM way xn xe (xs * 2 ^ 64 + lowT ys (xe - ye).toNat) (lowM ys (xe - ye).toNat)
  else if xs * 2 ^ 64 = lowT ys (xe - ye).toNat + upM (lowM ys (xe - ye).toNat) then signBit (decide (way = 2))
  else narrowM way xn xe (xs * 2 ^ 64 - (lowT ys (xe - ye).toNat + upM (lowM ys (xe - ye).toNat))) (lowM ys (xe - ye).toNat)
def sumV (way : Int) (xn : Bool) (xe : Int) (xs : Nat) (yn : Bool) (ye : Int) (ys : Nat) : Int :=
  if xe < ye ∨ (xe = ye ∧ xs < ys) then sumW way yn ye ys xn xe xs else sumW way xn xe xs yn ye ys
/-- A number shifted until its first bit is the word's second one. -/
def topS (s : Nat) : Nat := s * 2 ^ (63 - bitLen s)
def topE (exp : Int) (s : Nat) : Int := exp - (63 - (bitLen s : Int))
def fmaC (way a b c : Int) : Int :=
  if (isNaN (mulBy way a b) || isNaN c) = true then 2143289344
  else if ((isInf a || isInf b) && isInf c && (c != mulBy way a b)) = true then 2143289344
  else if (isInf a || isInf b) = true then mulBy way a b
  else if isInf c = true then c
  else if sig a * sig b = 0 ∧ sig c = 0 ∧ (sgn a != sgn b) ≠ sgn c then signBit (decide (way = 2))
  else if sig a * sig b = 0 then c
  else if sig c = 0 then mulBy way a b
  else sumV way (sgn a != sgn b) (topE (expo a + expo b) (sig a * sig b).toNat) (topS (sig a * sig b).toNat) (sgn c) (topE (expo c) (sig c).toNat) (topS (sig c).toNat)

theorem narrow_spec (way : Int) (neg : Bool) (e K T p : Nat) (more : Bool) (hT0 : 0 < T) (hT1 : T < 2 ^ 128) (hm : more = true → 2 ^ 64 ≤ T) (he : 64 ≤ e) (he1 : e ≤ 1000) (hK : 149 ≤ K) (hK1 : K ≤ 900)
    (hp : (more = false ∧ p = T * 2 ^ (e - 64)) ∨ (more = true ∧ T * 2 ^ (e - 64) < p ∧ p < (T + 1) * 2 ^ (e - 64))) :
    ∃ r : Nat, narrowM way neg ((e : Int) - K) T more = signBit neg + (r : Int) ∧ RN way neg p (2 ^ (K - 149)) r := by
  unfold narrowM
  obtain ⟨s1, s2⟩ := bitLen_spec (T / 2 ^ 64)
  have hB64 : bitLen (T / 2 ^ 64) ≤ 64 := by
    rcases Nat.eq_zero_or_pos (T / 2 ^ 64) with h | h
    · rw [h]; decide
    · have := s2 (by omega)
      rcases Nat.lt_or_ge 64 (bitLen (T / 2 ^ 64)) with h2 | h2
      · exfalso
        have h3 : 2 ^ 64 ≤ 2 ^ (bitLen (T / 2 ^ 64) - 1) := Nat.pow_le_pow_right (by decide) (by omega)
        have h4 : T / 2 ^ 64 < 2 ^ 64 := Nat.div_lt_of_lt_mul (by rw [← Nat.pow_add]; exact hT1)
        omega
      · exact h2
  have hhi : T / 2 ^ 64 < 2 ^ bitLen (T / 2 ^ 64) := s1
  have hbig : 2 ^ 64 ≤ T → 2 ^ 63 ≤ T / 2 ^ bitLen (T / 2 ^ 64) := by
    intro h
    have h1 : 0 < T / 2 ^ 64 := Nat.div_pos h (by decide)
    have h2 := s2 (by omega)
    have hB1 : 1 ≤ bitLen (T / 2 ^ 64) := by
      rcases Nat.eq_zero_or_pos (bitLen (T / 2 ^ 64)) with h | h
      · rw [h] at s1; simp at s1; omega
      · exact h
    rw [Nat.le_div_iff_mul_le (Nat.two_pow_pos _)]
    generalize bitLen (T / 2 ^ 64) = B at *
    have e1 : 2 ^ 63 * 2 ^ B = 2 ^ (B - 1) * 2 ^ 64 := by rw [← Nat.pow_add, ← Nat.pow_add]; congr 1; omega
    rw [e1]
    exact Nat.le_trans (Nat.mul_le_mul_right _ h2) (Nat.div_mul_le_self _ _)
  have hsmall : T < 2 ^ 64 → bitLen (T / 2 ^ 64) = 0 := by
    intro h
    rw [Nat.div_eq_of_lt h]; decide
  generalize bitLen (T / 2 ^ 64) = B at *
  have hs64 : T / 2 ^ B < 2 ^ 64 := by
    refine Nat.div_lt_of_lt_mul ?_
    have h1 : T < (T / 2 ^ 64 + 1) * 2 ^ 64 := by
      have := Nat.lt_div_mul_add (a := T) (b := 2 ^ 64) (by decide)
      rw [Nat.add_mul]; omega
    have h2 : (T / 2 ^ 64 + 1) * 2 ^ 64 ≤ 2 ^ B * 2 ^ 64 := Nat.mul_le_mul_right _ hhi
    exact Nat.lt_of_lt_of_le h1 h2
  have hs1 : 1 ≤ T / 2 ^ B := by
    rcases Nat.lt_or_ge T (2 ^ 64) with h | h
    · rw [hsmall h]; simp; omega
    · have := hbig h; omega
  have hE : (e : Int) - K - (64 - (B : Int)) + 149 = ((B + (e - 64) : Nat) : Int) - ((K - 149 : Nat) : Int) := by omega
  have hdm : T / 2 ^ B * 2 ^ B + T % 2 ^ B = T := by rw [Nat.mul_comm]; exact Nat.div_add_mod T (2 ^ B)
  have hml := Nat.mod_lt T (Nat.two_pow_pos B)
  have pu := Nat.two_pow_pos (e - 64)
  have pK := Nat.two_pow_pos (K - 149)
  have sc : ∀ z : Nat, z * 2 ^ (K - 149) * 2 ^ (B + (e - 64)) = (z * 2 ^ B * 2 ^ (e - 64)) * 2 ^ (K - 149) := by
    intro z; rw [Nat.pow_add]
    generalize 2 ^ (K - 149) = k1
    generalize 2 ^ (e - 64) = k2
    generalize 2 ^ B = k3
    ac_rfl
  by_cases hx : more = false ∧ T % 2 ^ B = 0
  · have hm2 : (more || decide (T % 2 ^ B ≠ 0)) = false := by simp [hx.1, hx.2]
    rw [hm2]
    refine rnd_RN way neg _ (T / 2 ^ B) false p (2 ^ (K - 149)) (K - 149) (B + (e - 64)) hs1 hs64 (by omega) (by omega) pK hE (.inl ⟨rfl, ?_⟩)
    rcases hp with ⟨_, h⟩ | ⟨h, _⟩
    · rw [sc, h]
      congr 2
      omega
    · rw [hx.1] at h; cases h
  · have hm2 : (more || decide (T % 2 ^ B ≠ 0)) = true := by
      cases more
      · have : T % 2 ^ B ≠ 0 := fun h => hx ⟨rfl, h⟩
        simp [this]
      · rfl
    rw [hm2]
    have hT64 : 2 ^ 64 ≤ T := by
      rcases Nat.lt_or_ge T (2 ^ 64) with h | h
      · exfalso
        cases more
        · apply hx; refine ⟨rfl, ?_⟩; rw [hsmall h]; simp [Nat.mod_one]
        · have := hm rfl; omega
      · exact h
    have h63 := hbig hT64
    refine rnd_RN way neg _ (T / 2 ^ B) true p (2 ^ (K - 149)) (K - 149) (B + (e - 64)) hs1 hs64 (by omega) (by omega) pK hE (.inr (.inl ⟨rfl, ?_, ?_, ?_⟩))
    · have : (16777216 : Nat) ≤ 2 ^ 63 := by decide
      omega
    · rw [sc]
      refine Nat.mul_lt_mul_of_pos_right ?_ pK
      rcases hp with ⟨hf, h⟩ | ⟨_, h, _⟩
      · rw [h]
        refine Nat.mul_lt_mul_of_pos_right ?_ pu
        have : T % 2 ^ B ≠ 0 := fun h => hx ⟨hf, h⟩
        omega
      · refine Nat.lt_of_le_of_lt (Nat.mul_le_mul_right _ ?_) h
        omega
    · rw [sc]
      refine Nat.mul_lt_mul_of_pos_right ?_ pK
      have h4 : T + 1 ≤ (T / 2 ^ B + 1) * 2 ^ B := by rw [Nat.add_mul]; omega
      have h5 := Nat.mul_le_mul_right (2 ^ (e - 64)) h4
      rcases hp with ⟨hf, h⟩ | ⟨_, _, h⟩
      · rw [h]
        refine Nat.lt_of_lt_of_le ?_ h5
        exact Nat.mul_lt_mul_of_pos_right (by omega) pu
      · exact Nat.lt_of_lt_of_le h h5

theorem SumQ.swap {way : Int} {xn yn : Bool} {X Y q : Nat} {res : Int} (h : SumQ way xn yn X Y q res) : SumQ way yn xn Y X q res := by
  obtain ⟨h1, h2, h3, h4, h5⟩ := h
  refine ⟨?_, ?_, ?_, ?_, ?_⟩
  · intro e; subst e; rw [Nat.add_comm]; exact h1 rfl
  · intro e; subst e; rw [Nat.add_comm]; exact h2 rfl
  · intro e f; exact h3 (Ne.symm e) f.symm
  · intro e f; exact h5 (Ne.symm e) f
  · intro e f; exact h4 (Ne.symm e) f

theorem SumQ_scale {way : Int} {xn yn : Bool} {X Y q c : Nat} {res : Int} (hc : 0 < c) : SumQ way xn yn (X * c) (Y * c) (q * c) res ↔ SumQ way xn yn X Y q res := by
  have e1 : X * c + Y * c = (X + Y) * c := (Nat.add_mul _ _ _).symm
  have e2 : X * c - Y * c = (X - Y) * c := (Nat.sub_mul _ _ _).symm
  have e3 : Y * c - X * c = (Y - X) * c := (Nat.sub_mul _ _ _).symm
  have l1 : X * c < Y * c ↔ X < Y := ⟨fun h => Nat.lt_of_mul_lt_mul_right h, fun h => Nat.mul_lt_mul_of_pos_right h hc⟩
  have l2 : Y * c < X * c ↔ Y < X := ⟨fun h => Nat.lt_of_mul_lt_mul_right h, fun h => Nat.mul_lt_mul_of_pos_right h hc⟩
  have l3 : X * c = Y * c ↔ X = Y := ⟨fun h => Nat.eq_of_mul_eq_mul_right hc h, fun h => by rw [h]⟩
  have l4 : (X + Y) * c = 0 ↔ X + Y = 0 := ⟨fun h => by rcases Nat.mul_eq_zero.1 h with h | h <;> omega, fun h => by rw [h, Nat.zero_mul]⟩
  have l5 : 0 < (X + Y) * c ↔ 0 < X + Y := by rw [Nat.pos_iff_ne_zero, Nat.pos_iff_ne_zero]; exact not_congr l4
  unfold SumQ
  simp only [e1, e2, e3, l1, l2, l3, l4, l5, RN_scale hc]

theorem sumW_spec (way : Int) (xn yn : Bool) (ex xs ey ys K : Nat) (x0 : 2 ^ 62 ≤ xs) (x1 : xs < 2 ^ 63) (y0 : 2 ^ 62 ≤ ys) (y1 : ys < 2 ^ 63) (ho : ey ≤ ex) (ho2 : ex = ey → ys ≤ xs)
    (he : 64 ≤ ex) (he1 : ex ≤ 1000) (hK : 149 ≤ K) (hK1 : K ≤ 900) :
    SumQ way xn yn (xs * 2 ^ ex) (ys * 2 ^ ey) (2 ^ (K - 149)) (sumW way xn ((ex : Int) - K) xs yn ((ey : Int) - K) ys) := by
  have hn : ((ex : Int) - K - ((ey : Int) - K)).toNat = ex - ey := by omega
  unfold sumW
  rw [hn]
  have pn := Nat.two_pow_pos (ex - ey)
  have pu := Nat.two_pow_pos (ex - 64)
  have hdm : lowT ys (ex - ey) * 2 ^ (ex - ey) + ys * 2 ^ 64 % 2 ^ (ex - ey) = ys * 2 ^ 64 := by unfold lowT; rw [Nat.mul_comm]; exact Nat.div_add_mod _ _
  have hml := Nat.mod_lt (ys * 2 ^ 64) pn
  have hTle : lowT ys (ex - ey) ≤ ys * 2 ^ 64 := Nat.div_le_self _ _
  -- all at 2^64 times
  have hX : xs * 2 ^ ex = xs * 2 ^ 64 * 2 ^ (ex - 64) := by rw [Nat.mul_assoc, ← Nat.pow_add]; congr 2; omega
  have hY : ys * 2 ^ ey * 2 ^ 64 = (lowT ys (ex - ey) * 2 ^ (ex - ey) + ys * 2 ^ 64 % 2 ^ (ex - ey)) * 2 ^ ey := by rw [hdm]; ac_rfl
  have hex : ∀ z : Nat, z * 2 ^ (ex - ey) * 2 ^ ey = z * 2 ^ (ex - 64) * 2 ^ 64 := by
    intro z; rw [Nat.mul_assoc, Nat.mul_assoc, ← Nat.pow_add, ← Nat.pow_add]; congr 2; omega
  have hM : lowM ys (ex - ey) = true ↔ ys * 2 ^ 64 % 2 ^ (ex - ey) ≠ 0 := by unfold lowM; rw [decide_eq_true_eq]
  have hM2 : lowM ys (ex - ey) = false ↔ ys * 2 ^ 64 % 2 ^ (ex - ey) = 0 := by unfold lowM; rw [decide_eq_false_iff_not]; omega
  have hYlo : lowT ys (ex - ey) * 2 ^ (ex - 64) ≤ ys * 2 ^ ey := by
    refine Nat.le_of_mul_le_mul_right (c := 2 ^ 64) ?_ (Nat.two_pow_pos 64)
    rw [hY, ← hex]
    exact Nat.mul_le_mul_right _ (by omega)
  have hYhi : ys * 2 ^ ey < (lowT ys (ex - ey) + 1) * 2 ^ (ex - 64) := by
    refine Nat.lt_of_mul_lt_mul_right (a := 2 ^ 64) ?_
    rw [hY, ← hex]
    refine Nat.mul_lt_mul_of_pos_right ?_ (Nat.two_pow_pos _)
    rw [Nat.add_mul]; omega
  have hYeq : lowM ys (ex - ey) = false → ys * 2 ^ ey = lowT ys (ex - ey) * 2 ^ (ex - 64) := by
    intro h
    refine Nat.eq_of_mul_eq_mul_right (m := 2 ^ 64) (Nat.two_pow_pos 64) ?_
    rw [hY, ← hex, hM2.1 h, Nat.add_zero]
  have hYne : lowM ys (ex - ey) = true → lowT ys (ex - ey) * 2 ^ (ex - 64) < ys * 2 ^ ey := by
    intro h
    refine Nat.lt_of_mul_lt_mul_right (a := 2 ^ 64) ?_
    rw [hY, ← hex]
    refine Nat.mul_lt_mul_of_pos_right ?_ (Nat.two_pow_pos _)
    have := hM.1 h
    omega
  have hfar : lowM ys (ex - ey) = true → lowT ys (ex - ey) < 2 ^ 63 := by
    intro h
    have h1 : 64 < ex - ey := by
      rcases Nat.lt_or_ge 64 (ex - ey) with h2 | h2
      · exact h2
      · exfalso
        apply hM.1 h
        have : 2 ^ 64 = 2 ^ (64 - (ex - ey)) * 2 ^ (ex - ey) := by rw [← Nat.pow_add]; congr 1; omega
        rw [this, ← Nat.mul_assoc, Nat.mul_mod_left]
    unfold lowT
    refine Nat.div_lt_of_lt_mul ?_
    have h2 : 2 ^ 64 ≤ 2 ^ (ex - ey) := Nat.pow_le_pow_right (by decide) (by omega)
    calc ys * 2 ^ 64 < 2 ^ 63 * 2 ^ 64 := Nat.mul_lt_mul_of_pos_right y1 (by decide)
      _ ≤ 2 ^ 63 * 2 ^ (ex - ey) := Nat.mul_le_mul_left _ h2
      _ = 2 ^ (ex - ey) * 2 ^ 63 := Nat.mul_comm _ _
  have hYX : ys * 2 ^ ey ≤ xs * 2 ^ ex := by
    rcases Nat.lt_or_ge ey ex with h | h
    · have h1 : 2 ^ ex = 2 ^ (ex - ey - 1) * (2 * 2 ^ ey) := by
        rw [show 2 * 2 ^ ey = 2 ^ (ey + 1) by rw [Nat.pow_succ]; omega, ← Nat.pow_add]; congr 1; omega
      have h2 : 2 * 2 ^ ey ≤ 2 ^ ex := by rw [h1]; exact Nat.le_mul_of_pos_left _ (Nat.two_pow_pos _)
      have h3 : xs * (2 * 2 ^ ey) ≤ xs * 2 ^ ex := Nat.mul_le_mul_left _ h2
      have h4 : ys * 2 ^ ey ≤ (xs * 2) * 2 ^ ey := Nat.mul_le_mul_right _ (by omega)
      have h5 : (xs * 2) * 2 ^ ey = xs * (2 * 2 ^ ey) := Nat.mul_assoc _ _ _
      omega
    · have h1 : ex = ey := by omega
      rw [h1]
      exact Nat.mul_le_mul_right _ (ho2 h1)
  have pX : 0 < xs * 2 ^ ex := Nat.mul_pos (by omega) (Nat.two_pow_pos _)
  have n64 : (2 : Nat) ^ 64 = 18446744073709551616 := by decide
  have n63 : (2 : Nat) ^ 63 = 9223372036854775808 := by decide
  have n62 : (2 : Nat) ^ 62 = 4611686018427387904 := by decide
  have n128 : (2 : Nat) ^ 128 = 340282366920938463463374607431768211456 := by decide
  generalize lowT ys (ex - ey) = T at *
  generalize hmo : lowM ys (ex - ey) = more at *
  clear hY hex hM hM2 hdm hml pn
  have addX : ∀ z : Nat, xs * 2 ^ ex + z * 2 ^ (ex - 64) = (xs * 2 ^ 64 + z) * 2 ^ (ex - 64) := by
    intro z; rw [hX, Nat.add_mul]
  have subX : ∀ z : Nat, xs * 2 ^ ex - z * 2 ^ (ex - 64) = (xs * 2 ^ 64 - z) * 2 ^ (ex - 64) := by
    intro z; rw [hX, Nat.sub_mul]
  refine ⟨?_, ?_, ?_, ?_, ?_⟩
  · intro e f; omega
  · intro e f
    rw [if_pos e]
    refine narrow_spec way xn ex K _ _ more (by rw [n64]; omega) (by rw [n64, n128]; rw [n64] at hTle; omega) (fun _ => by rw [n64]; omega) he he1 hK hK1 ?_
    cases more
    · exact .inl ⟨rfl, by rw [hYeq rfl, addX]⟩
    · refine .inr ⟨rfl, ?_, ?_⟩
      · rw [← addX]; have := hYne rfl; omega
      · rw [Nat.add_assoc, ← addX]; omega
  · intro e f
    rw [if_neg e]
    cases more
    · have h1 : xs * 2 ^ 64 * 2 ^ (ex - 64) = T * 2 ^ (ex - 64) := by rw [← hX, f, hYeq rfl]
      have h2 : xs * 2 ^ 64 = T := Nat.eq_of_mul_eq_mul_right pu h1
      rw [if_pos (by simp [upM, h2])]
    · exfalso
      have h1 := hYne rfl
      have h2 := hYhi
      rw [← f, hX] at h1 h2
      have h3 := Nat.lt_of_mul_lt_mul_right h1
      have h4 := Nat.lt_of_mul_lt_mul_right h2
      omega
  · intro e f
    rw [if_neg e]
    cases more
    · have h1 : T * 2 ^ (ex - 64) < xs * 2 ^ 64 * 2 ^ (ex - 64) := by rw [← hX, ← hYeq rfl]; exact f
      have h2 := Nat.lt_of_mul_lt_mul_right h1
      rw [if_neg (by simp only [upM]; simp; omega)]
      have h3 : T + upM false = T := rfl
      rw [h3]
      exact narrow_spec way xn ex K _ _ false (by omega) (by rw [n64, n128]; omega) (fun h => by cases h) he he1 hK hK1 (.inl ⟨rfl, by rw [hYeq rfl, subX]⟩)
    · have h3 : T + upM true = T + 1 := rfl
      have h4 := hfar rfl
      rw [h3, if_neg (by rw [n64]; omega)]
      refine narrow_spec way xn ex K _ _ true (by rw [n64]; omega) (by rw [n64, n128]; omega) (fun _ => by rw [n64]; omega) he he1 hK hK1 (.inr ⟨rfl, ?_, ?_⟩)
      · rw [← subX]
        have := hYhi
        omega
      · rw [show xs * 2 ^ 64 - (T + 1) + 1 = xs * 2 ^ 64 - T by rw [n64]; omega, ← subX]
        have := hYne rfl
        omega
  · intro e f; omega
theorem low_lo (S N : Nat) (hN : N < 64) : lowT S N / 2 ^ 64 = S / 2 ^ N ∧ lowT S N % 2 ^ 64 = S * 2 ^ (64 - N) % 2 ^ 64 ∧ lowM S N = false := by
  have e : (2 : Nat) ^ 64 = 2 ^ (64 - N) * 2 ^ N := by rw [← Nat.pow_add]; congr 1; omega
  have hT : lowT S N = S * 2 ^ (64 - N) := by
    unfold lowT
    rw [e, ← Nat.mul_assoc, Nat.mul_div_cancel _ (Nat.two_pow_pos N)]
  refine ⟨?_, by rw [hT], ?_⟩
  · rw [hT]
    have e2 : (2 : Nat) ^ 64 = 2 ^ N * 2 ^ (64 - N) := by rw [← Nat.pow_add]; congr 1; omega
    rw [e2, Nat.mul_div_mul_right _ _ (Nat.two_pow_pos _)]
  · unfold lowM
    rw [e, ← Nat.mul_assoc, Nat.mul_mod_left]; rfl
theorem low_hi (S N : Nat) (hS : S < 2 ^ 63) (hN : 64 ≤ N) : lowT S N / 2 ^ 64 = 0 ∧ lowT S N % 2 ^ 64 = S / 2 ^ (N - 64) ∧ (lowM S N = true ↔ S % 2 ^ (N - 64) ≠ 0) := by
  have e : (2 : Nat) ^ N = 2 ^ (N - 64) * 2 ^ 64 := by rw [← Nat.pow_add]; congr 1; omega
  have hT : lowT S N = S / 2 ^ (N - 64) := by
    unfold lowT
    rw [e, Nat.mul_div_mul_right _ _ (Nat.two_pow_pos 64)]
  have h1 : S / 2 ^ (N - 64) ≤ S := Nat.div_le_self _ _
  have h2 : (2 : Nat) ^ 63 < 2 ^ 64 := by decide
  refine ⟨by rw [hT]; exact Nat.div_eq_of_lt (by omega), by rw [hT]; exact Nat.mod_eq_of_lt (by omega), ?_⟩
  unfold lowM
  rw [decide_eq_true_eq, e, Nat.mul_mod_mul_right]
  have := Nat.two_pow_pos 64
  constructor
  · intro h g; apply h; rw [g, Nat.zero_mul]
  · intro h g; rcases Nat.mul_eq_zero.1 g with g | g <;> omega
theorem low_rest (S D : Nat) (hD : D ≤ 64) : S * 2 ^ (64 - D) % 2 ^ 64 = 0 ↔ S % 2 ^ D = 0 := by
  have e : (2 : Nat) ^ 64 = 2 ^ D * 2 ^ (64 - D) := by rw [← Nat.pow_add]; congr 1; omega
  rw [e, Nat.mul_mod_mul_right]
  have := Nat.two_pow_pos (64 - D)
  constructor
  · intro h; rcases Nat.mul_eq_zero.1 h with g | g <;> omega
  · intro h; rw [h, Nat.zero_mul]
theorem narrow_parts (T B : Nat) (hB : B ≤ 64) : T / 2 ^ B = T / 2 ^ 64 * 2 ^ (64 - B) + T % 2 ^ 64 / 2 ^ B ∧ (T % 2 ^ B = 0 ↔ (T % 2 ^ 64) * 2 ^ (64 - B) % 2 ^ 64 = 0) := by
  have e : (2 : Nat) ^ 64 = 2 ^ (64 - B) * 2 ^ B := by rw [← Nat.pow_add]; congr 1; omega
  have h1 : T = T / 2 ^ 64 * 2 ^ (64 - B) * 2 ^ B + T % 2 ^ 64 := by
    rw [Nat.mul_assoc, ← e, Nat.mul_comm]; exact (Nat.div_add_mod T (2 ^ 64)).symm
  constructor
  · have h2 : T / 2 ^ B = (T / 2 ^ 64 * 2 ^ (64 - B) * 2 ^ B + T % 2 ^ 64) / 2 ^ B := by rw [← h1]
    rw [h2, Nat.add_comm, Nat.add_mul_div_right _ _ (Nat.two_pow_pos B), Nat.add_comm]
  · rw [low_rest _ _ hB]
    have h2 : T % 2 ^ B = (T / 2 ^ 64 * 2 ^ (64 - B) * 2 ^ B + T % 2 ^ 64) % 2 ^ B := by rw [← h1]
    rw [h2, Nat.add_comm, Nat.add_mul_mod_self_right]
end Flt
end Go.Proofs.Ytbcmfgohbppndaa

/-
  The fused product and sum of package round is the document's. No program is named here.
-/
namespace Go.Proofs.Ytbcmfgohbppndaa
namespace Flt

theorem RN_self (way : Int) (neg : Bool) (q m : Nat) (hq : 0 < q) (hm : m < 2139095040) : RN way neg (A m * q) q m := by
  refine ⟨m, ⟨by omega, Nat.le_refl _, fun _ => Nat.mul_lt_mul_of_pos_right (A_lt_succ m) hq⟩, ?_⟩
  unfold pick
  rw [if_neg (by omega), if_pos (.inl rfl)]

theorem top_range (s : Nat) (h0 : 1 ≤ s) (h1 : s < 2 ^ 63) : 2 ^ 62 ≤ topS s ∧ topS s < 2 ^ 63 ∧ 1 ≤ bitLen s ∧ bitLen s ≤ 63 := by
  obtain ⟨s1, s2⟩ := bitLen_spec s
  have s3 := s2 (by omega)
  unfold topS
  generalize bitLen s = B at *
  have hB : 1 ≤ B := by
    rcases Nat.eq_zero_or_pos B with h | h
    · rw [h] at s1; simp at s1; omega
    · exact h
  have hB2 : B ≤ 63 := by
    rcases Nat.lt_or_ge 63 B with h | h
    · exfalso
      have : 2 ^ 63 ≤ 2 ^ (B - 1) := Nat.pow_le_pow_right (by decide) (by omega)
      omega
    · exact h
  have p1 : (2 : Nat) ^ (B - 1) * 2 ^ (63 - B) = 2 ^ 62 := by rw [← Nat.pow_add, show B - 1 + (63 - B) = 62 by omega]
  have p2 : (2 : Nat) ^ B * 2 ^ (63 - B) = 2 ^ 63 := by rw [← Nat.pow_add, show B + (63 - B) = 63 by omega]
  have q1 : 2 ^ (B - 1) * 2 ^ (63 - B) ≤ s * 2 ^ (63 - B) := Nat.mul_le_mul_right _ s3
  have q2 : s * 2 ^ (63 - B) < 2 ^ B * 2 ^ (63 - B) := Nat.mul_lt_mul_of_pos_right s1 (Nat.two_pow_pos _)
  rw [p1] at q1
  rw [p2] at q2
  exact ⟨q1, q2, hB, hB2⟩

theorem sumV_spec (way : Int) (xn yn : Bool) (ex xs ey ys K : Nat) (x0 : 2 ^ 62 ≤ xs) (x1 : xs < 2 ^ 63) (y0 : 2 ^ 62 ≤ ys) (y1 : ys < 2 ^ 63)
    (he : 64 ≤ ex) (he1 : ex ≤ 1000) (hf : 64 ≤ ey) (hf1 : ey ≤ 1000) (hK : 149 ≤ K) (hK1 : K ≤ 900) :
    SumQ way xn yn (xs * 2 ^ ex) (ys * 2 ^ ey) (2 ^ (K - 149)) (sumV way xn ((ex : Int) - K) xs yn ((ey : Int) - K) ys) := by
  unfold sumV
  by_cases h : (ex : Int) - K < (ey : Int) - K ∨ ((ex : Int) - K = (ey : Int) - K ∧ xs < ys)
  · rw [if_pos h]
    exact (sumW_spec way yn xn ey ys ex xs K y0 y1 x0 x1 (by omega) (by omega) hf hf1 hK hK1).swap
  · rw [if_neg h]
    exact sumW_spec way xn yn ex xs ey ys K x0 x1 y0 y1 (by omega) (by omega) he he1 hK hK1

theorem top_amount (s e d B c : Nat) (hB : B ≤ 63) (hd : d + 63 = e + c + B) : s * 2 ^ (63 - B) * 2 ^ d = s * 2 ^ e * 2 ^ c := by
  rw [Nat.mul_assoc, Nat.mul_assoc, ← Nat.pow_add, ← Nat.pow_add]; congr 2; omega

theorem mulBy_fin_nan (way a b : Int) (h0 : 0 ≤ a) (g0 : 0 ≤ b) (ha : mg a < 2139095040) (hb : mg b < 2139095040) : isNaN (mulBy way a b) = false := by
  obtain ⟨r, e1, e2⟩ := mulBy_fin way a b h0 g0 ha hb
  have := RN_le e2
  rw [e1, isNaN_not, mg_signed _ _ (by omega)]
  exact this

theorem fmaC_fin (way a b c : Int) (h0 : 0 ≤ a) (g0 : 0 ≤ b) (k0 : 0 ≤ c) (k1 : c < 4294967296) (ha : mg a < 2139095040) (hb : mg b < 2139095040) (hc : mg c < 2139095040) :
    SumQ way (sgn a != sgn b) (sgn c) (A (mg a) * A (mg b)) (A (mg c) * 2 ^ 149) (2 ^ 149) (fmaC way a b c) := by
  obtain ⟨n1, n2⟩ := (fin_iff a).2 ha
  obtain ⟨n3, n4⟩ := (fin_iff b).2 hb
  obtain ⟨n5, n6⟩ := (fin_iff c).2 hc
  have n7 := mulBy_fin_nan way a b h0 g0 ha hb
  obtain ⟨rm, em, hm⟩ := mulBy_fin way a b h0 g0 ha hb
  obtain ⟨ea, sa, a1, a2, a3, a4, a5, a6, a7⟩ := amt a h0 ha
  obtain ⟨eb, sb, b1, b2, b3, b4, b5, b6, b7⟩ := amt b g0 hb
  obtain ⟨ec, sc, c1, c2, c3, c4, c5, c6, c7⟩ := amt c k0 hc
  have esc := signed_eq c k0 k1
  have q149 : 0 < 2 ^ 149 := Nat.two_pow_pos 149
  have hP : sig a * sig b = ((sa * sb : Nat) : Int) := by rw [a2, b2, Int.natCast_mul]
  have hX : A (mg a) * A (mg b) = sa * sb * 2 ^ (ea + eb) := by rw [a6, b6, Nat.pow_add]; ac_rfl
  unfold fmaC
  simp only [n2, n4, n5, n6, n7, Bool.or_false, Bool.and_false, Bool.false_and, Bool.false_eq_true, if_false, hP, c2]
  by_cases hz : sa * sb = 0
  · have hX0 : A (mg a) * A (mg b) = 0 := by rw [hX, hz, Nat.zero_mul]
    rw [hX0]
    by_cases hc0 : sc = 0
    · have hm0 : mg c = 0 := c7.1 hc0
      rw [hm0, A_zero, Nat.zero_mul, hz, hc0]
      by_cases hs : (sgn a != sgn b) = sgn c
      · rw [if_neg (by simp [hs]), if_pos Int.ofNat_zero]
        rw [hm0] at esc
        refine ⟨fun e _ => ?_, fun _ h => by omega, fun e _ => absurd hs e, fun _ h => by omega, fun _ h => by omega⟩
        rw [hs]; omega
      · rw [if_pos ⟨Int.ofNat_zero, Int.ofNat_zero, hs⟩]
        exact ⟨fun e _ => absurd e hs, fun _ h => by omega, fun _ _ => rfl, fun _ h => by omega, fun _ h => by omega⟩
    · have hci : ¬ ((sc : Nat) : Int) = 0 := by omega
      rw [if_neg (fun h => hci h.2.1), hz, if_pos Int.ofNat_zero]
      have hY : 0 < A (mg c) * 2 ^ 149 := Nat.mul_pos (by rw [c6]; exact Nat.mul_pos (by omega) (Nat.two_pow_pos _)) q149
      have hr := RN_self way (sgn c) (2 ^ 149) (mg c) q149 hc
      refine ⟨fun _ h => by omega, fun e _ => ⟨mg c, ?_, ?_⟩, fun _ h => by omega, fun _ h => by omega, fun _ _ => ⟨mg c, esc, ?_⟩⟩
      · rw [e]; exact esc
      · rw [e, Nat.zero_add]; exact hr
      · rw [Nat.sub_zero]; exact hr
  · have hzi : ¬ ((sa * sb : Nat) : Int) = 0 := by omega
    have hX0 : 0 < A (mg a) * A (mg b) := by rw [hX]; exact Nat.mul_pos (by omega) (Nat.two_pow_pos _)
    rw [if_neg (fun h => hzi h.1), if_neg hzi]
    by_cases hc0 : sc = 0
    · have hm0 : mg c = 0 := c7.1 hc0
      rw [hc0, if_pos Int.ofNat_zero, hm0, A_zero, Nat.zero_mul]
      exact ⟨fun _ h => by omega, fun _ _ => ⟨rm, em, hm⟩, fun _ h => by omega, fun _ _ => ⟨rm, em, hm⟩, fun _ h => by omega⟩
    · have hci : ¬ ((sc : Nat) : Int) = 0 := by omega
      rw [if_neg hci, Int.toNat_natCast, Int.toNat_natCast, a1, b1, c1]
      have n63 : (2 : Nat) ^ 63 = 9223372036854775808 := by decide
      have hPl : sa * sb < 16777216 * 16777216 := Nat.mul_lt_mul'' a3 b3
      obtain ⟨p0, p1, p2, p3⟩ := top_range (sa * sb) (by omega) (by omega)
      obtain ⟨r0, r1, r2, r3⟩ := top_range sc (by omega) (by omega)
      rw [← SumQ_scale (c := 2 ^ 202) (Nat.two_pow_pos _)]
      obtain ⟨K, hK⟩ : ∃ K : Nat, K = 500 := ⟨_, rfl⟩
      have e1 : topE ((ea : Int) - 149 + ((eb : Int) - 149)) (sa * sb) = ((ea + eb + 139 + bitLen (sa * sb) : Nat) : Int) - (K : Int) := by unfold topE; omega
      have e2 : topE ((ec : Int) - 149) sc = ((ec + 288 + bitLen sc : Nat) : Int) - (K : Int) := by unfold topE; omega
      have e3 : A (mg a) * A (mg b) * 2 ^ 202 = topS (sa * sb) * 2 ^ (ea + eb + 139 + bitLen (sa * sb)) := by
        rw [hX]; unfold topS; rw [top_amount (sa * sb) (ea + eb) _ (bitLen (sa * sb)) 202 p3 (by omega)]
      have e4 : A (mg c) * 2 ^ 149 * 2 ^ 202 = topS sc * 2 ^ (ec + 288 + bitLen sc) := by
        rw [c6]; unfold topS; rw [top_amount sc (ec + 149) _ (bitLen sc) 202 r3 (by omega), Nat.pow_add 2 ec 149, ← Nat.mul_assoc]
      have e5 : (2 : Nat) ^ 149 * 2 ^ 202 = 2 ^ (K - 149) := by rw [← Nat.pow_add, show 149 + 202 = K - 149 by omega]
      rw [e1, e2, e3, e4, e5]
      exact sumV_spec way _ _ _ _ _ _ K p0 p1 r0 r1 (by omega) (by omega) (by omega) (by omega) (by omega) (by omega)

theorem inf_eq (c : Int) (k0 : 0 ≤ c) (k1 : c < 4294967296) (h : isInf c = true) : c = signBit (sgn c) + 2139095040 := by
  have := signed_eq c k0 k1
  rw [(isInf_iff c).1 h] at this
  exact this

theorem fmaC_x (way a b c : Int) (h0 : 0 ≤ a) (g0 : 0 ≤ b) (k0 : 0 ≤ c) (k1 : c < 4294967296)
    (hx : (isNaN a || isNaN b || isNaN c || isNaN (mulBy 0 a b) || isInf a || isInf b || isInf c) = true) : fmaC way a b c = fmaX a b c := by
  have hnn : isNaN 2143289344 = true := by decide
  by_cases hn : isNaN a = true ∨ isNaN b = true
  · have e : ∀ v, mulBy v a b = 2143289344 := fun v => by unfold mulBy; rw [if_pos hn]
    unfold fmaC fmaX
    rw [e, e, hnn]
    simp
  · have na : isNaN a = false := by cases h : isNaN a <;> simp_all
    have nb : isNaN b = false := by cases h : isNaN b <;> simp_all
    by_cases hz : (isInf a = true ∧ b % 2147483648 = 0) ∨ (a % 2147483648 = 0 ∧ isInf b = true)
    · have e : ∀ v, mulBy v a b = 2143289344 := fun v => by unfold mulBy; rw [if_neg hn, if_pos hz]
      unfold fmaC fmaX
      rw [e, e, hnn]
      simp
    · by_cases hi : isInf a = true ∨ isInf b = true
      · have e : ∀ v, mulBy v a b = signBit (sgn a != sgn b) + 2139095040 := fun v => by unfold mulBy; rw [if_neg hn, if_neg hz, if_pos hi]
        have hp : isNaN (signBit (sgn a != sgn b) + 2139095040) = false := by cases (sgn a != sgn b) <;> decide
        have hi2 : (isInf a || isInf b) = true := by simp [hi]
        have hcx : (isInf c && (c != signBit (sgn a != sgn b) + 2139095040)) = (isInf c && (sgn c != (sgn a != sgn b))) := by
          cases hc : isInf c
          · rfl
          · have ec := inf_eq c k0 k1 hc
            simp only [Bool.true_and]
            generalize (sgn a != sgn b) = n at *
            generalize hsc : sgn c = m at *
            subst ec
            cases m <;> cases n <;> simp [signBit]
        unfold fmaC fmaX
        rw [e, e, hp, na, nb, hi2, Bool.true_and, hcx]
        simp
      · have ia : isInf a = false := by cases h : isInf a <;> simp_all
        have ib : isInf b = false := by cases h : isInf b <;> simp_all
        have e1 := mulBy_fin_nan way a b h0 g0 ((fin_iff a).1 ⟨na, ia⟩) ((fin_iff b).1 ⟨nb, ib⟩)
        have e2 := mulBy_fin_nan 0 a b h0 g0 ((fin_iff a).1 ⟨na, ia⟩) ((fin_iff b).1 ⟨nb, ib⟩)
        rw [e2, na, nb, ia, ib] at hx
        unfold fmaC fmaX
        rw [e1, e2, na, nb, ia, ib]
        cases hc : isNaN c
        · rw [hc] at hx
          have hc2 : isInf c = true := by simpa using hx
          simp [hc2]
        · simp
end Flt
end Go.Proofs.Ytbcmfgohbppndaa

/-
  Whole numbers of floats, roots and powers of two as package round reckons them are the document's. No program is named here.
-/
namespace Go.Proofs.Ytbcmfgohbppndaa
namespace Flt

def cgo (way : Int) (neg : Bool) (n rest half : Int) : Bool :=
  if way = 1 then !neg && decide (rest ≠ 0) else if way = 2 then neg && decide (rest ≠ 0) else decide (half < rest) || (decide (rest = half) && decide (n % 2 = 1))
def dropW (a : Int) : Int := if -expo a < 62 then -expo a else 62
def wholeN (way a : Int) : Int := sig a / 2 ^ (dropW a).toNat + (if cgo way (sgn a) (sig a / 2 ^ (dropW a).toNat) (sig a % 2 ^ (dropW a).toNat) (2 ^ (dropW a - 1).toNat) = true then 1 else 0)
def wholeC (way a : Int) : Int := if isNaN a = true then 2143289344 else if 0 ≤ expo a then a else rnd 0 (sgn a) 0 (wholeN way a) false

/-- Does the amount V, in units of 2^-149, go on to the next whole number? -/
def goes (way : Int) (neg : Bool) (V : Nat) : Prop :=
  V % 2 ^ 149 ≠ 0 ∧ (if way = 1 then neg = false else if way = 2 then neg = true else (2 ^ 149 < 2 * (V % 2 ^ 149) ∨ (2 * (V % 2 ^ 149) = 2 ^ 149 ∧ V / 2 ^ 149 % 2 = 1)))

theorem cgo_iff (way : Int) (neg : Bool) (N R H : Nat) (V c : Nat) (hc : 0 < c) (h1 : V / 2 ^ 149 = N) (h2 : V % 2 ^ 149 = R * c) (h3 : 2 ^ 149 = 2 * (H * c)) :
    cgo way neg (N : Int) (R : Int) (H : Int) = true ↔ goes way neg V := by
  unfold cgo goes
  rw [h1, h2]
  have z : R * c ≠ 0 ↔ R ≠ 0 := ⟨fun h g => h (by rw [g, Nat.zero_mul]), fun h g => by rcases Nat.mul_eq_zero.1 g with g | g <;> omega⟩
  have l : 2 ^ 149 < 2 * (R * c) ↔ H < R := by
    rw [h3]
    exact ⟨fun h => Nat.lt_of_mul_lt_mul_right (a := c) (by omega), fun h => by have := Nat.mul_lt_mul_of_pos_right h hc; omega⟩
  have e : 2 * (R * c) = 2 ^ 149 ↔ R = H := by
    rw [h3]
    exact ⟨fun h => Nat.eq_of_mul_eq_mul_right hc (by omega), fun h => by rw [h]⟩
  rw [z, l, e]
  have hpos : 0 < H := by
    rcases Nat.eq_zero_or_pos H with h | h
    · rw [h, Nat.zero_mul] at h3
      have := Nat.two_pow_pos 149
      omega
    · exact h
  by_cases w1 : way = 1
  · simp only [if_pos w1]
    cases neg <;> simp
  · by_cases w2 : way = 2
    · simp only [if_neg w1, if_pos w2]
      cases neg <;> simp
    · simp only [if_neg w1, if_neg w2, Bool.or_eq_true, Bool.and_eq_true, decide_eq_true_eq]
      omega

theorem pow_two_pos (n : Nat) (h : 0 < n) : (2 : Nat) ^ n = 2 * 2 ^ (n - 1) := by
  obtain ⟨k, rfl⟩ : ∃ k, n = k + 1 := ⟨n - 1, by omega⟩
  rw [Nat.pow_succ, Nat.add_sub_cancel]; omega

/-- What Floor, Ceil and Even of a finite float come to: a whole number N, exactly. -/
theorem wholeC_spec (way a : Int) (h0 : 0 ≤ a) (h1 : a < 4294967296) (ha : mg a < 2139095040) :
    ∃ m N : Nat, wholeC way a = signBit (sgn a) + (m : Int) ∧ m < 2139095040 ∧ A m = N * 2 ^ 149 ∧ ((goes way (sgn a) (A (mg a)) ∧ N = A (mg a) / 2 ^ 149 + 1) ∨ (¬ goes way (sgn a) (A (mg a)) ∧ N = A (mg a) / 2 ^ 149)) := by
  obtain ⟨n1, n2⟩ := (fin_iff a).2 ha
  obtain ⟨e, s, x1, x2, x3, x4, x5, x6, x7⟩ := amt a h0 ha
  have p149 := Nat.two_pow_pos 149
  unfold wholeC
  rw [n1, if_neg (by simp)]
  by_cases hp : 0 ≤ expo a
  · rw [if_pos hp]
    have hV : A (mg a) = s * 2 ^ (e - 149) * 2 ^ 149 := by rw [x6, Nat.mul_assoc, ← Nat.pow_add, show e - 149 + 149 = e by omega]
    refine ⟨mg a, s * 2 ^ (e - 149), signed_eq a h0 h1, ha, hV, .inr ⟨?_, ?_⟩⟩
    · intro h; apply h.1; rw [hV, Nat.mul_mod_left]
    · rw [hV, Nat.mul_div_cancel _ p149]
  · rw [if_neg hp]
    -- the count that is dropped
    obtain ⟨d, hd⟩ : ∃ d : Nat, dropW a = (d : Int) := ⟨(dropW a).toNat, by unfold dropW; split <;> omega⟩
    have hd1 : 1 ≤ d ∧ d ≤ 62 := by unfold dropW at hd; split at hd <;> omega
    have key : A (mg a) / 2 ^ 149 = s / 2 ^ d ∧ ∃ c, 0 < c ∧ A (mg a) % 2 ^ 149 = s % 2 ^ d * c ∧ ((2 ^ 149 = 2 * (2 ^ (d - 1) * c)) ∨ (d = 62 ∧ 2 ^ 149 ≥ 2 * (2 ^ 61 * c))) := by
      by_cases hsm : e + d = 149
      · have hV : A (mg a) = s * 2 ^ (149 - d) := by rw [x6]; congr 2; omega
        have e149 : (2 : Nat) ^ 149 = 2 ^ d * 2 ^ (149 - d) := by rw [← Nat.pow_add]; congr 1; omega
        refine ⟨?_, 2 ^ (149 - d), Nat.two_pow_pos _, ?_, .inl ?_⟩
        · rw [hV, e149, Nat.mul_div_mul_right _ _ (Nat.two_pow_pos _)]
        · rw [hV, e149, Nat.mul_mod_mul_right]
        · rw [← Nat.mul_assoc, ← pow_two_pos d (by omega), ← e149]
      · have hd62 : d = 62 := by unfold dropW at hd; split at hd <;> omega
        have he : e + 62 < 149 := by unfold dropW at hd; split at hd <;> omega
        have hle : 2 ^ e * 2 ^ 62 ≤ 2 ^ 149 := by rw [← Nat.pow_add]; exact Nat.pow_le_pow_right (by decide) (by omega)
        have hs62 : s < 2 ^ 62 := Nat.lt_trans x3 (by decide)
        have hVlt : A (mg a) < 2 ^ 149 := by
          rw [x6]
          have : s * 2 ^ e < 2 ^ 62 * 2 ^ e := Nat.mul_lt_mul_of_pos_right hs62 (Nat.two_pow_pos _)
          rw [Nat.mul_comm (2 ^ 62)] at this
          omega
        rw [hd62]
        refine ⟨by rw [Nat.div_eq_of_lt hVlt, Nat.div_eq_of_lt hs62], 2 ^ e, Nat.two_pow_pos _, ?_, .inr ⟨rfl, ?_⟩⟩
        · rw [Nat.mod_eq_of_lt hVlt, Nat.mod_eq_of_lt hs62, x6]
        · have e62 : (2 : Nat) ^ 62 = 2 * 2 ^ 61 := by decide
          rw [e62] at hle
          generalize (2 : Nat) ^ 61 = u at *
          rw [← Nat.mul_assoc, Nat.mul_comm]; omega
    obtain ⟨k1, c, c0, k2, k3⟩ := key
    -- the amount that is rounded
    have hsd : sig a / 2 ^ d = ((s / 2 ^ d : Nat) : Int) := by rw [x2, pow_cast, ← Int.natCast_ediv]
    have hsm : sig a % 2 ^ d = ((s % 2 ^ d : Nat) : Int) := by rw [x2, pow_cast, ← Int.natCast_emod]
    have hh : (2 : Int) ^ (dropW a - 1).toNat = ((2 ^ (d - 1) : Nat) : Int) := by rw [hd, show ((d : Int) - 1).toNat = d - 1 by omega, pow_cast]
    have hgo : cgo way (sgn a) ((s / 2 ^ d : Nat) : Int) ((s % 2 ^ d : Nat) : Int) ((2 ^ (d - 1) : Nat) : Int) = true ↔ goes way (sgn a) (A (mg a)) := by
      rcases k3 with k3 | ⟨k3, k4⟩
      · exact cgo_iff way (sgn a) _ _ _ _ c c0 k1 k2 k3
      · subst k3
        have hs62 : s < 2 ^ 62 := Nat.lt_trans x3 (by decide)
        have hs61 : s < 2 ^ 61 := Nat.lt_trans x3 (by decide)
        have hlt : s * c < 2 ^ 61 * c := Nat.mul_lt_mul_of_pos_right hs61 c0
        rw [Nat.mod_eq_of_lt hs62] at k2 ⊢
        unfold cgo goes
        rw [k2]
        have z : s * c ≠ 0 ↔ s ≠ 0 := ⟨fun h g => h (by rw [g, Nat.zero_mul]), fun h g => by rcases Nat.mul_eq_zero.1 g with g | g <;> omega⟩
        rw [z]
        have f1 : ¬ (2 ^ 149 < 2 * (s * c)) := by
          have := k4
          omega
        have f2 : ¬ (2 * (s * c) = 2 ^ 149) := by
          have := k4
          omega
        have f3 : ¬ (((2 ^ (62 - 1) : Nat) : Int) < (s : Int)) := by
          rw [show 62 - 1 = 61 from rfl]; omega
        have f4 : ¬ ((s : Int) = ((2 ^ (62 - 1) : Nat) : Int)) := by
          rw [show 62 - 1 = 61 from rfl]; omega
        by_cases w1 : way = 1
        · simp only [if_pos w1]; cases sgn a <;> simp
        · by_cases w2 : way = 2
          · simp only [if_neg w1, if_pos w2]; cases sgn a <;> simp
          · simp only [if_neg w1, if_neg w2, Bool.or_eq_true, Bool.and_eq_true, decide_eq_true_eq]
            constructor
            · rintro (h | ⟨h, _⟩)
              · exact absurd h f3
              · exact absurd h f4
            · rintro ⟨_, h | ⟨h, _⟩⟩
              · exact absurd h f1
              · exact absurd h f2
    have hn : s / 2 ^ d < 8388608 := by
      refine Nat.div_lt_of_lt_mul ?_
      have : 2 ^ 1 ≤ 2 ^ d := Nat.pow_le_pow_right (by decide) hd1.1
      have h2 : 2 ^ 1 * 8388608 ≤ 2 ^ d * 8388608 := Nat.mul_le_mul_right _ this
      omega
    unfold wholeN
    rw [hd] at hh ⊢
    rw [Int.toNat_natCast, hsd, hsm, hh]
    -- rounding of a whole number that fits
    have fits : ∀ N : Nat, N ≤ 16777216 → ∃ m : Nat, rnd 0 (sgn a) 0 (N : Int) false = signBit (sgn a) + (m : Int) ∧ m < 2139095040 ∧ A m = N * 2 ^ 149 := by
      intro N hN
      obtain ⟨m, hm⟩ := repr_of 149 N hN
      have hmlt : m < 2139095040 := by
        rcases Nat.lt_or_ge m 2139095040 with h | h
        · exact h
        · exfalso
          have g1 := A_mono h
          rw [A_inf, hm] at g1
          have g2 : N * 2 ^ 149 ≤ 16777216 * 2 ^ 149 := Nat.mul_le_mul_right _ hN
          have g3 : (16777216 : Nat) * 2 ^ 149 < 8388608 * 2 ^ 254 := by decide
          omega
      rcases Nat.eq_zero_or_pos N with hz | hz
      · subst hz
        have : m = 0 := A_inj (by rw [hm, A_zero, Nat.zero_mul])
        exact ⟨m, by rw [this]; simp [rnd], hmlt, hm⟩
      · obtain ⟨r, r1, r2⟩ := rnd_exact 0 (sgn a) 149 N (N * 2 ^ 149) hz (by omega) (by omega) rfl
        rw [← hm] at r2
        have := RN_exact (q := 1) (by decide) hmlt (by rw [Nat.mul_one]; exact r2)
        subst this
        exact ⟨r, r1, hmlt, hm⟩
    by_cases hg : goes way (sgn a) (A (mg a))
    · rw [if_pos (hgo.2 hg)]
      obtain ⟨m, m1, m2, m3⟩ := fits (s / 2 ^ d + 1) (by omega)
      refine ⟨m, s / 2 ^ d + 1, ?_, m2, m3, .inl ⟨hg, by rw [k1]⟩⟩
      rw [← m1]; congr 1
    · rw [if_neg (fun h => hg (hgo.1 h))]
      obtain ⟨m, m1, m2, m3⟩ := fits (s / 2 ^ d) (by omega)
      refine ⟨m, s / 2 ^ d, ?_, m2, m3, .inr ⟨hg, by rw [k1]⟩⟩
      rw [← m1]; congr 1
end Flt
end Go.Proofs.Ytbcmfgohbppndaa

/-
  Roots as package round reckons them are the document's; powers of two. No program is named here.
-/
namespace Go.Proofs.Ytbcmfgohbppndaa
namespace Flt

theorem lt_of_sq {x y : Nat} (h : x * x < y * y) : x < y := by
  rcases Nat.lt_or_ge x y with g | g
  · exact g
  · have := Nat.mul_le_mul g g; omega
theorem le_of_sq {x y : Nat} (h : x * x ≤ y * y) : x ≤ y := by
  rcases Nat.lt_or_ge y x with g | g
  · have := Nat.mul_lt_mul'' g g; omega
  · exact g

/-- A root that comes out even. -/
theorem RT_exact (way : Int) (n p r : Nat) (hn : n = p * p) (h : RN way false p 1 r) (hb : p < A 2139095040) : RT way n r := by
  obtain ⟨m, ⟨m1, m2, m3⟩, rfl⟩ := h
  rw [Nat.mul_one] at m2 m3
  have hm : m < 2139095040 := by
    rcases Nat.lt_or_ge m 2139095040 with h | h
    · exact h
    · have := A_mono h; omega
  have m4 := m3 hm
  refine ⟨m, ⟨hm, by rw [hn]; exact Nat.mul_le_mul m2 m2, by rw [hn]; exact Nat.mul_lt_mul'' m4 m4⟩, ?_⟩
  unfold pick pickRt
  rw [if_neg (by omega), Nat.mul_one, Nat.mul_one]
  have e1 : A m = p ↔ A m * A m = n := by
    rw [hn]; exact ⟨fun h => by rw [h], fun h => Nat.le_antisymm (le_of_sq (by omega)) (le_of_sq (by omega))⟩
  have e2 : (A m + A (m + 1)) < 2 * p ↔ (A m + A (m + 1)) * (A m + A (m + 1)) < n * 4 := by
    have : n * 4 = (2 * p) * (2 * p) := by rw [hn]; rw [Nat.mul_mul_mul_comm]; omega
    rw [this]
    exact ⟨fun h => Nat.mul_lt_mul'' h h, fun h => lt_of_sq h⟩
  have e3 : (A m + A (m + 1)) = 2 * p ↔ (A m + A (m + 1)) * (A m + A (m + 1)) = n * 4 := by
    have : n * 4 = (2 * p) * (2 * p) := by rw [hn]; rw [Nat.mul_mul_mul_comm]; omega
    rw [this]
    exact ⟨fun h => by rw [h], fun h => Nat.le_antisymm (le_of_sq (by omega)) (le_of_sq (by omega))⟩
  have i : inW way false = decide (way = 2) := by unfold inW; simp
  have o : outW way false = decide (way = 1) := by unfold outW; simp
  rw [i, o]
  simp only [decide_eq_true_eq, e1, e2, e3]

/-- Floats about a root are whole multiples of its last bit. -/
theorem A_dvd (m k : Nat) (h : 2 ^ 24 * 2 ^ k ≤ A (m + 1)) : 2 ^ k ∣ A m ∧ 2 ^ k ∣ A (m + 1) := by
  obtain ⟨f, t, e1, e2, e3, e4⟩ := A_split m
  have hm : A m = t * 2 ^ f := by rw [e1]; exact A_form f t (by omega) e3
  have hs : A (m + 1) = (t + 1) * 2 ^ f := by rw [A_succ, hm, ← e4, Nat.succ_mul]
  have hkf : k ≤ f := by
    rcases Nat.lt_or_ge f k with g | g
    · exfalso
      have h1 : (t + 1) * 2 ^ f ≤ 2 ^ 24 * 2 ^ f := Nat.mul_le_mul_right _ (by have : (2 : Nat) ^ 24 = 16777216 := by decide
                                                                               omega)
      have h2 : 2 ^ 24 * 2 ^ f < 2 ^ 24 * 2 ^ k := Nat.mul_lt_mul_of_pos_left (Nat.pow_lt_pow_right (by decide) g) (by decide)
      omega
    · exact g
  have hd : 2 ^ k ∣ 2 ^ f := Nat.pow_dvd_pow 2 hkf
  exact ⟨by rw [hm]; exact Nat.dvd_trans hd (Nat.dvd_mul_left _ _), by rw [hs]; exact Nat.dvd_trans hd (Nat.dvd_mul_left _ _)⟩

/-- A root between s and s + 1, of the unit 2^k. -/
theorem RT_more (way : Int) (n s k r : Nat) (hs : 2 ^ 30 ≤ s) (h1 : s * s * (2 ^ k * 2 ^ k) < n) (h2 : n < (s + 1) * (s + 1) * (2 ^ k * 2 ^ k)) (hb : (s + 1) * 2 ^ k < A 2139095040)
    (h : RN way false ((2 * s + 1) * 2 ^ k) 2 r) : RT way n r := by
  obtain ⟨m, ⟨m1, m2, m3⟩, rfl⟩ := h
  have pk := Nat.two_pow_pos k
  have x1 : (2 * s + 1) * 2 ^ k = 2 * (s * 2 ^ k) + 2 ^ k := by rw [Nat.add_mul, Nat.one_mul, Nat.mul_assoc]
  have x2 : (s + 1) * 2 ^ k = s * 2 ^ k + 2 ^ k := Nat.succ_mul _ _
  have hm : m < 2139095040 := by
    rcases Nat.lt_or_ge m 2139095040 with h | h
    · exact h
    · have := A_mono h; omega
  have m4 := m3 hm
  have hlow : s * 2 ^ k < A (m + 1) := by omega
  have h24 : 2 ^ 24 * 2 ^ k ≤ A (m + 1) := by
    have : 2 ^ 24 * 2 ^ k ≤ s * 2 ^ k := Nat.mul_le_mul_right _ (Nat.le_trans (by decide) hs)
    omega
  obtain ⟨⟨a, ha⟩, ⟨b, hb2⟩⟩ := A_dvd m k h24
  rw [Nat.mul_comm] at ha hb2
  -- what the next finer unit says of the middle
  have h25 : 2 ^ 24 * 2 ^ (k + 1) ≤ A (m + 1) := by
    have e : 2 ^ 24 * 2 ^ (k + 1) = 2 ^ 25 * 2 ^ k := by rw [← Nat.pow_add, ← Nat.pow_add]; congr 1; omega
    rw [e]
    have : 2 ^ 25 * 2 ^ k ≤ s * 2 ^ k := Nat.mul_le_mul_right _ (Nat.le_trans (by decide) hs)
    omega
  obtain ⟨⟨c, hc⟩, ⟨d, hd⟩⟩ := A_dvd m (k + 1) h25
  have hmid : A m + A (m + 1) = 2 * (c + d) * 2 ^ k := by
    rw [hc, hd, Nat.pow_succ, ← Nat.mul_add]; generalize 2 ^ k = u
    rw [Nat.mul_comm u 2, Nat.mul_comm (2 * u), Nat.mul_comm 2 u, Nat.mul_comm 2 (c + d), Nat.mul_assoc, Nat.mul_comm 2 u]
  have as : a ≤ s := by
    rw [ha] at m2
    rcases Nat.lt_or_ge s a with g | g
    · exfalso
      have : (s + 1) * 2 ^ k ≤ a * 2 ^ k := Nat.mul_le_mul_right _ g
      omega
    · exact g
  have bs : s + 1 ≤ b := by
    rw [hb2] at hlow
    rcases Nat.lt_or_ge b (s + 1) with g | g
    · exfalso
      have : b * 2 ^ k ≤ s * 2 ^ k := Nat.mul_le_mul_right _ (by omega)
      omega
    · exact g
  have sq : ∀ x y : Nat, (x * 2 ^ k) * (y * 2 ^ k) = x * y * (2 ^ k * 2 ^ k) := fun x y => by rw [Nat.mul_mul_mul_comm]
  have pkk : 0 < 2 ^ k * 2 ^ k := Nat.mul_pos pk pk
  have lowm : A m * A m ≤ s * s * (2 ^ k * 2 ^ k) := by
    rw [ha, sq]; exact Nat.mul_le_mul_right _ (Nat.mul_le_mul as as)
  have him : (s + 1) * (s + 1) * (2 ^ k * 2 ^ k) ≤ A (m + 1) * A (m + 1) := by
    rw [hb2, sq]; exact Nat.mul_le_mul_right _ (Nat.mul_le_mul bs bs)
  refine ⟨m, ⟨hm, by omega, by omega⟩, ?_⟩
  have ne1 : ¬ A m * 2 = (2 * s + 1) * 2 ^ k := by
    have : A m ≤ s * 2 ^ k := by rw [ha]; exact Nat.mul_le_mul_right _ as
    omega
  have ne2 : ¬ A m * A m = n := by omega
  have mid1 : (A m + A (m + 1)) * 2 < 2 * ((2 * s + 1) * 2 ^ k) ↔ c + d ≤ s := by
    rw [hmid]
    constructor
    · intro g
      rcases Nat.lt_or_ge s (c + d) with q | q
      · exfalso
        have : (2 * s + 2) * 2 ^ k ≤ 2 * (c + d) * 2 ^ k := Nat.mul_le_mul_right _ (by omega)
        have e : (2 * s + 2) * 2 ^ k = (2 * s + 1) * 2 ^ k + 2 ^ k := Nat.succ_mul _ _
        omega
      · exact q
    · intro q
      have : 2 * (c + d) * 2 ^ k ≤ (2 * s) * 2 ^ k := Nat.mul_le_mul_right _ (by omega)
      have e : (2 * s + 1) * 2 ^ k = 2 * s * 2 ^ k + 2 ^ k := Nat.succ_mul _ _
      omega
  have mid0 : ¬ (A m + A (m + 1)) * 2 = 2 * ((2 * s + 1) * 2 ^ k) := by
    rw [hmid]
    intro g
    have : 2 * (c + d) = 2 * s + 1 := Nat.eq_of_mul_eq_mul_right pk (by omega)
    omega
  have n4 : n * 4 < (2 * (s + 1)) * (2 * (s + 1)) * (2 ^ k * 2 ^ k) ∧ (2 * s) * (2 * s) * (2 ^ k * 2 ^ k) < n * 4 := by
    have e1 : (2 * (s + 1)) * (2 * (s + 1)) * (2 ^ k * 2 ^ k) = ((s + 1) * (s + 1) * (2 ^ k * 2 ^ k)) * 4 := by
      rw [Nat.mul_mul_mul_comm 2]; generalize (s + 1) * (s + 1) = q; generalize 2 ^ k * 2 ^ k = u
      rw [Nat.mul_assoc (2 * 2), Nat.mul_comm (2 * 2)]
    have e2 : (2 * s) * (2 * s) * (2 ^ k * 2 ^ k) = (s * s * (2 ^ k * 2 ^ k)) * 4 := by
      rw [Nat.mul_mul_mul_comm 2]; generalize s * s = q; generalize 2 ^ k * 2 ^ k = u
      rw [Nat.mul_assoc (2 * 2), Nat.mul_comm (2 * 2)]
    omega
  have mq : (A m + A (m + 1)) * (A m + A (m + 1)) = (2 * (c + d)) * (2 * (c + d)) * (2 ^ k * 2 ^ k) := by rw [hmid, sq]
  have mid2 : (A m + A (m + 1)) * (A m + A (m + 1)) < n * 4 ↔ c + d ≤ s := by
    rw [mq]
    constructor
    · intro g
      rcases Nat.lt_or_ge s (c + d) with q | q
      · exfalso
        have : (2 * (s + 1)) * (2 * (s + 1)) * (2 ^ k * 2 ^ k) ≤ (2 * (c + d)) * (2 * (c + d)) * (2 ^ k * 2 ^ k) := Nat.mul_le_mul_right _ (Nat.mul_le_mul (by omega) (by omega))
        omega
      · exact q
    · intro q
      have : (2 * (c + d)) * (2 * (c + d)) * (2 ^ k * 2 ^ k) ≤ (2 * s) * (2 * s) * (2 ^ k * 2 ^ k) := Nat.mul_le_mul_right _ (Nat.mul_le_mul (by omega) (by omega))
      omega
  have mid3 : ¬ (A m + A (m + 1)) * (A m + A (m + 1)) = n * 4 := by
    intro g
    rw [mq] at g
    rcases Nat.lt_or_ge s (c + d) with q | q
    · have : (2 * (s + 1)) * (2 * (s + 1)) * (2 ^ k * 2 ^ k) ≤ (2 * (c + d)) * (2 * (c + d)) * (2 ^ k * 2 ^ k) := Nat.mul_le_mul_right _ (Nat.mul_le_mul (by omega) (by omega))
      omega
    · have : (2 * (c + d)) * (2 * (c + d)) * (2 ^ k * 2 ^ k) ≤ (2 * s) * (2 * s) * (2 ^ k * 2 ^ k) := Nat.mul_le_mul_right _ (Nat.mul_le_mul (by omega) (by omega))
      omega
  have i : inW way false = decide (way = 2) := by unfold inW; simp
  have o : outW way false = decide (way = 1) := by unfold outW; simp
  unfold pick pickRt
  rw [if_neg (by omega), i, o]
  simp only [decide_eq_true_eq, ne1, ne2, mid0, mid1, mid2, mid3, false_and, or_false, false_or]

/-- Rounding of a whole root is the document's root. -/
theorem root_RT (way E : Int) (s e U N r k : Nat) (he : e ≤ 253) (hN : N = s * 2 ^ U) (N0 : 2 ^ 62 ≤ N) (N1 : N < 2 ^ 64) (hU : U ≤ 63)
    (hk : e + 149 = U + 2 * k) (hE : E = (k : Int) - 149) (hr1 : r * r ≤ N) (hr2 : N < (r + 1) * (r + 1)) :
    ∃ v : Nat, rnd way false E (r : Int) (decide (r * r ≠ N)) = signBit false + (v : Int) ∧ RT way (s * 2 ^ e * 2 ^ 149) v := by
  have hn : s * 2 ^ e * 2 ^ 149 = N * (2 ^ k * 2 ^ k) := by
    rw [hN, Nat.mul_assoc, Nat.mul_assoc, ← Nat.pow_add, ← Nat.pow_add, ← Nat.pow_add]; congr 2; omega
  have r31 : 2 ^ 31 ≤ r := by
    rcases Nat.lt_or_ge r (2 ^ 31) with g | g
    · exfalso
      have g1 : (r + 1) * (r + 1) ≤ 2 ^ 31 * 2 ^ 31 := Nat.mul_le_mul g g
      have g2 : (2 : Nat) ^ 31 * 2 ^ 31 = 2 ^ 62 := by decide
      omega
    · exact g
  have r32 : r < 2 ^ 32 := by
    refine lt_of_sq (Nat.lt_of_le_of_lt hr1 ?_)
    have : (2 : Nat) ^ 32 * 2 ^ 32 = 2 ^ 64 := by decide
    omega
  have n31 : (2 : Nat) ^ 31 = 2147483648 := by decide
  have n32 : (2 : Nat) ^ 32 = 4294967296 := by decide
  have hbd : (r + 1) * 2 ^ k < A 2139095040 := by
    have b1 : (r + 1) * 2 ^ k ≤ 2 ^ 32 * 2 ^ k := Nat.mul_le_mul_right _ r32
    have b2 : 2 ^ 32 * 2 ^ k ≤ 2 ^ 32 * 2 ^ 201 := Nat.mul_le_mul_left _ (Nat.pow_le_pow_right (by decide) (by omega))
    have b3 : (2 : Nat) ^ 32 * 2 ^ 201 < 8388608 * 2 ^ 254 := by decide
    rw [A_inf]; omega
  have hk1 : k ≤ 1100 := by omega
  by_cases hx : r * r = N
  · rw [show decide (r * r ≠ N) = false by simp [hx], hE]
    obtain ⟨v, v1, v2⟩ := rnd_exact way false k r (r * 2 ^ k) (by omega) (by omega) hk1 rfl
    have hlt : r * 2 ^ k < A 2139095040 := Nat.lt_of_le_of_lt (Nat.mul_le_mul_right _ (by omega)) hbd
    exact ⟨v, v1, RT_exact way _ (r * 2 ^ k) v (by rw [hn, ← hx, Nat.mul_mul_mul_comm]) v2 hlt⟩
  · rw [show decide (r * r ≠ N) = true by simp [hx], hE]
    have pk := Nat.two_pow_pos k
    have pkk : 0 < 2 ^ k * 2 ^ k := Nat.mul_pos pk pk
    obtain ⟨v, v1, v2⟩ := rnd_RN way false ((k : Int) - 149) r true ((2 * r + 1) * 2 ^ k) 2 0 k (by omega) (by omega) (by omega) (by omega) (by decide) (by omega)
      (.inr (.inl ⟨rfl, by omega, by rw [Nat.pow_zero, Nat.mul_one]; exact Nat.mul_lt_mul_of_pos_right (by omega) pk, by rw [Nat.pow_zero, Nat.mul_one]; exact Nat.mul_lt_mul_of_pos_right (by omega) pk⟩))
    refine ⟨v, v1, RT_more way _ r k v (Nat.le_trans (by decide) r31) ?_ ?_ hbd v2⟩
    · rw [hn]; exact Nat.mul_lt_mul_of_pos_right (by omega) pkk
    · rw [hn]; exact Nat.mul_lt_mul_of_pos_right hr2 pkk

theorem rnd_low2 (way : Int) (neg : Bool) (exp : Int) (s : Nat) (more : Bool) (h0 : 1 ≤ s) (h1 : s < 18446744073709551616) (he : exp ≤ -300) : rnd way neg exp (s : Int) more = rnd way neg (-300) (s : Int) more := by
  obtain ⟨L, hL, l1, l2, l3⟩ := lz_int s h0 h1
  rw [rnd_form way neg exp s more L h0 hL, rnd_form way neg (-300) s more L h0 hL,
    core_low way neg more (s * 2 ^ L) _ l2 l3 (by (repeat' split) <;> omega), core_low way neg more (s * 2 ^ L) _ l2 l3 (by (repeat' split) <;> omega)]
end Flt
end Go.Proofs.Ytbcmfgohbppndaa

/-
  What follows of fused products and sums, and of roots: against sums and products; each is its own canonical form. No program is named here.
-/
namespace Go.Proofs.Ytbcmfgohbppndaa
namespace Flt

theorem A_one : A 1065353216 = 2 ^ 149 := by
  have := A_form 126 8388608 (by omega) (by omega)
  rw [show (126 : Nat) * 8388608 + 8388608 = 1065353216 by decide] at this
  rw [this, show (8388608 : Nat) = 2 ^ 23 by decide, ← Nat.pow_add]

theorem fma_good (way a b c : Int) (h0 : 0 ≤ a) (g0 : 0 ≤ b) (k0 : 0 ≤ c) (k1 : c < 4294967296) : Good (fmaC way a b c) := by
  by_cases hx : (isNaN a || isNaN b || isNaN c || isNaN (mulBy 0 a b) || isInf a || isInf b || isInf c) = true
  · rw [fmaC_x way a b c h0 g0 k0 k1 hx]
    unfold fmaX
    split
    · exact good_nan
    · rename_i hn
      split
      · split
        · exact good_nan
        · exact mulBy_good 0 a b h0 g0
      · refine ⟨k0, k1, fun h => ?_⟩
        exfalso
        apply hn
        rw [h]; simp
  · rw [Bool.not_eq_true] at hx
    simp only [Bool.or_eq_false_iff] at hx
    obtain ⟨⟨⟨⟨⟨⟨na, nb⟩, nc⟩, _⟩, ia⟩, ib⟩, ic⟩ := hx
    exact good_sumQ (fmaC_fin way a b c h0 g0 k0 k1 ((fin_iff a).1 ⟨na, ia⟩) ((fin_iff b).1 ⟨nb, ib⟩) ((fin_iff c).1 ⟨nc, ic⟩))

theorem fma_one (way a c : Int) (h0 : 0 ≤ a) (h1 : a < 4294967296) (k0 : 0 ≤ c) (k1 : c < 4294967296) : fmaC way a 1065353216 c = addBy way a c := by
  have nb : isNaN 1065353216 = false := by decide
  have ib : isInf 1065353216 = false := by decide
  have sb : sgn 1065353216 = false := by decide
  have zb : ¬ (1065353216 : Int) % 2147483648 = 0 := by decide
  have sx : (sgn a != false) = sgn a := by cases sgn a <;> rfl
  by_cases hx : (isNaN a || isNaN c || isInf a || isInf c) = true
  · have hx2 : (isNaN a || isNaN 1065353216 || isNaN c || isNaN (mulBy 0 a 1065353216) || isInf a || isInf 1065353216 || isInf c) = true := by
      cases na : isNaN a <;> cases nc : isNaN c <;> cases ia : isInf a <;> cases ic : isInf c <;> simp_all
    rw [fmaC_x way a _ c h0 (by omega) k0 k1 hx2]
    unfold fmaX addBy
    cases na : isNaN a
    · cases ia : isInf a
      · have hfin := (fin_iff a).1 ⟨na, ia⟩
        have hm := mulBy_fin_nan 0 a 1065353216 h0 (by omega) hfin ((fin_iff _).1 ⟨nb, ib⟩)
        cases nc : isNaN c
        · have ic : isInf c = true := by rw [na, nc, ia] at hx; simpa using hx
          simp [nb, ib, hm, ic]
        · simp
      · have hp : mulBy 0 a 1065353216 = signBit (sgn a) + 2139095040 := by
          unfold mulBy
          rw [na, nb, ia, ib, sb, sx]
          simp
        have hpa : signBit (sgn a) + 2139095040 = a := (inf_eq a h0 h1 ia).symm
        rw [hp, hpa, na, nb, ib, sb, sx]
        cases nc : isNaN c
        · cases ic : isInf c
          · simp
          · have ec := inf_eq c k0 k1 ic
            by_cases hs : sgn c = sgn a
            · have : c = a := by rw [ec, hs, hpa]
              simp [this]
            · have : ¬ a = c := fun h => hs (by rw [h])
              have hs2 : (sgn c != sgn a) = true := by simp [hs]
              simp [hs2, this]
        · simp
    · simp
  · rw [Bool.not_eq_true] at hx
    simp only [Bool.or_eq_false_iff] at hx
    obtain ⟨⟨⟨na, nc⟩, ia⟩, ic⟩ := hx
    have ha := (fin_iff a).1 ⟨na, ia⟩
    have hc := (fin_iff c).1 ⟨nc, ic⟩
    have h1 := fmaC_fin way a 1065353216 c h0 (by omega) k0 k1 ha ((fin_iff _).1 ⟨nb, ib⟩) hc
    rw [sb, sx, show mg 1065353216 = 1065353216 by decide, A_one] at h1
    have h2 : SumQ way (sgn a) (sgn c) (A (mg a)) (A (mg c)) 1 (addBy way a c) := addBy_fin way a c h0 k0 ha hc
    have h3 := (SumQ_scale (c := 2 ^ 149) (Nat.two_pow_pos _)).2 h2
    rw [Nat.one_mul] at h3
    exact SumQ_one (Nat.two_pow_pos _) h1 h3

theorem fma_nought (way a b : Int) (h0 : 0 ≤ a) (g0 : 0 ≤ b) : fmaC way a b (signBit (sgn a != sgn b)) = mulBy way a b := by
  have s0 : signBit (sgn a != sgn b) = signBit (sgn a != sgn b) + ((0 : Nat) : Int) := by omega
  have hr := signed_range (sgn a != sgn b) 0 (by omega)
  rw [← s0] at hr
  have hsg : sgn (signBit (sgn a != sgn b)) = (sgn a != sgn b) := by rw [s0]; exact sgn_signed _ 0 (by omega)
  have hmg : mg (signBit (sgn a != sgn b)) = 0 := by rw [s0]; exact mg_signed _ 0 (by omega)
  have nc : isNaN (signBit (sgn a != sgn b)) = false := by rw [isNaN_not, hmg]; omega
  have ic : isInf (signBit (sgn a != sgn b)) = false := by rw [isInf_not, hmg]; omega
  by_cases hx : (isNaN a || isNaN b || isInf a || isInf b) = true
  · unfold fmaC
    rw [nc, ic]
    cases hn : isNaN (mulBy way a b)
    · cases hi : (isInf a || isInf b)
      · exfalso
        have ha : isInf a = false := by cases h : isInf a <;> simp_all
        have hb : isInf b = false := by cases h : isInf b <;> simp_all
        rw [ha, hb] at hx
        have hnn : isNaN a = true ∨ isNaN b = true := by simpa using hx
        have : mulBy way a b = 2143289344 := by unfold mulBy; rw [if_pos hnn]
        rw [this] at hn
        revert hn; decide
      · simp
    · have := (mulBy_good way a b h0 g0).2.2 hn
      simp [this]
  · rw [Bool.not_eq_true] at hx
    simp only [Bool.or_eq_false_iff] at hx
    obtain ⟨⟨⟨na, nb⟩, ia⟩, ib⟩ := hx
    have ha := (fin_iff a).1 ⟨na, ia⟩
    have hb := (fin_iff b).1 ⟨nb, ib⟩
    have h1 := fmaC_fin way a b _ h0 g0 hr.1 hr.2 ha hb (by rw [hmg]; omega)
    rw [hsg, hmg, A_zero, Nat.zero_mul] at h1
    obtain ⟨r, r1, r2⟩ := mulBy_fin way a b h0 g0 ha hb
    obtain ⟨q1, q2, _⟩ := h1
    rcases Nat.eq_zero_or_pos (A (mg a) * A (mg b)) with hz | hz
    · rw [q1 rfl (by omega), r1]
      rw [hz] at r2
      have := RN_one (Nat.two_pow_pos 149) r2 (RN_zero way _ (2 ^ 149) (Nat.two_pow_pos _))
      rw [this]; omega
    · obtain ⟨v, v1, v2⟩ := q2 rfl (by omega)
      rw [v1, r1, RN_one (Nat.two_pow_pos 149) v2 r2]

theorem RT_le {way : Int} {n r : Nat} (h : RT way n r) : r ≤ 2139095040 := by
  obtain ⟨m, ⟨m1, _, _⟩, rfl⟩ := h
  unfold pickRt
  (repeat' split) <;> omega
end Flt
end Go.Proofs.Ytbcmfgohbppndaa

/-
  Whole numbers come back, roots and squares: the mathematics of P2.7 and P2.8.
-/
namespace Go.Proofs.Ytbcmfgohbppndaa
namespace Flt

theorem rep_lt {n m : Nat} (hn : n ≤ 16777216) (h : A m = n * 2 ^ 149) : m ≤ 1266679808 := by
  have e : A 1266679808 = 16777216 * 2 ^ 149 := by
    have := A_form 150 8388608 (by omega) (by omega)
    rw [show (150 : Nat) * 8388608 + 8388608 = 1266679808 by decide] at this
    rw [this]
  rcases Nat.lt_or_ge 1266679808 m with g | g
  · have := A_strict g
    rw [e, h] at this
    have := Nat.lt_of_mul_lt_mul_right this
    omega
  · exact g

/-- A whole number of at most 2^24 is a float. -/
theorem fromInt_rep (n : Int) (h0 : -16777216 ≤ n) (h1 : n ≤ 16777216) :
    ∃ m : Nat, rnd 0 (decide (n < 0)) 0 (n.natAbs : Int) false = signBit (decide (n < 0)) + (m : Int) ∧ A m = n.natAbs * 2 ^ 149 ∧ m ≤ 1266679808 := by
  by_cases hz : n = 0
  · subst hz
    exact ⟨0, by decide +kernel, by decide +kernel, by omega⟩
  · obtain ⟨v, v1, v2⟩ := rnd_exact 0 (decide (n < 0)) 149 n.natAbs (n.natAbs * 2 ^ 149) (by omega) (by omega) (by omega) rfl
    obtain ⟨m, hm⟩ := repr_of 149 n.natAbs (by omega)
    have hl := rep_lt (by omega) hm
    rw [← hm] at v2
    have e := RN_exact (q := 1) (m := m) (by decide) (by omega) (by rw [Nat.mul_one]; exact v2)
    refine ⟨m, ?_, hm, hl⟩
    rw [← e, ← v1]; rfl

theorem back (n : Int) (h0 : -16777216 ≤ n) (h1 : n ≤ 16777216) : toIntV (rnd 0 (decide (n < 0)) 0 (n.natAbs : Int) false) = n := by
  obtain ⟨m, e, hm, hl⟩ := fromInt_rep n h0 h1
  rw [e]
  unfold toIntV
  have nn : isNaN (signBit (decide (n < 0)) + (m : Int)) = false := by rw [isNaN_not, mg_signed _ _ (by omega)]; omega
  rw [nn, mg_signed _ _ (by omega), sgn_signed _ _ (by omega), hm, Nat.mul_div_cancel _ (Nat.two_pow_pos 149)]
  rw [if_neg (by simp), if_neg (by omega)]
  by_cases hn : n < 0
  · simp only [hn, decide_true, if_true]; omega
  · simp only [hn, decide_false]; simp; omega

theorem less_signed (s : Bool) (x y : Nat) (hx : x ≤ 2139095040) (hy : y ≤ 2139095040) :
    lessF (signBit s + (x : Int)) (signBit s + (y : Int)) = if s = true then decide (y < x) else decide (x < y) := by
  unfold lessF
  have n1 : isNaN (signBit s + (x : Int)) = false := by rw [isNaN_not, mg_signed _ _ (by omega)]; omega
  have n2 : isNaN (signBit s + (y : Int)) = false := by rw [isNaN_not, mg_signed _ _ (by omega)]; omega
  rw [n1, n2, place_signed _ _ (by omega), place_signed _ _ (by omega)]
  cases s <;> simp
theorem equal_signed (s : Bool) (x y : Nat) (hx : x ≤ 2139095040) (hy : y ≤ 2139095040) :
    equalF (signBit s + (x : Int)) (signBit s + (y : Int)) = decide (x = y) := by
  unfold equalF
  have n1 : isNaN (signBit s + (x : Int)) = false := by rw [isNaN_not, mg_signed _ _ (by omega)]; omega
  have n2 : isNaN (signBit s + (y : Int)) = false := by rw [isNaN_not, mg_signed _ _ (by omega)]; omega
  rw [n1, n2, place_signed _ _ (by omega), place_signed _ _ (by omega)]
  rw [Bool.eq_iff_iff]
  cases s <;> simp <;> omega

theorem whole_fix (way : Int) (s : Bool) (m N : Nat) (hm : m < 2139095040) (hA : A m = N * 2 ^ 149) : wholeC way (signBit s + (m : Int)) = signBit s + (m : Int) := by
  obtain ⟨r0, r1⟩ := signed_range s m (by omega)
  obtain ⟨m', N', e1, e2, e3, e4⟩ := wholeC_spec way (signBit s + (m : Int)) r0 r1 (by rw [mg_signed _ _ (by omega)]; exact hm)
  rw [mg_signed _ _ (by omega), sgn_signed _ _ (by omega)] at e4
  rw [sgn_signed _ _ (by omega)] at e1
  have hr : A m % 2 ^ 149 = 0 := by rw [hA, Nat.mul_mod_left]
  have hd : A m / 2 ^ 149 = N := by rw [hA, Nat.mul_div_cancel _ (Nat.two_pow_pos 149)]
  rcases e4 with ⟨⟨g, _⟩, _⟩ | ⟨_, e4⟩
  · exact absurd hr g
  · rw [hd] at e4
    rw [e4, ← hA] at e3
    rw [e1, A_inj e3]

theorem div_rest (V K n r : Nat) (hn : V / K = n) (hr : V % K = r) : V = n * K + r := by
  rw [← hn, ← hr, Nat.mul_comm]; exact (Nat.div_add_mod V K).symm

/-- Floor, Ceil and Even of one float, all that is asked of them. -/
theorem wholes (a : Int) (h0 : 0 ≤ a) (h1 : a < 4294967296) (ha : mg a < 2139095040) :
    ∃ f c e F C E : Nat, wholeC 2 a = signBit (sgn a) + (f : Int) ∧ wholeC 1 a = signBit (sgn a) + (c : Int) ∧ wholeC 0 a = signBit (sgn a) + (e : Int) ∧
      f < 2139095040 ∧ c < 2139095040 ∧ e < 2139095040 ∧ A f = F * 2 ^ 149 ∧ A c = C * 2 ^ 149 ∧ A e = E * 2 ^ 149 ∧
      (sgn a = false → f ≤ mg a ∧ mg a ≤ c) ∧ (sgn a = true → c ≤ mg a ∧ mg a ≤ f) ∧ (f = mg a ↔ c = mg a) ∧ (e = f ∨ e = c) := by
  obtain ⟨f, F, f1, f2, f3, f4⟩ := wholeC_spec 2 a h0 h1 ha
  obtain ⟨c, C, c1, c2, c3, c4⟩ := wholeC_spec 1 a h0 h1 ha
  obtain ⟨e, E, e1, e2, e3, e4⟩ := wholeC_spec 0 a h0 h1 ha
  refine ⟨f, c, e, F, C, E, f1, c1, e1, f2, c2, e2, f3, c3, e3, ?_⟩
  obtain ⟨n, hn⟩ : ∃ n, A (mg a) / 2 ^ 149 = n := ⟨_, rfl⟩
  obtain ⟨r, hr⟩ : ∃ r, A (mg a) % 2 ^ 149 = r := ⟨_, rfl⟩
  have hV := div_rest _ _ _ _ hn hr
  have hlt : r < 2 ^ 149 := by rw [← hr]; exact Nat.mod_lt _ (Nat.two_pow_pos 149)
  unfold goes at f4 c4 e4
  rw [hn, hr] at f4 c4 e4
  rw [if_neg (by decide), if_pos rfl] at f4
  rw [if_pos rfl] at c4
  obtain ⟨K, hK⟩ : ∃ K : Nat, 2 ^ 149 = K := ⟨_, rfl⟩
  rw [hK] at hV hlt f3 c3 e3
  have inj : ∀ {x y X Y : Nat}, A x = X * K → A y = Y * K → X = Y → x = y := fun hx hy h => A_inj (by rw [hx, hy, h])
  have le_of : ∀ {x y : Nat}, A x ≤ A y → x ≤ y := fun {x y} h => by
    rcases Nat.lt_or_ge y x with g | g
    · have := A_strict g; omega
    · exact g
  have up : ∀ {x : Nat}, A x = (n + 1) * K → mg a ≤ x ∧ x ≠ mg a := fun {x} h => by
    have h2 : A x = n * K + K := by rw [h, Nat.add_mul, Nat.one_mul]
    refine ⟨le_of (by omega), fun h3 => ?_⟩
    rw [h3] at h2; omega
  have dn : ∀ {x : Nat}, A x = n * K → x ≤ mg a ∧ (x = mg a ↔ r = 0) := fun {x} h => by
    refine ⟨le_of (by omega), fun h3 => ?_, fun h3 => ?_⟩
    · rw [h3] at h; omega
    · exact A_inj (by omega)
  have hE : E = n ∨ (E = n + 1 ∧ r ≠ 0) := by
    rcases e4 with ⟨⟨g, _⟩, h⟩ | ⟨_, h⟩
    · exact .inr ⟨h, g⟩
    · exact .inl h
  have fin : ∀ {X Y : Nat}, F = X → C = Y → ((X = n ∧ Y = n + 1 ∧ r ≠ 0) ∨ (X = n + 1 ∧ Y = n ∧ r ≠ 0) ∨ (X = n ∧ Y = n ∧ r = 0)) → e = f ∨ e = c := by
    intro X Y hX hY h
    rcases hE with h2 | ⟨h2, h3⟩
    · rcases h with h | h | h
      · exact .inl (inj e3 f3 (by omega))
      · exact .inr (inj e3 c3 (by omega))
      · exact .inl (inj e3 f3 (by omega))
    · rcases h with h | h | h
      · exact .inr (inj e3 c3 (by omega))
      · exact .inl (inj e3 f3 (by omega))
      · omega
  by_cases hz : r = 0
  · have hF : F = n := by rcases f4 with ⟨⟨g, _⟩, _⟩ | ⟨_, h⟩; (exact absurd hz g); exact h
    have hC : C = n := by rcases c4 with ⟨⟨g, _⟩, _⟩ | ⟨_, h⟩; (exact absurd hz g); exact h
    rw [hF] at f3; rw [hC] at c3
    have x1 := dn f3
    have x2 := dn c3
    have y1 := x1.2.2 hz
    have y2 := x2.2.2 hz
    exact ⟨fun _ => ⟨by omega, by omega⟩, fun _ => ⟨by omega, by omega⟩, ⟨fun _ => y2, fun _ => y1⟩, .inl (inj e3 f3 (by rcases hE with h | ⟨_, h⟩; exact h; exact absurd hz h))⟩
  · cases hs : sgn a
    · rw [hs] at f4 c4
      have hF : F = n := by rcases f4 with ⟨⟨_, g⟩, _⟩ | ⟨_, h⟩; (cases g); exact h
      have hC : C = n + 1 := by rcases c4 with ⟨_, h⟩ | ⟨g, _⟩; exact h; exact absurd ⟨hz, rfl⟩ g
      have hl := fin hF hC (.inl ⟨rfl, rfl, hz⟩)
      rw [hF] at f3; rw [hC] at c3
      have x1 := dn f3
      have x2 := up c3
      exact ⟨fun _ => ⟨x1.1, x2.1⟩, fun h => (by cases h), ⟨fun h => absurd (x1.2.1 h) hz, fun h => absurd h x2.2⟩, hl⟩
    · rw [hs] at f4 c4
      have hC : C = n := by rcases c4 with ⟨⟨_, g⟩, _⟩ | ⟨_, h⟩; (cases g); exact h
      have hF : F = n + 1 := by rcases f4 with ⟨_, h⟩ | ⟨g, _⟩; exact h; exact absurd ⟨hz, rfl⟩ g
      have hl := fin hF hC (.inr (.inl ⟨rfl, rfl, hz⟩))
      rw [hF] at f3; rw [hC] at c3
      have x1 := dn c3
      have x2 := up f3
      exact ⟨fun h => (by cases h), fun _ => ⟨x1.1, x2.1⟩, ⟨fun h => absurd h x2.2, fun h => absurd (x1.2.1 h) hz⟩, hl⟩

/-- Squares of whole numbers up to 4096 have these as their roots. -/
theorem square_rep (n : Int) (h0 : 0 ≤ n) (h1 : n ≤ 4096) :
    ∃ m m2 : Nat, rnd 0 (decide (n < 0)) 0 (n.natAbs : Int) false = (m : Int) ∧ m ≤ 1266679808 ∧ mulBy 0 (m : Int) (m : Int) = (m2 : Int) ∧ m2 ≤ 1266679808 ∧ A m2 * 2 ^ 149 = A m * A m ∧ (m2 = 0 → m = 0) := by
  obtain ⟨m, e, hm, hl⟩ := fromInt_rep n (by omega) (by omega)
  have hd : decide (n < 0) = false := by simp; omega
  have hsq : n.natAbs * n.natAbs ≤ 16777216 := by
    have := Nat.mul_le_mul (show n.natAbs ≤ 4096 by omega) (show n.natAbs ≤ 4096 by omega); omega
  obtain ⟨m2, hm2⟩ := repr_of 149 (n.natAbs * n.natAbs) hsq
  have hl2 := rep_lt hsq hm2
  have ep : A m * A m = A m2 * 2 ^ 149 := by
    rw [hm, hm2]
    generalize (2 : Nat) ^ 149 = K
    ac_rfl
  have sm : sgn (m : Int) = false := by unfold sgn; simp; omega
  have mm : mg (m : Int) = m := by unfold mg; omega
  refine ⟨m, m2, ?_, hl, ?_, hl2, ep.symm, ?_⟩
  · rw [e, hd]; simp [signBit]
  · obtain ⟨r, r1, r2⟩ := mulBy_fin 0 (m : Int) (m : Int) (by omega) (by omega) (by omega) (by omega)
    rw [sm, mm, ep] at r2
    have := RN_exact (Nat.two_pow_pos 149) (by omega) r2
    rw [r1, sm, this]; simp [signBit]
  · intro hz
    rw [hz, A_zero] at ep
    have : A m = 0 := by
      rw [Nat.zero_mul] at ep
      rcases Nat.mul_eq_zero.1 ep with h | h <;> exact h
    exact A_inj (by rw [this, A_zero])

theorem RT_sq (m : Nat) (hm : m < 2139095040) : RT 0 (A m * A m) m := by
  refine ⟨m, ⟨hm, Nat.le_refl _, Nat.mul_lt_mul'' (A_lt_succ m) (A_lt_succ m)⟩, ?_⟩
  unfold pickRt; rw [if_pos (.inl rfl)]

theorem le_of_A {x y : Nat} (h : A x ≤ A y) : x ≤ y := by
  rcases Nat.lt_or_ge y x with g | g
  · have := A_strict g; omega
  · exact g

theorem root_far {n m : Nat} (h : A m * A m ≤ A n * 2 ^ 149) (hn : n < 2139095040) : m + 1 < 2139095040 := by
  rcases Nat.lt_or_ge (m + 1) 2139095040 with g | g
  · exact g
  · exfalso
    have e : A 2130706432 = 8388608 * 2 ^ 253 := by
      have := A_form 253 8388608 (by omega) (by omega)
      rw [show (253 : Nat) * 8388608 + 8388608 = 2130706432 by decide] at this
      exact this
    have h1 := A_mono (show 2130706432 ≤ m by omega)
    have h2 := Nat.mul_le_mul h1 h1
    have h3 := A_strict hn
    rw [A_inf] at h3
    have h4 := Nat.mul_lt_mul_of_pos_right h3 (Nat.two_pow_pos 149)
    rw [e] at h2
    have h5 : 8388608 * 2 ^ 254 * 2 ^ 149 ≤ 8388608 * 2 ^ 253 * (8388608 * 2 ^ 253) := by decide
    omega

/-- Of a number above 0: its lesser and its greater root, and their squares rounded down and up. -/
theorem roots (n l h rb ra : Nat) (hn : n < 2139095040) (hl : RT 2 (A n * 2 ^ 149) l) (hh : RT 1 (A n * 2 ^ 149) h)
    (hb : RN 2 false (A l * A l) (2 ^ 149) rb) (ha : RN 1 false (A h * A h) (2 ^ 149) ra) : rb ≤ n ∧ n ≤ ra ∧ l ≤ h := by
  obtain ⟨m, i1, rfl⟩ := hl
  obtain ⟨m', i2, rfl⟩ := hh
  have e := isRt_one i1 i2
  subst e
  have e1 : pickRt 2 (A n * 2 ^ 149) m = m := by unfold pickRt; rw [if_pos (.inr rfl)]
  rw [e1] at hb ⊢
  refine ⟨?_, ?_, ?_⟩
  · obtain ⟨k, ⟨k1, k2, k3⟩, rfl⟩ := hb
    have h1 : A k ≤ A n := Nat.le_of_mul_le_mul_right (Nat.le_trans k2 i1.2.1) (Nat.two_pow_pos 149)
    have h2 := le_of_A h1
    unfold pick
    rw [if_neg (by omega), if_pos (.inr rfl)]
    exact h2
  · have hp : A n * 2 ^ 149 ≤ A (pickRt 1 (A n * 2 ^ 149) m) * A (pickRt 1 (A n * 2 ^ 149) m) := by
      unfold pickRt
      by_cases hx : A m * A m = A n * 2 ^ 149
      · rw [if_pos (.inl hx)]; omega
      · rw [if_neg (by rintro (h | h); exact hx h; cases h), if_pos rfl]; have := i2.2.2; omega
    generalize A (pickRt 1 (A n * 2 ^ 149) m) * A (pickRt 1 (A n * 2 ^ 149) m) = p at ha hp
    obtain ⟨k, ⟨k1, k2, k3⟩, rfl⟩ := ha
    unfold pick
    by_cases hi : k = 2139095040
    · rw [if_pos hi, if_neg (by decide)]; omega
    · rw [if_neg hi]
      by_cases hx : A k * 2 ^ 149 = p
      · rw [if_pos (.inl hx)]
        rw [← hx] at hp
        exact le_of_A (Nat.le_of_mul_le_mul_right hp (Nat.two_pow_pos 149))
      · rw [if_neg (by rintro (h | h); exact hx h; cases h), if_pos (by decide)]
        have := Nat.lt_of_le_of_lt hp (k3 (by omega))
        exact le_of_A (Nat.le_of_lt (Nat.lt_of_mul_lt_mul_right this))
  · unfold pickRt; (repeat' split) <;> omega
end Flt
end Go.Proofs.Ytbcmfgohbppndaa

/-
  Plain facts on rows of digits (of 32 bits, the lowest first) and the whole numbers that they stand for. No program is named here.
-/
namespace Go.Proofs.Ytbcmfgohbppndaa
namespace Dg

def natOf : List Nat → Nat
  | [] => 0
  | d :: ds => d + 4294967296 * natOf ds

theorem natOf_append (xs ys : List Nat) : natOf (xs ++ ys) = natOf xs + 4294967296 ^ xs.length * natOf ys := by
  induction xs with
  | nil => simp [natOf]
  | cons x xs ih =>
    simp only [List.cons_append, natOf, ih, List.length_cons, Nat.pow_succ, Nat.mul_add]
    have : 4294967296 ^ xs.length * 4294967296 * natOf ys = 4294967296 * (4294967296 ^ xs.length * natOf ys) := by ac_rfl
    omega
theorem natOf_snoc (xs : List Nat) (d : Nat) : natOf (xs ++ [d]) = natOf xs + 4294967296 ^ xs.length * d := by
  rw [natOf_append]; simp [natOf]
theorem natOf_lt (ds : List Nat) (h : ∀ d ∈ ds, d < 4294967296) : natOf ds < 4294967296 ^ ds.length := by
  induction ds with
  | nil => simp [natOf]
  | cons d ds ih =>
    have h1 := h d (by simp)
    have h2 := ih (fun x hx => h x (by simp [hx]))
    simp only [natOf, List.length_cons, Nat.pow_succ]
    have h3 : (natOf ds + 1) * 4294967296 ≤ 4294967296 ^ ds.length * 4294967296 := Nat.mul_le_mul_right _ h2
    omega
theorem getD_lt (ds : List Nat) (h : ∀ d ∈ ds, d < 4294967296) (i : Nat) : ds.getD i 0 < 4294967296 := by
  by_cases hi : i < ds.length
  · rw [List.getD_eq_getElem?_getD, List.getElem?_eq_getElem hi]; exact h _ (List.getElem_mem hi)
  · rw [List.getD_eq_getElem?_getD, List.getElem?_eq_none (by omega)]; simp
theorem take_succ (ds : List Nat) (i : Nat) (hi : i < ds.length) : ds.take (i + 1) = ds.take i ++ [ds.getD i 0] := by
  rw [List.take_succ_eq_append_getElem hi, List.getD_eq_getElem?_getD, List.getElem?_eq_getElem hi]; rfl
theorem natOf_take_succ (ds : List Nat) (i : Nat) (hi : i < ds.length) : natOf (ds.take (i + 1)) = natOf (ds.take i) + 4294967296 ^ i * ds.getD i 0 := by
  rw [take_succ ds i hi, natOf_snoc, List.length_take, Nat.min_eq_left (by omega)]
theorem natOf_take_ge (ds : List Nat) (i : Nat) (hi : ds.length ≤ i) : natOf (ds.take i) = natOf ds := by rw [List.take_of_length_le hi]
/-- A round beyond the end adds a nought. -/
theorem natOf_take_step (ds : List Nat) (i : Nat) : natOf (ds.take (i + 1)) = natOf (ds.take i) + 4294967296 ^ i * ds.getD i 0 := by
  by_cases hi : i < ds.length
  · exact natOf_take_succ ds i hi
  · rw [natOf_take_ge ds (i + 1) (by omega), natOf_take_ge ds i (by omega), List.getD_eq_getElem?_getD, List.getElem?_eq_none (by omega)]; simp
theorem natOf_split (ds : List Nat) (i : Nat) (hi : i < ds.length) : natOf ds = natOf (ds.take i) + 4294967296 ^ i * (ds.getD i 0 + 4294967296 * natOf (ds.drop (i + 1))) := by
  have e : ds = ds.take i ++ (ds.getD i 0 :: ds.drop (i + 1)) := by
    rw [List.getD_eq_getElem?_getD, List.getElem?_eq_getElem hi]
    simp
  have := natOf_append (ds.take i) (ds.getD i 0 :: ds.drop (i + 1))
  rw [← e, List.length_take, Nat.min_eq_left (by omega)] at this
  rw [this]; rfl
theorem natOf_zeros (ds : List Nat) (h : ∀ i, i < ds.length → ds.getD i 0 = 0) : natOf ds = 0 := by
  induction ds with
  | nil => rfl
  | cons d ds ih =>
    have h0 := h 0 (by simp)
    have h1 := ih (fun i hi => by have := h (i + 1) (by simp; omega); simpa using this)
    simp at h0
    simp [natOf, h0, h1]
/-- Without the noughts at the end. -/
theorem natOf_trim (ds : List Nat) (k : Nat) (hk : k ≤ ds.length) (h : ∀ i, k ≤ i → i < ds.length → ds.getD i 0 = 0) : natOf (ds.take k) = natOf ds := by
  have e := natOf_append (ds.take k) (ds.drop k)
  rw [List.take_append_drop] at e
  have z : natOf (ds.drop k) = 0 := by
    apply natOf_zeros
    intro i hi
    rw [List.length_drop] at hi
    have := h (k + i) (by omega) (by omega)
    rw [List.getD_eq_getElem?_getD] at this ⊢
    rw [List.getElem?_drop]; exact this
  rw [e, z]; simp
/-- The last digit is no nought. -/
def Norm (ds : List Nat) : Prop := ds = [] ∨ ds.getD (ds.length - 1) 0 ≠ 0
theorem norm_ge (ds : List Nat) (hn : Norm ds) (h0 : 0 < ds.length) : 4294967296 ^ (ds.length - 1) ≤ natOf ds := by
  have h1 : ds.getD (ds.length - 1) 0 ≠ 0 := by
    rcases hn with h | h
    · subst h; simp at h0
    · exact h
  have e := natOf_split ds (ds.length - 1) (by omega)
  have h2 : 4294967296 ^ (ds.length - 1) * 1 ≤ 4294967296 ^ (ds.length - 1) * (ds.getD (ds.length - 1) 0 + 4294967296 * natOf (ds.drop (ds.length - 1 + 1))) := Nat.mul_le_mul_left _ (by omega)
  omega
theorem len_lt_of (as bs : List Nat) (ha : ∀ d ∈ as, d < 4294967296) (hb : Norm bs) (h : as.length < bs.length) : natOf as < natOf bs := by
  have h1 := natOf_lt as ha
  have h2 := norm_ge bs hb (by omega)
  have h3 : 4294967296 ^ as.length ≤ 4294967296 ^ (bs.length - 1) := Nat.pow_le_pow_right (by decide) (by omega)
  omega
/-- Of rows of one length, alike behind a place: that place decides. -/
theorem lt_at (as bs : List Nat) (i : Nat) (ha : ∀ d ∈ as, d < 4294967296) (hi : i < as.length) (hl : as.length = bs.length) (he : as.drop (i + 1) = bs.drop (i + 1)) (h : as.getD i 0 < bs.getD i 0) :
    natOf as < natOf bs := by
  have e1 := natOf_split as i hi
  have e2 := natOf_split bs i (by omega)
  rw [he] at e1
  have h1 : natOf (as.take i) < 4294967296 ^ i := by
    have := natOf_lt (as.take i) (fun d hd => ha d (List.mem_of_mem_take hd))
    rw [List.length_take, Nat.min_eq_left (by omega)] at this; exact this
  have h2 : 4294967296 ^ i * (as.getD i 0 + 4294967296 * natOf (bs.drop (i + 1)) + 1) ≤ 4294967296 ^ i * (bs.getD i 0 + 4294967296 * natOf (bs.drop (i + 1))) := Nat.mul_le_mul_left _ (by omega)
  rw [Nat.mul_add _ _ 1, Nat.mul_one] at h2
  omega
theorem drop_step (as bs : List Nat) (i : Nat) (hi : i < as.length) (hl : as.length = bs.length) (he : as.drop (i + 1) = bs.drop (i + 1)) (h : as.getD i 0 = bs.getD i 0) : as.drop i = bs.drop i := by
  rw [List.drop_eq_getElem_cons hi, List.drop_eq_getElem_cons (show i < bs.length by omega), he]
  congr 1
  rw [List.getD_eq_getElem?_getD, List.getElem?_eq_getElem hi, List.getD_eq_getElem?_getD, List.getElem?_eq_getElem (show i < bs.length by omega)] at h
  exact h
/-- A round of a sum. -/
theorem plus_step (xs ys os : List Nat) (k q x y : Nat) (hk : os.length = k) (hx : xs.getD k 0 = x) (hy : ys.getD k 0 = y) (hv : natOf os + 4294967296 ^ k * q = natOf (xs.take k) + natOf (ys.take k)) :
    natOf (os ++ [(q + x + y) % 4294967296]) + 4294967296 ^ (k + 1) * ((q + x + y) / 4294967296) = natOf (xs.take (k + 1)) + natOf (ys.take (k + 1)) := by
  rw [natOf_snoc, hk, natOf_take_step xs k, natOf_take_step ys k, hx, hy, Nat.pow_succ]
  have e : 4294967296 ^ k * ((q + x + y) % 4294967296) + 4294967296 ^ k * 4294967296 * ((q + x + y) / 4294967296) = 4294967296 ^ k * (q + x + y) := by
    rw [Nat.mul_assoc, ← Nat.mul_add]; congr 1; omega
  rw [Nat.mul_add, Nat.mul_add] at e
  omega
/-- A round of a difference. -/
theorem minus_step (xs ys os : List Nat) (k q q' x y d : Nat) (hk : os.length = k) (hx : xs.getD k 0 = x) (hy : ys.getD k 0 = y) (hd : d + (q + y) = x + 4294967296 * q')
    (hv : natOf os + natOf (ys.take k) = natOf (xs.take k) + 4294967296 ^ k * q) :
    natOf (os ++ [d]) + natOf (ys.take (k + 1)) = natOf (xs.take (k + 1)) + 4294967296 ^ (k + 1) * q' := by
  rw [natOf_snoc, hk, natOf_take_step xs k, natOf_take_step ys k, hx, hy, Nat.pow_succ, Nat.mul_assoc]
  have e : 4294967296 ^ k * d + 4294967296 ^ k * q + 4294967296 ^ k * y = 4294967296 ^ k * x + 4294967296 ^ k * (4294967296 * q') := by
    rw [← Nat.mul_add, ← Nat.mul_add, ← Nat.mul_add]; congr 1; omega
  omega
theorem minus_end (xs ys os : List Nat) (q : Nat) (hk : os.length = xs.length) (hdo : ∀ d ∈ os, d < 4294967296) (hdx : ∀ d ∈ xs, d < 4294967296) (hny : Norm ys) (hlt : natOf ys < natOf xs) (hq : q ≤ 1)
    (hv : natOf os + natOf (ys.take xs.length) = natOf (xs.take xs.length) + 4294967296 ^ xs.length * q) : natOf os = natOf xs - natOf ys := by
  have hl : ys.length ≤ xs.length := by
    rcases Nat.lt_or_ge xs.length ys.length with h | h
    · have := len_lt_of xs ys hdx hny h; omega
    · exact h
  rw [natOf_take_ge ys _ hl, natOf_take_ge xs _ (Nat.le_refl _)] at hv
  have h1 := natOf_lt os hdo
  rw [hk] at h1
  rcases Nat.eq_zero_or_pos q with h | h
  · subst h; omega
  · have e : q = 1 := by omega
    subst e; omega
/-- A round of a doubling. -/
theorem twice_step (xs os : List Nat) (i j r K c x : Nat) (hl : os.length = j + i) (hx : xs.getD i 0 = x) (hK : K = 32 * j + r)
    (hv : natOf os + 4294967296 ^ (j + i) * c = natOf (xs.take i) * 2 ^ K) :
    natOf (os ++ [(x * 2 ^ r + c) % 4294967296]) + 4294967296 ^ (j + (i + 1)) * ((x * 2 ^ r + c) / 4294967296) = natOf (xs.take (i + 1)) * 2 ^ K := by
  rw [natOf_snoc, hl, natOf_take_step xs i, hx, show j + (i + 1) = j + i + 1 by omega, Nat.pow_succ, Nat.mul_assoc]
  have e : 4294967296 ^ (j + i) * ((x * 2 ^ r + c) % 4294967296) + 4294967296 ^ (j + i) * (4294967296 * ((x * 2 ^ r + c) / 4294967296)) = 4294967296 ^ (j + i) * (x * 2 ^ r) + 4294967296 ^ (j + i) * c := by
    rw [← Nat.mul_add, ← Nat.mul_add]; congr 1; omega
  have e2 : 4294967296 ^ (j + i) * (x * 2 ^ r) = 4294967296 ^ i * x * 2 ^ K := by
    rw [hK, Nat.pow_add 2, Nat.pow_add 4294967296, show (4294967296 : Nat) ^ j = 2 ^ (32 * j) by rw [Nat.pow_mul]]; ac_rfl
  rw [Nat.add_mul]
  omega
theorem natOf_replicate (n : Nat) : natOf (List.replicate n 0) = 0 := by
  induction n with
  | zero => rfl
  | succ n ih => rw [List.replicate_succ]; simp [natOf, ih]
/-- One digit put in the place of another. -/
theorem natOf_set (os : List Nat) (p e : Nat) (hp : p < os.length) : natOf (os.set p e) + 4294967296 ^ p * os.getD p 0 = natOf os + 4294967296 ^ p * e := by
  have h1 := natOf_split os p hp
  have h2 := natOf_split (os.set p e) p (by simpa using hp)
  have g1 : (os.set p e).take p = os.take p := by rw [List.take_set_of_le (Nat.le_refl p)]
  have g2 : (os.set p e).drop (p + 1) = os.drop (p + 1) := by rw [List.drop_set_of_lt (by omega)]
  have g3 : (os.set p e).getD p 0 = e := by rw [List.getD_eq_getElem?_getD, List.getElem?_set_self hp]; rfl
  rw [g1, g2, g3] at h2
  rw [Nat.mul_add] at h1 h2
  omega
/-- A step of a product: one digit times one digit. -/
theorem times_step (os os2 ys : List Nat) (n m q x y d : Nat) (hp : n + m < os2.length) (hy : ys.getD m 0 = y) (hd : os2.getD (n + m) 0 = d)
    (hv : natOf os2 + 4294967296 ^ (n + m) * q = natOf os + 4294967296 ^ n * (x * natOf (ys.take m))) :
    natOf (os2.set (n + m) ((x * y + d + q) % 4294967296)) + 4294967296 ^ (n + (m + 1)) * ((x * y + d + q) / 4294967296) = natOf os + 4294967296 ^ n * (x * natOf (ys.take (m + 1))) := by
  have h1 := natOf_set os2 (n + m) ((x * y + d + q) % 4294967296) hp
  rw [hd] at h1
  rw [natOf_take_step ys m, hy, show n + (m + 1) = n + m + 1 by omega, Nat.pow_succ, Nat.mul_assoc]
  have e : 4294967296 ^ (n + m) * ((x * y + d + q) % 4294967296) + 4294967296 ^ (n + m) * (4294967296 * ((x * y + d + q) / 4294967296)) = 4294967296 ^ (n + m) * (x * y) + 4294967296 ^ (n + m) * d + 4294967296 ^ (n + m) * q := by
    rw [← Nat.mul_add, ← Nat.mul_add, ← Nat.mul_add]; congr 1; omega
  have e2 : 4294967296 ^ n * (x * (natOf (ys.take m) + 4294967296 ^ m * y)) = 4294967296 ^ n * (x * natOf (ys.take m)) + 4294967296 ^ (n + m) * (x * y) := by
    rw [Nat.mul_add, Nat.mul_add, Nat.pow_add]; congr 1; ac_rfl
  omega
/-- The end of a row of such steps. -/
theorem times_end (os os2 xs ys : List Nat) (n q x : Nat) (hp : n + ys.length < os2.length) (hx : xs.getD n 0 = x) (hz : os2.getD (n + ys.length) 0 = 0)
    (h0 : natOf os = natOf (xs.take n) * natOf ys)
    (hv : natOf os2 + 4294967296 ^ (n + ys.length) * q = natOf os + 4294967296 ^ n * (x * natOf (ys.take ys.length))) :
    natOf (os2.set (n + ys.length) q) = natOf (xs.take (n + 1)) * natOf ys := by
  have h1 := natOf_set os2 (n + ys.length) q hp
  rw [hz] at h1
  rw [natOf_take_ge ys _ (Nat.le_refl _)] at hv
  rw [natOf_take_step xs n, hx, Nat.add_mul, ← h0, Nat.mul_assoc]
  omega
theorem getD_set_far (os : List Nat) (p e j : Nat) (h : j ≠ p) : (os.set p e).getD j 0 = os.getD j 0 := by
  rw [List.getD_eq_getElem?_getD, List.getD_eq_getElem?_getD, List.getElem?_set_ne (Ne.symm h)]
end Dg
end Go.Proofs.Ytbcmfgohbppndaa
