/-
  Rounding, as the document words it, on whole numbers: amounts of floats, the greatest float that is not above a number, and the float that a way picks. No program is named here.
-/
import Derived.Test.YtkbniebahledmaaFltB
namespace Go.Proofs.Ytkbniebahledmaa
namespace Flt

/-- The amount of a float without its sign, in units of 2^-149. -/
def A (m : Nat) : Nat := if m < 8388608 then m else (8388608 + m % 8388608) * 2 ^ (m / 8388608 - 1)

theorem A_form (f t : Nat) (ht : t ≤ 16777216) (h : f = 0 ∨ 8388608 ≤ t) : A (f * 8388608 + t) = t * 2 ^ f := by
  unfold A
  by_cases h1 : t < 8388608
  · have hf : f = 0 := by omega
    subst hf
    rw [if_pos (by omega)]; simp
  · rw [if_neg (by omega)]
    by_cases h2 : t = 16777216
    · subst h2
      rw [show (f * 8388608 + 16777216) % 8388608 = 0 by omega, show (f * 8388608 + 16777216) / 8388608 - 1 = f + 1 by omega, Nat.pow_succ]
      generalize 2 ^ f = y
      omega
    · rw [show (f * 8388608 + t) % 8388608 = t - 8388608 by omega, show (f * 8388608 + t) / 8388608 - 1 = f by omega, show 8388608 + (t - 8388608) = t by omega]

theorem A_split (m : Nat) : ∃ f t, m = f * 8388608 + t ∧ t < 16777216 ∧ (f = 0 ∨ 8388608 ≤ t) ∧ f = m / 8388608 - 1 := by
  by_cases h : m < 8388608
  · exact ⟨0, m, by omega, by omega, by omega, by omega⟩
  · exact ⟨m / 8388608 - 1, m - (m / 8388608 - 1) * 8388608, by omega, by omega, by omega, rfl⟩

theorem A_succ (m : Nat) : A (m + 1) = A m + 2 ^ (m / 8388608 - 1) := by
  obtain ⟨f, t, hm, ht, h, hf⟩ := A_split m
  rw [← hf]
  have e1 := A_form f t (by omega) h
  have e2 := A_form f (t + 1) (by omega) (by omega)
  rw [hm, e1, show f * 8388608 + t + 1 = f * 8388608 + (t + 1) by omega, e2, Nat.succ_mul]

theorem A_lt_succ (m : Nat) : A m < A (m + 1) := by
  rw [A_succ]; have := Nat.two_pow_pos (m / 8388608 - 1); omega
theorem A_le_add (m k : Nat) : A m ≤ A (m + k) := by
  induction k with
  | zero => exact Nat.le_refl _
  | succ k ih => have := A_lt_succ (m + k); rw [show m + (k + 1) = m + k + 1 by omega]; omega
theorem A_mono {m n : Nat} (h : m ≤ n) : A m ≤ A n := by
  obtain ⟨k, rfl⟩ := Nat.exists_eq_add_of_le h
  exact A_le_add m k
theorem A_strict {m n : Nat} (h : m < n) : A m < A n := Nat.lt_of_lt_of_le (A_lt_succ m) (A_mono h)
theorem A_inj {m n : Nat} (h : A m = A n) : m = n := by
  rcases Nat.lt_trichotomy m n with h1 | h1 | h1
  · have := A_strict h1; omega
  · exact h1
  · have := A_strict h1; omega
theorem A_zero : A 0 = 0 := rfl
theorem A_inf : A 2139095040 = 8388608 * 2 ^ 254 := A_form 254 8388608 (by omega) (by omega)

/-- m: the greatest float (without a sign; up to the infinite one) whose amount is not above p / q. -/
def IsFl (p q m : Nat) : Prop := m ≤ 2139095040 ∧ A m * q ≤ p ∧ (m < 2139095040 → p < A (m + 1) * q)
theorem isFl_mono {p q p' q' m m' : Nat} (h : IsFl p q m) (h' : IsFl p' q' m') (hq : 0 < q) (hp : p * q' ≤ p' * q) : m ≤ m' := by
  obtain ⟨a1, a2, a3⟩ := h
  obtain ⟨b1, b2, b3⟩ := h'
  rcases Nat.lt_or_ge m' m with hlt | hge
  · exfalso
    have c := b3 (by omega)
    have d := A_mono (show m' + 1 ≤ m by omega)
    have e1 : p' * q < A (m' + 1) * q' * q := Nat.mul_lt_mul_of_pos_right c hq
    have e2 : A (m' + 1) * q' * q ≤ A m * q' * q := Nat.mul_le_mul_right _ (Nat.mul_le_mul_right _ d)
    have e3 : A m * q' * q ≤ p * q' := by
      rw [Nat.mul_right_comm]; exact Nat.mul_le_mul_right _ a2
    omega
  · exact hge
theorem isFl_one {p q m m' : Nat} (h : IsFl p q m) (h' : IsFl p q m') (hq : 0 < q) : m = m' :=
  Nat.le_antisymm (isFl_mono h h' hq (Nat.le_refl _)) (isFl_mono h' h hq (Nat.le_refl _))

def inW (way : Int) (neg : Bool) : Bool := (decide (way = 1) && neg) || (decide (way = 2) && !neg)
def outW (way : Int) (neg : Bool) : Bool := (decide (way = 1) && !neg) || (decide (way = 2) && neg)
/-- The float (without its sign) that a way picks, of m and the next one. -/
def pick (way : Int) (neg : Bool) (p q m : Nat) : Nat :=
  if m = 2139095040 then (if inW way neg = true then 2139095039 else 2139095040)
  else if A m * q = p ∨ inW way neg = true then m
  else if outW way neg = true then m + 1
  else if (A m + A (m + 1)) * q < 2 * p ∨ ((A m + A (m + 1)) * q = 2 * p ∧ m % 2 = 1) then m + 1 else m
/-- r: the float (without its sign) that p / q is rounded to, by a way, with a sign. -/
def RN (way : Int) (neg : Bool) (p q r : Nat) : Prop := ∃ m, IsFl p q m ∧ r = pick way neg p q m

theorem RN_one {way : Int} {neg : Bool} {p q r r' : Nat} (hq : 0 < q) (h : RN way neg p q r) (h' : RN way neg p q r') : r = r' := by
  obtain ⟨m, hm, c⟩ := h
  obtain ⟨m', hm', c'⟩ := h'
  have := isFl_one hm hm' hq
  subst this
  rw [c, c']

/-- What the dropped bits say: S = t * M + r, of p / q = (S + something) / M * (K / q). -/
theorem pick_of {p q m t K M H S g : Nat} {more : Bool} (hA : A m * q = t * K) (hA1 : A (m + 1) * q = (t + 1) * K) (hK : 0 < K) (hH : 0 < H) (hM : M = 2 * H)
    (ht : t = S / M) (hm : m < 2139095040) (gS : g ∣ S) (gH : g ∣ H)
    (hv : (more = false ∧ p * M = S * K) ∨ (more = true ∧ S * K < p * M ∧ p * M < (S + g) * K)) :
    IsFl p q m ∧ (A m * q = p ↔ (more = false ∧ S % M = 0)) ∧ ((A m + A (m + 1)) * q < 2 * p ↔ (H < S % M ∨ (more = true ∧ S % M = H))) ∧
      ((A m + A (m + 1)) * q = 2 * p ↔ (more = false ∧ S % M = H)) := by
  have hMp : 0 < M := by omega
  have hS : t * M + S % M = S := by rw [ht, Nat.mul_comm]; exact Nat.div_add_mod S M
  have hr : S % M < M := Nat.mod_lt _ hMp
  obtain ⟨h, rfl⟩ := gH
  obtain ⟨s, rfl⟩ := gS
  have gpos : 0 < g := by
    rcases Nat.eq_zero_or_pos g with h0 | h0
    · subst h0; simp at hH
    · exact h0
  -- what is dropped is a multiple of g
  have hrg : ∃ r, g * s % M = g * r := by
    refine ⟨s % (2 * h), ?_⟩
    rw [hM, show 2 * (g * h) = g * (2 * h) by ac_rfl, Nat.mul_mod_mul_left]
  obtain ⟨r, hr1⟩ := hrg
  rw [hr1] at hS hr ⊢
  have r1 : g * r < g * h → g * r + g ≤ g * h := by
    intro hlt
    have := Nat.lt_of_mul_lt_mul_left hlt
    have h2 : g * (r + 1) ≤ g * h := Nat.mul_le_mul_left g this
    rw [Nat.mul_add, Nat.mul_one] at h2; exact h2
  have r2 : g * r + g ≤ M := by
    rw [hM, show 2 * (g * h) = g * (2 * h) by ac_rfl] at hr ⊢
    have := Nat.lt_of_mul_lt_mul_left hr
    have h2 : g * (r + 1) ≤ g * (2 * h) := Nat.mul_le_mul_left g this
    rw [Nat.mul_add, Nat.mul_one] at h2; exact h2
  generalize g * r = R at *
  generalize g * s = S at *
  generalize g * h = H at *
  subst hM
  clear ht hr1
  -- all at M times
  have k1 : (t * K) * (2 * H) = (t * (2 * H)) * K := by ac_rfl
  have k2 : ((t + 1) * K) * (2 * H) = ((t + 1) * (2 * H)) * K := by ac_rfl
  have kc : ∀ x y : Nat, x * (2 * H) < y * (2 * H) → x < y := fun x y hxy => Nat.lt_of_mul_lt_mul_right hxy
  have kl : ∀ x y : Nat, x * (2 * H) ≤ y * (2 * H) → x ≤ y := fun x y hxy => Nat.le_of_mul_le_mul_right hxy hMp
  have mK : ∀ x y : Nat, x ≤ y → x * K ≤ y * K := fun x y hxy => Nat.mul_le_mul_right K hxy
  have mKl : ∀ x y : Nat, x < y → x * K < y * K := fun x y hxy => Nat.mul_lt_mul_of_pos_right hxy hK
  have hs1 : (t + 1) * (2 * H) = t * (2 * H) + 2 * H := Nat.succ_mul _ _
  have low : S * K ≤ p * (2 * H) := by rcases hv with ⟨_, e⟩ | ⟨_, e, _⟩ <;> omega
  have up : p * (2 * H) < ((t + 1) * (2 * H)) * K := by
    rcases hv with ⟨_, e⟩ | ⟨_, _, e⟩
    · rw [e]; exact mKl _ _ (by omega)
    · exact Nat.lt_of_lt_of_le e (mK _ _ (by omega))
  have lowT : (t * (2 * H)) * K ≤ S * K := mK _ _ (by omega)
  have h2 : (A m + A (m + 1)) * q = (2 * t + 1) * K := by
    rw [Nat.add_mul, hA, hA1, ← Nat.add_mul]; congr 1; omega
  have hh : (2 * t + 1) * (2 * H) = 2 * (t * (2 * H) + H) := by
    rw [Nat.add_mul, Nat.one_mul, Nat.mul_assoc 2 t (2 * H)]; omega
  have k3 : ((2 * t + 1) * K) * (2 * H) = 2 * ((t * (2 * H) + H) * K) := by
    rw [show (2 * t + 1) * K * (2 * H) = ((2 * t + 1) * (2 * H)) * K by ac_rfl, hh, Nat.mul_assoc]
  have k4 : (2 * p) * (2 * H) = 2 * (p * (2 * H)) := by ac_rfl
  refine ⟨⟨by omega, ?_, fun _ => ?_⟩, ?_, ?_, ?_⟩
  · rw [hA]; apply kl; omega
  · rw [hA1]; apply kc; omega
  · rw [hA]
    constructor
    · intro e
      have e2 : p * (2 * H) = (t * (2 * H)) * K := by rw [← e]; exact k1
      rcases hv with ⟨f, e3⟩ | ⟨f, e3, _⟩
      · refine ⟨f, ?_⟩
        have : S = t * (2 * H) := Nat.eq_of_mul_eq_mul_right hK (by omega)
        omega
      · omega
    · rintro ⟨f, e⟩
      rcases hv with ⟨_, e3⟩ | ⟨f', _, _⟩
      · have : S = t * (2 * H) := by omega
        rw [this] at e3
        exact Nat.eq_of_mul_eq_mul_right hMp (by omega)
      · rw [f] at f'; cases f'
  · rw [h2]
    constructor
    · intro e
      have e2 : ((2 * t + 1) * K) * (2 * H) < (2 * p) * (2 * H) := Nat.mul_lt_mul_of_pos_right e hMp
      have e3 : (t * (2 * H) + H) * K < p * (2 * H) := by omega
      rcases hv with ⟨_, e4⟩ | ⟨f, _, e4⟩
      · left
        rw [e4] at e3
        have := Nat.lt_of_mul_lt_mul_right e3
        omega
      · rcases Nat.lt_or_ge R H with hlt | hge
        · exfalso
          have := mK (S + g) (t * (2 * H) + H) (by have := r1 hlt; omega)
          omega
        · rcases Nat.lt_or_ge H R with h5 | h5
          · left; exact h5
          · right; exact ⟨f, by omega⟩
    · intro e
      apply kc
      rw [k3, k4]
      rcases e with e | ⟨f, e⟩
      · have := mKl (t * (2 * H) + H) S (by omega)
        omega
      · have := mK (t * (2 * H) + H) S (by omega)
        rcases hv with ⟨f', _⟩ | ⟨_, e4, _⟩
        · rw [f] at f'; cases f'
        · omega
  · rw [h2]
    constructor
    · intro e
      have e2 : ((2 * t + 1) * K) * (2 * H) = (2 * p) * (2 * H) := by rw [e]
      have e3 : (t * (2 * H) + H) * K = p * (2 * H) := by omega
      rcases hv with ⟨f, e4⟩ | ⟨f, e4, e5⟩
      · refine ⟨f, ?_⟩
        have : S = t * (2 * H) + H := Nat.eq_of_mul_eq_mul_right hK (by omega)
        omega
      · exfalso
        rcases Nat.lt_or_ge R H with hlt | hge
        · have := mK (S + g) (t * (2 * H) + H) (by have := r1 hlt; omega)
          omega
        · have := mK (t * (2 * H) + H) S (by omega)
          omega
    · rintro ⟨f, e⟩
      rcases hv with ⟨_, e4⟩ | ⟨f', _, _⟩
      · have : S = t * (2 * H) + H := by omega
        rw [this] at e4
        exact Nat.eq_of_mul_eq_mul_right hMp (by omega)
      · rw [f] at f'; cases f'
end Flt
end Go.Proofs.Ytkbniebahledmaa
