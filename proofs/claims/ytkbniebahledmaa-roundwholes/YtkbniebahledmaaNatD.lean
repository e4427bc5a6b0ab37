/-
  Plain facts on rows of digits (of 32 bits, the lowest first) and the whole numbers that they stand for. No program is named here.
-/
import Derived.Laws.MathBits
namespace Go.Proofs.Ytkbniebahledmaa
namespace Dg

def natOf : List Nat → Nat
  | [] => 0
  | d :: ds => d + 4294967296 * natOf ds

theorem natOf_append (xs ys : List Nat) : natOf (xs ++ ys) = natOf xs + 4294967296 ^ xs.length * natOf ys := by
  induction xs with
  | nil => simp [natOf]
  | cons x xs ih =>
    simp only [List.cons_append, natOf, ih, List.length_cons, Nat.pow_succ, Nat.mul_add]
    have : 4294967296 ^ xs.length * 4294967296 * natOf ys = 4294967296 * (4294967296 ^ xs.length * natOf ys) := by ac_rfl
    omega
theorem natOf_snoc (xs : List Nat) (d : Nat) : natOf (xs ++ [d]) = natOf xs + 4294967296 ^ xs.length * d := by
  rw [natOf_append]; simp [natOf]
theorem natOf_lt (ds : List Nat) (h : ∀ d ∈ ds, d < 4294967296) : natOf ds < 4294967296 ^ ds.length := by
  induction ds with
  | nil => simp [natOf]
  | cons d ds ih =>
    have h1 := h d (by simp)
    have h2 := ih (fun x hx => h x (by simp [hx]))
    simp only [natOf, List.length_cons, Nat.pow_succ]
    have h3 : (natOf ds + 1) * 4294967296 ≤ 4294967296 ^ ds.length * 4294967296 := Nat.mul_le_mul_right _ h2
    omega
theorem getD_lt (ds : List Nat) (h : ∀ d ∈ ds, d < 4294967296) (i : Nat) : ds.getD i 0 < 4294967296 := by
  by_cases hi : i < ds.length
  · rw [List.getD_eq_getElem?_getD, List.getElem?_eq_getElem hi]; exact h _ (List.getElem_mem hi)
  · rw [List.getD_eq_getElem?_getD, List.getElem?_eq_none (by omega)]; simp
theorem take_succ (ds : List Nat) (i : Nat) (hi : i < ds.length) : ds.take (i + 1) = ds.take i ++ [ds.getD i 0] := by
  rw [List.take_succ_eq_append_getElem hi, List.getD_eq_getElem?_getD, List.getElem?_eq_getElem hi]; rfl
theorem natOf_take_succ (ds : List Nat) (i : Nat) (hi : i < ds.length) : natOf (ds.take (i + 1)) = natOf (ds.take i) + 4294967296 ^ i * ds.getD i 0 := by
  rw [take_succ ds i hi, natOf_snoc, List.length_take, Nat.min_eq_left (by omega)]
theorem natOf_take_ge (ds : List Nat) (i : Nat) (hi : ds.length ≤ i) : natOf (ds.take i) = natOf ds := by rw [List.take_of_length_le hi]
/-- A round beyond the end adds a nought. -/
theorem natOf_take_step (ds : List Nat) (i : Nat) : natOf (ds.take (i + 1)) = natOf (ds.take i) + 4294967296 ^ i * ds.getD i 0 := by
  by_cases hi : i < ds.length
  · exact natOf_take_succ ds i hi
  · rw [natOf_take_ge ds (i + 1) (by omega), natOf_take_ge ds i (by omega), List.getD_eq_getElem?_getD, List.getElem?_eq_none (by omega)]; simp
theorem natOf_split (ds : List Nat) (i : Nat) (hi : i < ds.length) : natOf ds = natOf (ds.take i) + 4294967296 ^ i * (ds.getD i 0 + 4294967296 * natOf (ds.drop (i + 1))) := by
  have e : ds = ds.take i ++ (ds.getD i 0 :: ds.drop (i + 1)) := by
    rw [List.getD_eq_getElem?_getD, List.getElem?_eq_getElem hi]
    simp
  have := natOf_append (ds.take i) (ds.getD i 0 :: ds.drop (i + 1))
  rw [← e, List.length_take, Nat.min_eq_left (by omega)] at this
  rw [this]; rfl
theorem natOf_zeros (ds : List Nat) (h : ∀ i, i < ds.length → ds.getD i 0 = 0) : natOf ds = 0 := by
  induction ds with
  | nil => rfl
  | cons d ds ih =>
    have h0 := h 0 (by simp)
    have h1 := ih (fun i hi => by have := h (i + 1) (by simp; omega); simpa using this)
    simp at h0
    simp [natOf, h0, h1]
/-- Without the noughts at the end. -/
theorem natOf_trim (ds : List Nat) (k : Nat) (hk : k ≤ ds.length) (h : ∀ i, k ≤ i → i < ds.length → ds.getD i 0 = 0) : natOf (ds.take k) = natOf ds := by
  have e := natOf_append (ds.take k) (ds.drop k)
  rw [List.take_append_drop] at e
  have z : natOf (ds.drop k) = 0 := by
    apply natOf_zeros
    intro i hi
    rw [List.length_drop] at hi
    have := h (k + i) (by omega) (by omega)
    rw [List.getD_eq_getElem?_getD] at this ⊢
    rw [List.getElem?_drop]; exact this
  rw [e, z]; simp
/-- The last digit is no nought. -/
def Norm (ds : List Nat) : Prop := ds = [] ∨ ds.getD (ds.length - 1) 0 ≠ 0
theorem norm_ge (ds : List Nat) (hn : Norm ds) (h0 : 0 < ds.length) : 4294967296 ^ (ds.length - 1) ≤ natOf ds := by
  have h1 : ds.getD (ds.length - 1) 0 ≠ 0 := by
    rcases hn with h | h
    · subst h; simp at h0
    · exact h
  have e := natOf_split ds (ds.length - 1) (by omega)
  have h2 : 4294967296 ^ (ds.length - 1) * 1 ≤ 4294967296 ^ (ds.length - 1) * (ds.getD (ds.length - 1) 0 + 4294967296 * natOf (ds.drop (ds.length - 1 + 1))) := Nat.mul_le_mul_left _ (by omega)
  omega
theorem len_lt_of (as bs : List Nat) (ha : ∀ d ∈ as, d < 4294967296) (hb : Norm bs) (h : as.length < bs.length) : natOf as < natOf bs := by
  have h1 := natOf_lt as ha
  have h2 := norm_ge bs hb (by omega)
  have h3 : 4294967296 ^ as.length ≤ 4294967296 ^ (bs.length - 1) := Nat.pow_le_pow_right (by decide) (by omega)
  omega
/-- Of rows of one length, alike behind a place: that place decides. -/
theorem lt_at (as bs : List Nat) (i : Nat) (ha : ∀ d ∈ as, d < 4294967296) (hi : i < as.length) (hl : as.length = bs.length) (he : as.drop (i + 1) = bs.drop (i + 1)) (h : as.getD i 0 < bs.getD i 0) :
    natOf as < natOf bs := by
  have e1 := natOf_split as i hi
  have e2 := natOf_split bs i (by omega)
  rw [he] at e1
  have h1 : natOf (as.take i) < 4294967296 ^ i := by
    have := natOf_lt (as.take i) (fun d hd => ha d (List.mem_of_mem_take hd))
    rw [List.length_take, Nat.min_eq_left (by omega)] at this; exact this
  have h2 : 4294967296 ^ i * (as.getD i 0 + 4294967296 * natOf (bs.drop (i + 1)) + 1) ≤ 4294967296 ^ i * (bs.getD i 0 + 4294967296 * natOf (bs.drop (i + 1))) := Nat.mul_le_mul_left _ (by omega)
  rw [Nat.mul_add _ _ 1, Nat.mul_one] at h2
  omega
theorem drop_step (as bs : List Nat) (i : Nat) (hi : i < as.length) (hl : as.length = bs.length) (he : as.drop (i + 1) = bs.drop (i + 1)) (h : as.getD i 0 = bs.getD i 0) : as.drop i = bs.drop i := by
  rw [List.drop_eq_getElem_cons hi, List.drop_eq_getElem_cons (show i < bs.length by omega), he]
  congr 1
  rw [List.getD_eq_getElem?_getD, List.getElem?_eq_getElem hi, List.getD_eq_getElem?_getD, List.getElem?_eq_getElem (show i < bs.length by omega)] at h
  exact h
/-- A round of a sum. -/
theorem plus_step (xs ys os : List Nat) (k q x y : Nat) (hk : os.length = k) (hx : xs.getD k 0 = x) (hy : ys.getD k 0 = y) (hv : natOf os + 4294967296 ^ k * q = natOf (xs.take k) + natOf (ys.take k)) :
    natOf (os ++ [(q + x + y) % 4294967296]) + 4294967296 ^ (k + 1) * ((q + x + y) / 4294967296) = natOf (xs.take (k + 1)) + natOf (ys.take (k + 1)) := by
  rw [natOf_snoc, hk, natOf_take_step xs k, natOf_take_step ys k, hx, hy, Nat.pow_succ]
  have e : 4294967296 ^ k * ((q + x + y) % 4294967296) + 4294967296 ^ k * 4294967296 * ((q + x + y) / 4294967296) = 4294967296 ^ k * (q + x + y) := by
    rw [Nat.mul_assoc, ← Nat.mul_add]; congr 1; omega
  rw [Nat.mul_add, Nat.mul_add] at e
  omega
/-- A round of a difference. -/
theorem minus_step (xs ys os : List Nat) (k q q' x y d : Nat) (hk : os.length = k) (hx : xs.getD k 0 = x) (hy : ys.getD k 0 = y) (hd : d + (q + y) = x + 4294967296 * q')
    (hv : natOf os + natOf (ys.take k) = natOf (xs.take k) + 4294967296 ^ k * q) :
    natOf (os ++ [d]) + natOf (ys.take (k + 1)) = natOf (xs.take (k + 1)) + 4294967296 ^ (k + 1) * q' := by
  rw [natOf_snoc, hk, natOf_take_step xs k, natOf_take_step ys k, hx, hy, Nat.pow_succ, Nat.mul_assoc]
  have e : 4294967296 ^ k * d + 4294967296 ^ k * q + 4294967296 ^ k * y = 4294967296 ^ k * x + 4294967296 ^ k * (4294967296 * q') := by
    rw [← Nat.mul_add, ← Nat.mul_add, ← Nat.mul_add]; congr 1; omega
  omega
theorem minus_end (xs ys os : List Nat) (q : Nat) (hk : os.length = xs.length) (hdo : ∀ d ∈ os, d < 4294967296) (hdx : ∀ d ∈ xs, d < 4294967296) (hny : Norm ys) (hlt : natOf ys < natOf xs) (hq : q ≤ 1)
    (hv : natOf os + natOf (ys.take xs.length) = natOf (xs.take xs.length) + 4294967296 ^ xs.length * q) : natOf os = natOf xs - natOf ys := by
  have hl : ys.length ≤ xs.length := by
    rcases Nat.lt_or_ge xs.length ys.length with h | h
    · have := len_lt_of xs ys hdx hny h; omega
    · exact h
  rw [natOf_take_ge ys _ hl, natOf_take_ge xs _ (Nat.le_refl _)] at hv
  have h1 := natOf_lt os hdo
  rw [hk] at h1
  rcases Nat.eq_zero_or_pos q with h | h
  · subst h; omega
  · have e : q = 1 := by omega
    subst e; omega
/-- A round of a doubling. -/
theorem twice_step (xs os : List Nat) (i j r K c x : Nat) (hl : os.length = j + i) (hx : xs.getD i 0 = x) (hK : K = 32 * j + r)
    (hv : natOf os + 4294967296 ^ (j + i) * c = natOf (xs.take i) * 2 ^ K) :
    natOf (os ++ [(x * 2 ^ r + c) % 4294967296]) + 4294967296 ^ (j + (i + 1)) * ((x * 2 ^ r + c) / 4294967296) = natOf (xs.take (i + 1)) * 2 ^ K := by
  rw [natOf_snoc, hl, natOf_take_step xs i, hx, show j + (i + 1) = j + i + 1 by omega, Nat.pow_succ, Nat.mul_assoc]
  have e : 4294967296 ^ (j + i) * ((x * 2 ^ r + c) % 4294967296) + 4294967296 ^ (j + i) * (4294967296 * ((x * 2 ^ r + c) / 4294967296)) = 4294967296 ^ (j + i) * (x * 2 ^ r) + 4294967296 ^ (j + i) * c := by
    rw [← Nat.mul_add, ← Nat.mul_add]; congr 1; omega
  have e2 : 4294967296 ^ (j + i) * (x * 2 ^ r) = 4294967296 ^ i * x * 2 ^ K := by
    rw [hK, Nat.pow_add 2, Nat.pow_add 4294967296, show (4294967296 : Nat) ^ j = 2 ^ (32 * j) by rw [Nat.pow_mul]]; ac_rfl
  rw [Nat.add_mul]
  omega
theorem natOf_replicate (n : Nat) : natOf (List.replicate n 0) = 0 := by
  induction n with
  | zero => rfl
  | succ n ih => rw [List.replicate_succ]; simp [natOf, ih]
/-- One digit put in the place of another. -/
theorem natOf_set (os : List Nat) (p e : Nat) (hp : p < os.length) : natOf (os.set p e) + 4294967296 ^ p * os.getD p 0 = natOf os + 4294967296 ^ p * e := by
  have h1 := natOf_split os p hp
  have h2 := natOf_split (os.set p e) p (by simpa using hp)
  have g1 : (os.set p e).take p = os.take p := by rw [List.take_set_of_le (Nat.le_refl p)]
  have g2 : (os.set p e).drop (p + 1) = os.drop (p + 1) := by rw [List.drop_set_of_lt (by omega)]
  have g3 : (os.set p e).getD p 0 = e := by rw [List.getD_eq_getElem?_getD, List.getElem?_set_self hp]; rfl
  rw [g1, g2, g3] at h2
  rw [Nat.mul_add] at h1 h2
  omega
/-- A step of a product: one digit times one digit. -/
theorem times_step (os os2 ys : List Nat) (n m q x y d : Nat) (hp : n + m < os2.length) (hy : ys.getD m 0 = y) (hd : os2.getD (n + m) 0 = d)
    (hv : natOf os2 + 4294967296 ^ (n + m) * q = natOf os + 4294967296 ^ n * (x * natOf (ys.take m))) :
    natOf (os2.set (n + m) ((x * y + d + q) % 4294967296)) + 4294967296 ^ (n + (m + 1)) * ((x * y + d + q) / 4294967296) = natOf os + 4294967296 ^ n * (x * natOf (ys.take (m + 1))) := by
  have h1 := natOf_set os2 (n + m) ((x * y + d + q) % 4294967296) hp
  rw [hd] at h1
  rw [natOf_take_step ys m, hy, show n + (m + 1) = n + m + 1 by omega, Nat.pow_succ, Nat.mul_assoc]
  have e : 4294967296 ^ (n + m) * ((x * y + d + q) % 4294967296) + 4294967296 ^ (n + m) * (4294967296 * ((x * y + d + q) / 4294967296)) = 4294967296 ^ (n + m) * (x * y) + 4294967296 ^ (n + m) * d + 4294967296 ^ (n + m) * q := by
    rw [← Nat.mul_add, ← Nat.mul_add, ← Nat.mul_add]; congr 1; omega
  have e2 : 4294967296 ^ n * (x * (natOf (ys.take m) + 4294967296 ^ m * y)) = 4294967296 ^ n * (x * natOf (ys.take m)) + 4294967296 ^ (n + m) * (x * y) := by
    rw [Nat.mul_add, Nat.mul_add, Nat.pow_add]; congr 1; ac_rfl
  omega
/-- The end of a row of such steps. -/
theorem times_end (os os2 xs ys : List Nat) (n q x : Nat) (hp : n + ys.length < os2.length) (hx : xs.getD n 0 = x) (hz : os2.getD (n + ys.length) 0 = 0)
    (h0 : natOf os = natOf (xs.take n) * natOf ys)
    (hv : natOf os2 + 4294967296 ^ (n + ys.length) * q = natOf os + 4294967296 ^ n * (x * natOf (ys.take ys.length))) :
    natOf (os2.set (n + ys.length) q) = natOf (xs.take (n + 1)) * natOf ys := by
  have h1 := natOf_set os2 (n + ys.length) q hp
  rw [hz] at h1
  rw [natOf_take_ge ys _ (Nat.le_refl _)] at hv
  rw [natOf_take_step xs n, hx, Nat.add_mul, ← h0, Nat.mul_assoc]
  omega
theorem getD_set_far (os : List Nat) (p e j : Nat) (h : j ≠ p) : (os.set p e).getD j 0 = os.getD j 0 := by
  rw [List.getD_eq_getElem?_getD, List.getD_eq_getElem?_getD, List.getElem?_set_ne (Ne.symm h)]
end Dg
end Go.Proofs.Ytkbniebahledmaa
