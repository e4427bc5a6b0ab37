import Derived.Test.YtgobpoaalnpagaaHJ

/-
  Layer 4: what follows of places, and of two shapes brought together: plain mathematics.
-/
namespace Go.Proofs.Ytgobpoaalnpagaa
open Go.RowKit
set_option linter.unusedVariables false

theorem and16 (a : Int) (h0 : -9223372036854775808 ≤ a) (h1 : a < 9223372036854775808) : bits .and .i64 a 65535 = a % 65536 := by
  unfold bits
  simp only [BitVec.toNat_and]
  have e1 : (BitVec.ofInt IntKind.i64.bits 65535).toNat = 2 ^ 16 - 1 := by decide
  have e2 : (BitVec.ofInt IntKind.i64.bits a).toNat = (a % 18446744073709551616).toNat := by rw [BitVec.toNat_ofInt]; rfl
  rw [e1, Nat.and_two_pow_sub_one_eq_mod, e2]
  have e3 : (((a % 18446744073709551616).toNat % 2 ^ 16 : Nat) : Int) = a % 65536 := by omega
  rw [e3, IntKind.wrap_i64]
  omega
theorem size_err {ds : List Int} (h : (sizeV ds).2 ≠ 0) : (sizeV ds).1 = 0 := by
  unfold sizeV at *
  (repeat' split) <;> simp_all
theorem wrap_add2 (a b : Int) : wrap64 (a + wrap64 b) = wrap64 (a + b) := by rw [Int.add_comm, wrap_add, Int.add_comm]
theorem wrap_mul2 (a b : Int) : wrap64 (a * wrap64 b) = wrap64 (a * b) := by rw [Int.mul_comm, wrap_mul, Int.mul_comm]
/-- The sum of indices times strides, as far as it has gone. -/
theorem sum_step {ds xs : List Int} (n : Nat) (h : n < ds.length) : offN ds xs (n + 1) * prodL (ds.drop (n + 1)) = offN ds xs n * prodL (ds.drop n) + xs.getD n 0 * prodL (ds.drop (n + 1)) := by
  show (offN ds xs n * ds.getD n 0 + xs.getD n 0) * _ = _
  rw [drop_cons ds n h, Int.add_mul, Int.mul_assoc]
theorem wrap_sum (A x P : Int) : wrap64 (wrap64 A + wrap64 (x * wrap64 P)) = wrap64 (A + x * P) := by rw [wrap_add2, wrap_add, ← wrap_add2, wrap_mul2, wrap_add2]

theorem fits_comm {a b : List Int} (h : fits a b) : fits b a := by
  intro i hi
  have e : rankOf b a = rankOf a b := by unfold rankOf; omega
  rw [e] at hi
  rcases h i hi with g | g | g
  · exact .inl g.symm
  · exact .inr (.inr g)
  · exact .inr (.inl g)
theorem fits_all {a b : List Int} (h : fits a b) (i : Nat) : dimV a i = dimV b i ∨ dimV a i = 1 ∨ dimV b i = 1 := by
  rcases Nat.lt_or_ge i (rankOf a b) with g | g
  · exact h i g
  · exact .inr (.inl (dimV_ge (by unfold rankOf at g; omega)))
theorem bcD_comm {a b : List Int} (h : fits a b) (i : Nat) : bcD a b i = bcD b a i := by
  unfold bcD
  by_cases h1 : dimV a i = 1
  · rw [if_pos h1]
    by_cases h2 : dimV b i = 1
    · rw [if_pos h2, h1, h2]
    · rw [if_neg h2]
  · rw [if_neg h1]
    rcases fits_all h i with g | g | g
    · rw [if_neg (by rw [← g]; exact h1), g]
    · exact absurd g h1
    · rw [if_pos g]
theorem bcL_comm {a b : List Int} (h : fits a b) : bcL a b = bcL b a := by
  have e : rankOf b a = rankOf a b := by unfold rankOf; omega
  apply dims_ext
  · rw [bcL_length, bcL_length, e]
  · intro k _
    rw [dimV_bcL, dimV_bcL, bcD_comm h]
/-- What two shapes come to: each goes out to it. -/
theorem spreads_left {a b : List Int} (h : fits a b) : spreadsP a (bcL a b) := by
  refine ⟨by rw [bcL_length]; unfold rankOf; omega, fun k hk => ?_⟩
  rw [dimV_bcL]; unfold bcD
  by_cases g : dimV a k = 1
  · exact .inl g
  · rw [if_neg g]; exact .inr rfl
theorem spreads_right {a b : List Int} (h : fits a b) : spreadsP b (bcL a b) := by rw [bcL_comm h]; exact spreads_left (fits_comm h)
theorem spreads_self (a : List Int) : spreadsP a a := ⟨Nat.le_refl _, fun k hk => .inr rfl⟩
theorem broad_spread {a l : List Int} (ea : (sizeV a).2 = 0) (el : (sizeV l).2 = 0) (h : spreadsP a l) : BroadR a l l 0 ∧ BroadR l a l 0 := by
  obtain ⟨f1, f2⟩ := (spreads_iff a l).1 h
  have f3 : bcL l a = l := by rw [← bcL_comm f1, f2]
  exact ⟨.inr (.inr (.inr (.inr ⟨ea, el, f1, by rw [f2]; exact el, f2.symm, rfl⟩))), .inr (.inr (.inr (.inr ⟨el, ea, fits_comm f1, by rw [f3]; exact el, f3.symm, rfl⟩)))⟩
/-- Changed about. -/
theorem broad_err {a b xs ys : List Int} {e f : Int} (h : BroadR a b xs e) (k : BroadR b a ys f) (he : e ≠ 0) : f ≠ 0 ∧ xs = [] ∧ ys = [] := by
  rcases h with ⟨a1, b1, c1⟩ | ⟨a1, b1, c1, d1⟩ | ⟨a1, b1, c1, d1, e1⟩ | ⟨a1, b1, c1, d1, e1, f3⟩ | ⟨a1, b1, c1, d1, e1, f3⟩ <;>
  rcases k with ⟨a2, b2, c2⟩ | ⟨a2, b2, c2, d2⟩ | ⟨a2, b2, c2, d2, e2⟩ | ⟨a2, b2, c2, d2, e2, f2⟩ | ⟨a2, b2, c2, d2, e2, f2⟩
  all_goals first
    | exact absurd f3 he
    | exact ⟨by rw [c2]; exact a2, b1, b2⟩
    | exact ⟨by rw [d2]; exact b2, b1, c2⟩
    | exact absurd b2 a1
    | exact ⟨by rw [c2]; exact a2, c1, b2⟩
    | exact ⟨by rw [d2]; exact b2, c1, c2⟩
    | exact absurd a2 b1
    | exact ⟨by rw [c2]; exact a2, d1, b2⟩
    | exact ⟨by rw [d2]; exact b2, d1, c2⟩
    | exact ⟨by omega, d1, d2⟩
    | exact absurd (fits_comm c2) c1
    | exact ⟨by rw [c2]; exact a2, e1, b2⟩
    | exact ⟨by rw [d2]; exact b2, e1, c2⟩
    | exact ⟨by omega, e1, d2⟩
    | exact ⟨by rw [f2]; exact d2, e1, e2⟩
    | (rw [bcL_comm c1] at d1; exact absurd d2 d1)
theorem broad_same {a b xs ys : List Int} {e f : Int} (h : BroadR a b xs e) (k : BroadR b a ys f) (he : e = 0) : f = 0 ∧ ys = xs ∧ (sizeV a).2 = 0 ∧ (sizeV b).2 = 0 ∧ (sizeV xs).2 = 0 ∧ spreadsP a xs ∧ spreadsP b xs := by
  rcases h with ⟨a1, b1, c1⟩ | ⟨a1, b1, c1, d1⟩ | ⟨a1, b1, c1, d1, e1⟩ | ⟨a1, b1, c1, d1, e1, f3⟩ | ⟨a1, b1, c1, d1, e1, f3⟩
  · omega
  · omega
  · omega
  · omega
  · have hk : BroadR b a xs 0 := .inr (.inr (.inr (.inr ⟨b1, a1, fits_comm c1, by rw [← bcL_comm c1]; exact d1, by rw [e1, bcL_comm c1], rfl⟩)))
    obtain ⟨g1, g2⟩ := k.one hk
    exact ⟨g2, g1, a1, b1, by rw [e1]; exact d1, by rw [e1]; exact spreads_left c1, by rw [e1]; exact spreads_right c1⟩

/-- The last element's indices. -/
def maxL (ds : List Int) : List Int := ds.map (· - 1)
theorem maxL_length (ds : List Int) : (maxL ds).length = ds.length := by simp [maxL]
theorem maxL_getD (ds : List Int) (i : Nat) (h : i < ds.length) : (maxL ds).getD i 0 = ds.getD i 0 - 1 := by
  rw [List.getD_eq_getElem?_getD, List.getD_eq_getElem?_getD, List.getElem?_eq_getElem (by rw [maxL_length]; exact h), List.getElem?_eq_getElem h]
  simp [maxL]
theorem maxL_in {ds : List Int} (h : ∀ d ∈ ds, 1 ≤ d) : inR ds (maxL ds) := fun i hi => by
  rw [maxL_getD ds i hi]; have := h _ (getD_mem hi); omega
theorem maxL_off (ds : List Int) : ∀ n, n ≤ ds.length → offN ds (maxL ds) n = prodL (ds.take n) - 1
  | 0, _ => by simp [offN, prodL]
  | n + 1, hn => by
    show offN ds (maxL ds) n * ds.getD n 0 + (maxL ds).getD n 0 = _
    rw [maxL_off ds n (by omega), maxL_getD ds n (by omega), take_succ ds n (by omega), prodL_append, prodL_one, Int.sub_mul, Int.one_mul]
    omega
theorem mask_max {a l : List Int} (hs : spreadsP a l) : maskL a (maxL l) (l.length - a.length) = maxL a := by
  have h1 := hs.1
  apply list_ext_getD
  · rw [maskL_length, maxL_length]
  · intro i hi
    rw [maskL_length] at hi
    rw [maskL_getD _ _ _ _ hi, maxL_getD a i hi, maxL_getD l (l.length - a.length + i) (by omega)]
    have hk := hs.2 (a.length - 1 - i) (by omega)
    unfold dimV at hk
    rw [if_neg (by omega), if_neg (by omega), show a.length - 1 - (a.length - 1 - i) = i by omega, show l.length - 1 - (a.length - 1 - i) = l.length - a.length + i by omega] at hk
    by_cases g : a.getD i 0 = 1
    · rw [if_pos g, g]; rfl
    · rw [if_neg g]
      rcases hk with hk | hk
      · exact absurd hk g
      · rw [hk]
theorem from_last {a l : List Int} (ea : (sizeV a).2 = 0) (el : (sizeV l).2 = 0) (hs : spreadsP a l) (hn : 0 < (sizeV l).1) : FromR a l ((sizeV l).1 - 1) ((sizeV a).1 - 1) 0 := by
  obtain ⟨g1, g2, g3, g4⟩ := size_pos el (show (0 : Int) ≤ 0 by omega) hn
  have hp : ∀ d ∈ l, 1 ≤ d := fun d hd => (g1 d hd).1
  have hpa := spread_pos hs hp
  have sa : (sizeV a).1 = prodL a := by
    obtain ⟨h1, h2, h3⟩ := size_ok ea
    rcases h3 with ⟨z, _⟩ | ⟨z, p, e⟩
    · have := hpa 0 z; omega
    · exact e
  refine .inr (.inr (.inr (.inr ⟨ea, el, hs, by omega, by omega, ⟨maxL l, maxL_length l, maxL_in hp, ?_, ?_⟩, rfl⟩)))
  · rw [maxL_off l l.length (Nat.le_refl _), List.take_length, g3]
  · rw [mask_max hs, maxL_off a a.length (Nat.le_refl _), List.take_length, sa]
theorem from_first {a l : List Int} (ea : (sizeV a).2 = 0) (el : (sizeV l).2 = 0) (hs : spreadsP a l) (hn : 0 < (sizeV l).1) : FromR a l 0 0 0 := by
  obtain ⟨g1, g2, g3, g4⟩ := size_pos el (show (0 : Int) ≤ 0 by omega) hn
  refine .inr (.inr (.inr (.inr ⟨ea, el, hs, by omega, by omega, ⟨List.replicate l.length 0, by simp, fun i hi => ?_, offN_zero _ (fun i _ => replicate_getD _ _), ?_⟩, rfl⟩)))
  · rw [replicate_getD]; have := g1 _ (getD_mem hi); omega
  · symm
    apply offN_zero
    intro i hi
    rw [maskL_getD _ _ _ _ hi, replicate_getD]
    split <;> rfl
end Go.Proofs.Ytgobpoaalnpagaa
