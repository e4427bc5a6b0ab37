import Derived.Test.YtbepkmehnghmcaaGV

/-
  Layer 4: the document's offsets, strides and indices.
-/
namespace Go.Proofs.Ytbepkmehnghmcaa
open Go.RowKit
set_option linter.unusedVariables false

theorem size_ok {ds : List Int} (h : (sizeV ds).2 = 0) : (∀ d ∈ ds, 0 ≤ d ∧ d ≤ 4096) ∧ ds.length ≤ 8 ∧ (((0 : Int) ∈ ds ∧ (sizeV ds).1 = 0) ∨ (¬ (0 : Int) ∈ ds ∧ prodL ds ≤ 4096 ∧ (sizeV ds).1 = prodL ds)) := by
  unfold sizeV at *
  by_cases c1 : ∃ d ∈ ds, d < 0
  · rw [if_pos c1] at h; cases h
  · rw [if_neg c1] at h ⊢
    by_cases c2 : 8 < ds.length ∨ ∃ d ∈ ds, 4096 < d
    · rw [if_pos c2] at h; cases h
    · rw [if_neg c2] at h ⊢
      refine ⟨fun d hd => ⟨?_, ?_⟩, by omega, ?_⟩
      · rcases Int.lt_or_le d 0 with g | g
        · exact absurd ⟨d, hd, g⟩ c1
        · exact g
      · rcases Int.lt_or_le 4096 d with g | g
        · exact absurd (.inr ⟨d, hd, g⟩) c2
        · exact g
      · by_cases c3 : (0 : Int) ∈ ds
        · rw [if_pos c3]; exact .inl ⟨c3, rfl⟩
        · rw [if_neg c3] at h ⊢
          by_cases c4 : 4096 < prodL ds
          · rw [if_pos c4] at h; cases h
          · rw [if_neg c4]; exact .inr ⟨c3, by omega, rfl⟩
theorem size_range (ds : List Int) : 0 ≤ (sizeV ds).1 ∧ (sizeV ds).1 ≤ 4096 ∧ 0 ≤ (sizeV ds).2 ∧ (sizeV ds).2 ≤ 4 := by
  by_cases h : (sizeV ds).2 = 0
  · obtain ⟨h1, h2, h3⟩ := size_ok h
    rcases h3 with ⟨_, e⟩ | ⟨z, p, e⟩
    · rw [e, h]; omega
    · have := prodL_pos ds (fun d hd => by have := h1 d hd; have : d ≠ 0 := fun e => z (e ▸ hd); omega)
      rw [e, h]; omega
  · unfold sizeV at *
    (repeat' split) <;> simp_all
def offN (ds ix : List Int) : Nat → Int
  | 0 => 0
  | n + 1 => offN ds ix n * ds.getD n 0 + ix.getD n 0
def inR (ds ix : List Int) : Prop := ∀ i, i < ds.length → 0 ≤ ix.getD i 0 ∧ ix.getD i 0 < ds.getD i 0
theorem getD_mem {ds : List Int} {n : Nat} (h : n < ds.length) : ds.getD n 0 ∈ ds := by
  have : ds.getD n 0 = ds[n] := by simp [List.getElem?_eq_getElem h]
  rw [this]; exact List.getElem_mem h
/-- Offset: the answer r and the error e that the document asks. -/
def OffsetR (ds ix : List Int) (r e : Int) : Prop :=
  ((sizeV ds).2 ≠ 0 ∧ r = 0 ∧ e = (sizeV ds).2) ∨ ((sizeV ds).2 = 0 ∧ (ix.length ≠ ds.length ∨ ¬ inR ds ix) ∧ r = 0 ∧ e = 2) ∨ ((sizeV ds).2 = 0 ∧ ix.length = ds.length ∧ inR ds ix ∧ r = offN ds ix ds.length ∧ e = 0)
theorem OffsetR.one {ds ix : List Int} {r e r' e' : Int} (h : OffsetR ds ix r e) (k : OffsetR ds ix r' e') : r = r' ∧ e = e' := by
  rcases h with ⟨a, b, c⟩ | ⟨a, b, c, d⟩ | ⟨a, b, c, d, f⟩ <;> rcases k with ⟨a', b', c'⟩ | ⟨a', b', c', d'⟩ | ⟨a', b', c', d', f'⟩ <;> subst_vars
  · exact ⟨rfl, rfl⟩
  · exact absurd a' a
  · exact absurd a' a
  · exact absurd a a'
  · exact ⟨rfl, rfl⟩
  · rcases b with b | b
    · exact absurd b' b
    · exact absurd c' b
  · exact absurd a a'
  · rcases b' with b' | b'
    · exact absurd b b'
    · exact absurd c b'
  · exact ⟨rfl, rfl⟩
/-- Inside, an offset is less than the size. -/
theorem offN_lt {ds ix : List Int} (hp : ∀ d ∈ ds, 1 ≤ d) (h : inR ds ix) : ∀ n, n ≤ ds.length → 0 ≤ offN ds ix n ∧ offN ds ix n < prodL (ds.take n)
  | 0, _ => by simp [offN, prodL]
  | n + 1, hn => by
    obtain ⟨h1, h2⟩ := offN_lt hp h n (by omega)
    have ht := take_succ ds n (by omega)
    obtain ⟨x0, x1⟩ := h n (by omega)
    have d1 := hp _ (getD_mem (show n < ds.length by omega))
    rw [ht, prodL_append, prodL_one]
    show 0 ≤ offN ds ix n * ds.getD n 0 + ix.getD n 0 ∧ offN ds ix n * ds.getD n 0 + ix.getD n 0 < _
    generalize offN ds ix n = A at *
    generalize prodL (ds.take n) = P at *
    generalize ds.getD n 0 = d at *
    generalize ix.getD n 0 = x at *
    have a1 : 0 ≤ A * d := Int.mul_nonneg h1 (by omega)
    have a2 : A * d ≤ (P - 1) * d := Int.mul_le_mul_of_nonneg_right (by omega) (by omega)
    rw [Int.sub_mul, Int.one_mul] at a2
    omega

theorem wrap_eq (a : Int) : (wrap64 a - a) % 18446744073709551616 = 0 := by unfold wrap64; omega
theorem wrap_of {a b : Int} (h : (a - b) % 18446744073709551616 = 0) : wrap64 a = wrap64 b := by unfold wrap64; omega
theorem wrap_mul (a b : Int) : wrap64 (wrap64 a * b) = wrap64 (a * b) := by
  apply wrap_of
  rw [← Int.sub_mul]
  obtain ⟨k, hk⟩ : ∃ k, wrap64 a - a = 18446744073709551616 * k := ⟨(wrap64 a - a) / 18446744073709551616, by have := wrap_eq a; omega⟩
  rw [hk, Int.mul_assoc]
  exact Int.mul_emod_right _ _
theorem wrap_add (a b : Int) : wrap64 (wrap64 a + b) = wrap64 (a + b) := by
  apply wrap_of
  have := wrap_eq a
  omega
theorem wrap_step (T d x : Int) : wrap64 (wrap64 (wrap64 T * d) + x) = wrap64 (T * d + x) := by rw [wrap_mul, wrap_add]

end Go.Proofs.Ytbepkmehnghmcaa
