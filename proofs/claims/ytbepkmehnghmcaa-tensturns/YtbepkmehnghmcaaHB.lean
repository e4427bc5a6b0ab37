import Derived.Test.YtbepkmehnghmcaaHA

/-
  Layer 4: indices are one; what an element of a greater shape is in a smaller one: plain mathematics.
-/
namespace Go.Proofs.Ytbepkmehnghmcaa
open Go.RowKit
set_option linter.unusedVariables false

/-- Two numbers written with one digit more are equal in both parts. -/
theorem digit_one {A B d x y : Int} (hx : 0 ≤ x) (hx1 : x < d) (hy : 0 ≤ y) (hy1 : y < d) (h : A * d + x = B * d + y) : A = B ∧ x = y := by
  have h1 : (A * d + x) / d = A := by rw [Int.add_comm, Int.add_mul_ediv_right _ _ (by omega), Int.ediv_eq_zero_of_lt hx hx1, Int.zero_add]
  have h2 : (B * d + y) / d = B := by rw [Int.add_comm, Int.add_mul_ediv_right _ _ (by omega), Int.ediv_eq_zero_of_lt hy hy1, Int.zero_add]
  have e : A = B := by rw [← h1, ← h2, h]
  subst e
  exact ⟨rfl, by omega⟩
theorem off_inj {ds xs ys : List Int} (hx : inR ds xs) (hy : inR ds ys) : ∀ n, n ≤ ds.length → offN ds xs n = offN ds ys n → ∀ i, i < n → xs.getD i 0 = ys.getD i 0
  | 0, _, _, i, hi => by omega
  | n + 1, hn, h, i, hi => by
    obtain ⟨x0, x1⟩ := hx n (by omega)
    obtain ⟨y0, y1⟩ := hy n (by omega)
    obtain ⟨e1, e2⟩ := digit_one x0 x1 y0 y1 (show offN ds xs n * ds.getD n 0 + xs.getD n 0 = offN ds ys n * ds.getD n 0 + ys.getD n 0 from h)
    rcases Nat.lt_or_ge i n with g | g
    · exact off_inj hx hy n (by omega) e1 i g
    · have : i = n := by omega
      subst this; exact e2
theorem list_ext_getD {xs ys : List Int} (hl : xs.length = ys.length) (h : ∀ i, i < xs.length → xs.getD i 0 = ys.getD i 0) : xs = ys := by
  apply List.ext_getElem hl
  intro i h1 h2
  have := h i h1
  rw [List.getD_eq_getElem?_getD, List.getD_eq_getElem?_getD, List.getElem?_eq_getElem h1, List.getElem?_eq_getElem h2] at this
  simpa using this
theorem idx_one {ds xs ys : List Int} (hx : inR ds xs) (hy : inR ds ys) (lx : xs.length = ds.length) (ly : ys.length = ds.length) (h : offN ds xs ds.length = offN ds ys ds.length) : xs = ys :=
  list_ext_getD (by omega) (fun i hi => off_inj hx hy ds.length (Nat.le_refl _) h i (by omega))
theorem IndexR.one {ds xs ys : List Int} {a e f : Int} (h : IndexR ds a xs e) (k : IndexR ds a ys f) : xs = ys ∧ e = f := by
  rcases h with ⟨a1, b1, c1⟩ | ⟨a1, b1, c1, d1⟩ | ⟨a1, b1, c1, d1, e1, f1, g1⟩ <;> rcases k with ⟨a2, b2, c2⟩ | ⟨a2, b2, c2, d2⟩ | ⟨a2, b2, c2, d2, e2, f2, g2⟩
  · exact ⟨by rw [b1, b2], by rw [c1, c2]⟩
  · exact absurd a2 a1
  · exact absurd a2 a1
  · exact absurd a1 a2
  · exact ⟨by rw [c1, c2], by rw [d1, d2]⟩
  · omega
  · exact absurd a1 a2
  · omega
  · exact ⟨idx_one e1 e2 d1 d2 (by rw [f1, f2]), by rw [g1, g2]⟩
theorem BroadR.one {a b xs ys : List Int} {e f : Int} (h : BroadR a b xs e) (k : BroadR a b ys f) : xs = ys ∧ e = f := by
  rcases h with ⟨a1, b1, c1⟩ | ⟨a1, b1, c1, d1⟩ | ⟨a1, b1, c1, d1, e1⟩ | ⟨a1, b1, c1, d1, e1, f1⟩ | ⟨a1, b1, c1, d1, e1, f1⟩ <;> rcases k with ⟨a2, b2, c2⟩ | ⟨a2, b2, c2, d2⟩ | ⟨a2, b2, c2, d2, e2⟩ | ⟨a2, b2, c2, d2, e2, f2⟩ | ⟨a2, b2, c2, d2, e2, f2⟩
  all_goals first
    | exact absurd a2 a1
    | exact absurd a1 a2
    | exact absurd b2 b1
    | exact absurd b1 b2
    | exact absurd c2 c1
    | exact absurd c1 c2
    | exact absurd d2 d1
    | exact absurd d1 d2
    | (subst_vars; exact ⟨rfl, rfl⟩)

/-- What is picked of the indices: nought where the smaller shape's dim is 1. -/
def maskL (sm xs : List Int) (off : Nat) : List Int := (List.range sm.length).map fun i => if sm.getD i 0 = 1 then 0 else xs.getD (off + i) 0
theorem maskL_length (sm xs : List Int) (off : Nat) : (maskL sm xs off).length = sm.length := by simp [maskL]
theorem maskL_getD (sm xs : List Int) (off i : Nat) (h : i < sm.length) : (maskL sm xs off).getD i 0 = if sm.getD i 0 = 1 then 0 else xs.getD (off + i) 0 := by
  rw [List.getD_eq_getElem?_getD, List.getElem?_eq_getElem (by rw [maskL_length]; exact h)]
  simp [maskL]
/-- Does the smaller one go out to dims as it is? -/
def spreadsP (sm ds : List Int) : Prop := sm.length ≤ ds.length ∧ ∀ k, k < sm.length → dimV sm k = 1 ∨ dimV sm k = dimV ds k
/-- From: the place and the error that the document asks. -/
def FromR (sm ds : List Int) (at' r e : Int) : Prop :=
  ((sizeV sm).2 ≠ 0 ∧ r = 0 ∧ e = (sizeV sm).2) ∨ ((sizeV sm).2 = 0 ∧ (sizeV ds).2 ≠ 0 ∧ r = 0 ∧ e = (sizeV ds).2) ∨ ((sizeV sm).2 = 0 ∧ (sizeV ds).2 = 0 ∧ ¬ spreadsP sm ds ∧ r = 0 ∧ e = 3) ∨
  ((sizeV sm).2 = 0 ∧ (sizeV ds).2 = 0 ∧ spreadsP sm ds ∧ (at' < 0 ∨ (sizeV ds).1 ≤ at') ∧ r = 0 ∧ e = 2) ∨
  ((sizeV sm).2 = 0 ∧ (sizeV ds).2 = 0 ∧ spreadsP sm ds ∧ 0 ≤ at' ∧ at' < (sizeV ds).1 ∧ (∃ xs : List Int, xs.length = ds.length ∧ inR ds xs ∧ offN ds xs ds.length = at' ∧ r = offN sm (maskL sm xs (ds.length - sm.length)) sm.length) ∧ e = 0)
theorem FromR.one {sm ds : List Int} {a r s e f : Int} (h : FromR sm ds a r e) (k : FromR sm ds a s f) : r = s ∧ e = f := by
  rcases h with ⟨a1, b1, c1⟩ | ⟨a1, b1, c1, d1⟩ | ⟨a1, b1, c1, d1, e1⟩ | ⟨a1, b1, c1, d1, e1, f1⟩ | ⟨a1, b1, c1, d1, e1, ⟨xs, lx, ix, ox, rx⟩, f1⟩ <;> rcases k with ⟨a2, b2, c2⟩ | ⟨a2, b2, c2, d2⟩ | ⟨a2, b2, c2, d2, e2⟩ | ⟨a2, b2, c2, d2, e2, f2⟩ | ⟨a2, b2, c2, d2, e2, ⟨ys, ly, iy, oy, ry⟩, f2⟩
  all_goals first
    | exact absurd a2 a1
    | exact absurd a1 a2
    | exact absurd b2 b1
    | exact absurd b1 b2
    | exact absurd c2 c1
    | exact absurd c1 c2
    | (exfalso; omega)
    | exact ⟨by omega, by omega⟩
    | (have e := idx_one ix iy lx ly (by rw [ox, oy]); subst e; exact ⟨by rw [rx, ry], by omega⟩)
/-- The smaller one's indices are inside it. -/
theorem mask_in {sm ds xs : List Int} (hs : spreadsP sm ds) (hp : ∀ d ∈ sm, 1 ≤ d) (lx : xs.length = ds.length) (ix : inR ds xs) : inR sm (maskL sm xs (ds.length - sm.length)) := by
  intro i hi
  rw [maskL_getD _ _ _ _ hi]
  have hk := hs.2 (sm.length - 1 - i) (by omega)
  have h1 := hs.1
  unfold dimV at hk
  rw [if_neg (by omega), if_neg (by omega), show sm.length - 1 - (sm.length - 1 - i) = i by omega, show ds.length - 1 - (sm.length - 1 - i) = ds.length - sm.length + i by omega] at hk
  by_cases h : sm.getD i 0 = 1
  · rw [if_pos h, h]; omega
  · rw [if_neg h]
    rcases hk with hk | hk
    · exact absurd hk h
    · rw [hk]; exact ix _ (by omega)
/-- Broadcast of the two is the greater one: just where the smaller one goes out to it. -/
theorem dimV_ge {ds : List Int} {k : Nat} (h : ds.length ≤ k) : dimV ds k = 1 := by unfold dimV; rw [if_pos h]
theorem bcL_getD (a b : List Int) (j : Nat) (h : j < rankOf a b) : (bcL a b).getD j 0 = bcD a b (rankOf a b - 1 - j) := by
  rw [List.getD_eq_getElem?_getD, List.getElem?_eq_getElem (by rw [bcL_length]; exact h)]
  simp [bcL]
theorem dimV_bcL (a b : List Int) (k : Nat) : dimV (bcL a b) k = bcD a b k := by
  by_cases h : rankOf a b ≤ k
  · rw [dimV_ge (by rw [bcL_length]; exact h)]
    unfold bcD rankOf at *
    rw [dimV_ge (show a.length ≤ k by omega), dimV_ge (show b.length ≤ k by omega)]; rfl
  · unfold dimV
    rw [if_neg (by rw [bcL_length]; exact h), bcL_length, bcL_getD _ _ _ (by omega), show rankOf a b - 1 - (rankOf a b - 1 - k) = k by omega]
theorem dims_ext {a b : List Int} (hl : a.length = b.length) (h : ∀ k, k < a.length → dimV a k = dimV b k) : a = b := by
  apply list_ext_getD hl
  intro i hi
  have := h (a.length - 1 - i) (by omega)
  unfold dimV at this
  rw [if_neg (by omega), if_neg (by omega), show a.length - 1 - (a.length - 1 - i) = i by omega, show b.length - 1 - (a.length - 1 - i) = i by omega] at this
  exact this
theorem spreads_iff (sm ds : List Int) : spreadsP sm ds ↔ (fits sm ds ∧ bcL sm ds = ds) := by
  constructor
  · rintro ⟨h1, h2⟩
    have hr : rankOf sm ds = ds.length := by unfold rankOf; omega
    have hk : ∀ k, dimV sm k = 1 ∨ dimV sm k = dimV ds k := fun k => by
      rcases Nat.lt_or_ge k sm.length with g | g
      · exact h2 k g
      · exact .inl (dimV_ge g)
    refine ⟨fun i hi => by rcases hk i with h | h; exact .inr (.inl h); exact .inl h, dims_ext (by rw [bcL_length, hr]) (fun k hk' => ?_)⟩
    rw [dimV_bcL]; unfold bcD
    rcases hk k with h | h
    · rw [if_pos h]
    · split
      · rfl
      · exact h
  · rintro ⟨h1, h2⟩
    have hl : rankOf sm ds = ds.length := by rw [← bcL_length, h2]
    have hle : sm.length ≤ ds.length := by unfold rankOf at hl; omega
    refine ⟨hle, fun k hk => ?_⟩
    have e : dimV ds k = bcD sm ds k := by rw [← dimV_bcL, h2]
    unfold bcD at e
    by_cases h : dimV sm k = 1
    · exact .inl h
    · rw [if_neg h] at e; exact .inr e.symm
end Go.Proofs.Ytbepkmehnghmcaa
