import Derived.Test.YtbepkmehnghmcaaIO

/-
  Layer 5: a tensor comes back from its bytes; an order and the one that undoes it: plain mathematics.
-/
namespace Go.Proofs.Ytbepkmehnghmcaa
open Go.RowKit
set_option linter.unusedVariables false

theorem leL_getD (X : Int) : ∀ k j, j < k → (leL X k).getD j 0 = X / 256 ^ j % 256
  | 0, j, h => by omega
  | k + 1, j, h => by
    show (leL X k ++ [X / 256 ^ k % 256]).getD j 0 = _
    rw [List.getD_eq_getElem?_getD]
    rcases Nat.lt_or_ge j k with g | g
    · rw [List.getElem?_append_left (by rw [leL_length]; exact g), ← List.getD_eq_getElem?_getD, leL_getD X k j g]
    · have : j = k := by omega
      subst this
      rw [List.getElem?_append_right (by rw [leL_length]; exact Nat.le_refl _), leL_length, Nat.sub_self]; rfl
theorem bytesOf_getD {α : Type} [Inhabited α] (f : α → Int) (wd : Nat) : ∀ (xs : List α) (i j : Nat), i < xs.length → j < wd → (bytesOf f wd xs).getD (i * wd + j) 0 = f (xs.getD i default) / 256 ^ j % 256
  | [], i, j, h, _ => by simp at h
  | x :: r, 0, j, _, hj => by
    show (leL (f x) wd ++ bytesOf f wd r).getD (0 * wd + j) 0 = _
    rw [Nat.zero_mul, Nat.zero_add, List.getD_eq_getElem?_getD, List.getElem?_append_left (by rw [leL_length]; exact hj), ← List.getD_eq_getElem?_getD, leL_getD _ _ _ hj]; rfl
  | x :: r, i + 1, j, h, hj => by
    show (leL (f x) wd ++ bytesOf f wd r).getD ((i + 1) * wd + j) 0 = _
    rw [List.getD_eq_getElem?_getD, List.getElem?_append_right (by rw [leL_length, Nat.succ_mul]; omega), leL_length, show (i + 1) * wd + j - wd = i * wd + j by rw [Nat.succ_mul]; omega, ← List.getD_eq_getElem?_getD, bytesOf_getD f wd r i j (by simp at h; omega) hj]
    rfl
/-- The number comes back. -/
theorem hv_back {b : List Int} {off wd : Nat} {X : Int} (h0 : 0 ≤ X) (h1 : X < 256 ^ wd) (hb : ∀ j, j < wd → b.getD (off + j) 0 = X / 256 ^ j % 256) : ∀ m, m ≤ wd → hv b off wd m = X / 256 ^ (wd - m)
  | 0, _ => by
    show (0 : Int) = _
    rw [Nat.sub_zero, Int.ediv_eq_zero_of_lt h0 h1]
  | m + 1, hm => by
    show hv b off wd m * 256 + b.getD (off + (wd - 1 - m)) 0 = _
    rw [hv_back h0 h1 hb m (by omega), hb (wd - 1 - m) (by omega), show wd - m = (wd - 1 - m) + 1 by omega, ← div_step, show wd - (m + 1) = wd - 1 - m by omega]
    generalize X / 256 ^ (wd - 1 - m) = Y
    omega
theorem hv_all {b : List Int} {off wd : Nat} {X : Int} (h0 : 0 ≤ X) (h1 : X < 256 ^ wd) (hb : ∀ j, j < wd → b.getD (off + j) 0 = X / 256 ^ j % 256) : hv b off wd wd = X := by
  rw [hv_back h0 h1 hb wd (Nat.le_refl _), Nat.sub_self]; simp
theorem map_up {α : Type} [Inhabited α] (xs : List α) (g : Int → α) (h : ∀ i, i < xs.length → g (i : Int) = xs.getD i default) : (upL xs.length).map g = xs := by
  apply List.ext_getElem
  · rw [List.length_map, upL_length]
  · intro i h1 h2
    rw [List.getElem_map]
    have e : (upL xs.length)[i]'(by rw [upL_length]; exact h2) = (i : Int) := by simp [upL]
    rw [e, h i h2, List.getD_eq_getElem?_getD, List.getElem?_eq_getElem h2]; rfl
theorem p4 : (256 : Int) ^ 4 = 4294967296 := by decide
theorem p8 : (256 : Int) ^ 8 = 18446744073709551616 := by decide
theorem wrap_toU {x : Int} (h : (Lit.int .i64 x).wf = true) : wrap64 (toU x) = x := by
  have := wf_i64_iff h
  unfold wrap64 toU; omega
/-- A tensor that may be comes back whole from its bytes. -/
theorem from_back (T : Ten) (hc : checkV T = 0) (hf : ∀ x ∈ T.2.2.1, (Lit.int .u32 x).wf = true) (hi : ∀ x ∈ T.2.2.2.1, (Lit.int .i64 x).wf = true) :
    fromE T.1 T.2.1 (bytesV T) = 0 ∧ fromV T.1 T.2.1 (bytesV T) = T ∧ ((bytesV T).length : Int) = (sizeV T.2.1).1 * widthV T.1 := by
  obtain ⟨ty, ds, fs, is, bs⟩ := T
  simp only at hf hi
  obtain ⟨k1, k2⟩ := check_known hc
  obtain ⟨l1, l2, l3⟩ := check_lens hc
  simp only at k1 k2 l1 l2 l3
  have e0 : newE ty ds = 0 := by unfold newE; rw [if_neg (by rw [k1]; decide), k2]
  have eb : bytesV (ty, ds, fs, is, bs) = bytesL (ty, ds, fs, is, bs) := by unfold bytesV; rw [if_pos hc]
  rw [eb]
  show fromE ty ds _ = 0 ∧ fromV ty ds _ = _ ∧ _ = (sizeV ds).1 * widthV ty
  obtain ⟨N, hN, _⟩ := size_nat ds
  rw [hN] at l1 l2 l3
  rcases known_cases k1 with rfl | rfl | rfl
  · have n1 : fs.length = N := by simp at l1; omega
    have n2 : is = [] := by simp at l2; exact l2
    have n3 : bs = [] := by simp at l3; exact l3
    subst n2 n3
    have ebl : bytesL (1, ds, fs, [], []) = bytesOf id 4 fs := rfl
    have hl : ((bytesOf id 4 fs).length : Int) = (sizeV ds).1 * widthV 1 := by rw [bytesOf_length, hN, n1]; show _ = (N : Int) * 4; omega
    rw [ebl]
    have e1 : fromE 1 ds (bytesOf id 4 fs) = 0 := by
      unfold fromE
      rw [if_neg (by rw [e0]; simp), if_neg (by rw [hl]; simp), if_neg (fun h => absurd h.1 (by decide))]
    refine ⟨e1, ?_, hl⟩
    unfold fromV fromT
    rw [if_pos e1, hN]
    have em : (upL N).map (elF (bytesOf id 4 fs)) = fs := by
      rw [← n1]
      apply map_up
      intro i hi2
      unfold elF
      rw [Int.toNat_natCast]
      have hx := wf_u32_iff (hf _ (getD_mem5 hi2))
      exact hv_all hx.1 (by rw [p4]; exact hx.2) (fun j hj => bytesOf_getD id 4 fs i j hi2 hj)
    simp [em]
  · have n1 : is.length = N := by simp at l2; omega
    have n2 : fs = [] := by simp at l1; exact l1
    have n3 : bs = [] := by simp at l3; exact l3
    subst n2 n3
    have ebl : bytesL (7, ds, [], is, []) = bytesOf toU 8 is := rfl
    have hl : ((bytesOf toU 8 is).length : Int) = (sizeV ds).1 * widthV 7 := by rw [bytesOf_length, hN, n1]; show _ = (N : Int) * 8; omega
    rw [ebl]
    have e1 : fromE 7 ds (bytesOf toU 8 is) = 0 := by
      unfold fromE
      rw [if_neg (by rw [e0]; simp), if_neg (by rw [hl]; simp), if_neg (fun h => absurd h.1 (by decide))]
    refine ⟨e1, ?_, hl⟩
    unfold fromV fromT
    rw [if_pos e1, hN]
    have em : (upL N).map (elI (bytesOf toU 8 is)) = is := by
      rw [← n1]
      apply map_up
      intro i hi2
      unfold elI
      rw [Int.toNat_natCast]
      have hx := hi _ (getD_mem5 hi2)
      rw [hv_all (X := toU (is.getD i 0)) (by unfold toU; omega) (by rw [p8]; unfold toU; omega) (fun j hj => bytesOf_getD toU 8 is i j hi2 hj), wrap_toU hx]
      rfl
    simp [em]
  · have n1 : bs.length = N := by simp at l3; omega
    have n2 : fs = [] := by simp at l1; exact l1
    have n3 : is = [] := by simp at l2; exact l2
    subst n2 n3
    have ebl : bytesL (9, ds, [], [], bs) = bytesOf b01 1 bs := rfl
    have hl : ((bytesOf b01 1 bs).length : Int) = (sizeV ds).1 * widthV 9 := by rw [bytesOf_length, hN, n1]; show _ = (N : Int) * 1; omega
    rw [ebl]
    have hh : ∀ i, i < bs.length → hv (bytesOf b01 1 bs) i 1 1 = b01 (bs.getD i false) := fun i hi2 => by
      have := hv_all (b := bytesOf b01 1 bs) (off := i * 1) (wd := 1) (X := b01 (bs.getD i default)) (by unfold b01; split <;> omega) (by unfold b01; split <;> simp) (fun j hj => bytesOf_getD b01 1 bs i j hi2 hj)
      rw [Nat.mul_one] at this
      exact this
    have e1 : fromE 9 ds (bytesOf b01 1 bs) = 0 := by
      unfold fromE
      rw [if_neg (by rw [e0]; simp), if_neg (by rw [hl]; simp), if_neg]
      rintro ⟨_, i, g1, g2⟩
      rw [bytesOf_length, Nat.mul_one] at g1
      rw [hh i g1] at g2
      unfold b01 at g2
      split at g2 <;> omega
    refine ⟨e1, ?_, hl⟩
    unfold fromV fromT
    rw [if_pos e1, hN]
    have em : (upL N).map (elB (bytesOf b01 1 bs)) = bs := by
      rw [← n1]
      apply map_up
      intro i hi2
      unfold elB
      rw [Int.toNat_natCast, hh i hi2]
      show _ = bs.getD i false
      cases bs.getD i false <;> rfl
    simp [em]
end Go.Proofs.Ytbepkmehnghmcaa
