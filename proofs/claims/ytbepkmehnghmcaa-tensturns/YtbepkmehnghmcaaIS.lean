import Derived.Test.YtbepkmehnghmcaaIR
import Derived.Test.YtbepkmehnghmcaaIJ

/-
  Layer 5: an order, and the one that undoes it: plain mathematics.
-/
namespace Go.Proofs.Ytbepkmehnghmcaa
open Go.RowKit
set_option linter.unusedVariables false

def thF (n K i : Nat) : Nat := n - 1 - (i + K) % n
def bkF (n K k : Nat) : Nat := (n - 1 - k + (n - K % n)) % n
theorem thF_lt {n K i : Nat} (h : 0 < n) : thF n K i < n := by unfold thF; omega
theorem bkF_lt {n K k : Nat} (h : 0 < n) : bkF n K k < n := Nat.mod_lt _ h
theorem th_bk {n K k : Nat} (h : k < n) : thF n K (bkF n K k) = k := by
  unfold thF bkF
  have e : ((n - 1 - k + (n - K % n)) % n + K) % n = n - 1 - k := by
    rw [Nat.add_mod, Nat.mod_mod, ← Nat.add_mod]
    have hk := Nat.div_add_mod K n
    have hm := Nat.mod_lt K (show 0 < n by omega)
    have e2 : n - 1 - k + (n - K % n) + K = (n - 1 - k) + n * (K / n + 1) := by rw [Nat.mul_add, Nat.mul_one]; omega
    rw [e2, Nat.add_mul_mod_self_left, Nat.mod_eq_of_lt (by omega)]
  rw [e]; omega
theorem bk_th {n K i : Nat} (h : i < n) : bkF n K (thF n K i) = i := by
  unfold thF bkF
  have hr := Nat.mod_lt (i + K) (show 0 < n by omega)
  have hm := Nat.mod_lt K (show 0 < n by omega)
  have e1 : n - 1 - (n - 1 - (i + K) % n) = (i + K) % n := by omega
  rw [e1]
  have hd := Nat.div_add_mod (i + K) n
  have hk := Nat.div_add_mod K n
  have e : ((i + K) % n + (n - K % n)) % n = (i + K + (n - K % n)) % n := by rw [Nat.mod_add_mod]
  rw [e]
  have e2 : i + K + (n - K % n) = i + n * (K / n + 1) := by rw [Nat.mul_add, Nat.mul_one]; omega
  rw [e2, Nat.add_mul_mod_self_left, Nat.mod_eq_of_lt h]
theorem th_inj {n K i j : Nat} (hi : i < n) (hj : j < n) (h : thF n K i = thF n K j) : i = j := by
  rw [← bk_th (K := K) hi, h, bk_th hj]
def thL (n K m : Nat) : List Int := (List.range m).map fun i : Nat => (thF n K i : Int)
def bkL (n K : Nat) : List Int := (List.range n).map fun i : Nat => (bkF n K i : Int)
theorem thL_length (n K m : Nat) : (thL n K m).length = m := by simp [thL]
theorem bkL_length (n K : Nat) : (bkL n K).length = n := by simp [bkL]
theorem thL_getD (n K m i : Nat) (h : i < m) : (thL n K m).getD i 0 = (thF n K i : Int) := by
  rw [List.getD_eq_getElem?_getD, List.getElem?_eq_getElem (by rw [thL_length]; exact h)]; simp [thL]
theorem bkL_getD (n K i : Nat) (h : i < n) : (bkL n K).getD i 0 = (bkF n K i : Int) := by
  rw [List.getD_eq_getElem?_getD, List.getElem?_eq_getElem (by rw [bkL_length]; exact h)]; simp [bkL]
theorem thL_snoc (n K m : Nat) : thL n K (m + 1) = thL n K m ++ [(thF n K m : Int)] := by simp [thL, List.range_succ]
theorem back_is {n K : Nat} {xs : List Int} (hl : xs.length = n) (h : ∀ i, i < n → xs.getD (thF n K i) 0 = (i : Int)) : xs = bkL n K := by
  apply List.ext_getElem
  · rw [hl, bkL_length]
  · intro k h1 h2
    have hk : k < n := by omega
    have := h (bkF n K k) (bkF_lt (by omega))
    rw [th_bk hk, List.getD_eq_getElem?_getD, List.getElem?_eq_getElem h1] at this
    simp only [bkL, List.getElem_map, List.getElem_range]
    simpa using this
theorem size_one {N : Nat} (h : N ≤ 4096) : sizeV [(N : Int)] = ((N : Int), 0) := by
  unfold sizeV
  rw [if_neg (by rintro ⟨d, h1, h2⟩; simp at h1; omega), if_neg (by
    intro g
    rcases g with g | ⟨d, h1, h2⟩
    · simp at g
    · simp at h1; omega)]
  by_cases z : (0 : Int) ∈ [(N : Int)]
  · rw [if_pos z]; simp at z; simp; omega
  · rw [if_neg z, prodL_one, if_neg (by omega)]
theorem turned {α : Type} [Inhabited α] {n K : Nat} (xs : List α) (z : α) (hz : z = default) (hx : xs.length = n) (f : List α → Int → α) (hf : ∀ l a, f l a = if a < 0 then z else l.getD a.toNat z) :
    (bkL n K).map (f ((thL n K n).map (f xs))) = xs := by
  apply List.ext_getElem
  · rw [List.length_map, bkL_length, hx]
  · intro k h1 h2
    have hk : k < n := by omega
    rw [List.getElem_map]
    have e : (bkL n K)[k]'(by rw [bkL_length]; exact hk) = (bkF n K k : Int) := by simp [bkL]
    have hb := bkF_lt (n := n) (K := K) (k := k) (by omega)
    rw [e, hf, if_neg (by omega), Int.toNat_natCast, List.getD_eq_getElem?_getD, List.getElem?_map, List.getElem?_eq_getElem (by rw [thL_length]; exact hb)]
    have e2 : (thL n K n)[bkF n K k]'(by rw [thL_length]; exact hb) = (thF n K (bkF n K k) : Int) := by simp [thL]
    rw [e2, th_bk hk]
    show f xs (k : Int) = _
    rw [hf, if_neg (by omega), Int.toNat_natCast, List.getD_eq_getElem?_getD, List.getElem?_eq_getElem h2]; rfl
/-- Picking by an order, and then by the one that undoes it. -/
theorem pick_back (T : Ten) (N K : Nat) (hc : checkV T = 0) (hN : (sizeV T.2.1).1 = (N : Int)) (hN4 : N ≤ 4096) :
    pickE T [(N : Int)] (thL N K N) = 0 ∧ checkV (pickT T [(N : Int)] (thL N K N)) = 0 ∧ pickE (pickT T [(N : Int)] (thL N K N)) T.2.1 (bkL N K) = 0 ∧ pickT (pickT T [(N : Int)] (thL N K N)) T.2.1 (bkL N K) = T := by
  obtain ⟨ty, ds, fs, is, bs⟩ := T
  obtain ⟨k1, k2⟩ := check_known hc
  obtain ⟨l1, l2, l3⟩ := check_lens hc
  simp only at k1 k2 l1 l2 l3 hN ⊢
  rw [hN] at l1 l2 l3
  have s1 := size_one hN4
  have hth : ∀ a ∈ thL N K N, ¬ (a < -1 ∨ (N : Int) ≤ a) := by
    intro a ha
    simp only [thL, List.mem_map, List.mem_range] at ha
    obtain ⟨i, hi, rfl⟩ := ha
    have := thF_lt (n := N) (K := K) (i := i) (by omega)
    omega
  have hbk : ∀ a ∈ bkL N K, ¬ (a < -1 ∨ (N : Int) ≤ a) := by
    intro a ha
    simp only [bkL, List.mem_map, List.mem_range] at ha
    obtain ⟨i, hi, rfl⟩ := ha
    have := bkF_lt (n := N) (K := K) (k := i) (by omega)
    omega
  have hne : ∀ d : List Int, (sizeV d).2 = 0 → newE ty d = 0 := fun d h => by unfold newE; rw [if_neg (by rw [k1]; decide), h]
  have hav : haveN (ty, ds, fs, is, bs) = N := by
    unfold haveN
    simp only
    rcases known_cases k1 with rfl | rfl | rfl <;> simp at l1 l2 l3 <;> simp [l1, l2, l3] <;> omega
  have p1 : pickE (ty, ds, fs, is, bs) [(N : Int)] (thL N K N) = 0 := by
    unfold pickE
    rw [if_neg (by rw [hc]; simp), if_neg (by rw [hne _ (by rw [s1])]; simp), if_neg (by rw [s1, thL_length]; simp), if_neg (by
      rintro ⟨a, g1, g2⟩
      rw [hav] at g2
      exact hth a g1 g2)]
  have c2 : checkV (pickT (ty, ds, fs, is, bs) [(N : Int)] (thL N K N)) = 0 := by
    unfold pickT checkV
    simp only
    rw [if_neg (by rw [k1]; decide), if_neg (by rw [s1]; simp), s1]
    rcases known_cases k1 with rfl | rfl | rfl <;> simp [thL_length]
  have hav2 : haveN (pickT (ty, ds, fs, is, bs) [(N : Int)] (thL N K N)) = N := by
    unfold haveN pickT
    simp only
    rcases known_cases k1 with rfl | rfl | rfl <;> simp [thL_length]
  refine ⟨p1, c2, ?_, ?_⟩
  · unfold pickE
    rw [if_neg (by rw [c2]; simp), if_neg (by show ¬ newE ty ds ≠ 0; rw [hne _ k2]; simp), if_neg (by rw [hN, bkL_length]; simp), if_neg (by
      rintro ⟨a, g1, g2⟩
      rw [hav2] at g2
      exact hbk a g1 g2)]
  · unfold pickT
    simp only
    rcases known_cases k1 with rfl | rfl | rfl
    · simp at l1 l2 l3
      simp [turned (n := N) (K := K) fs 0 rfl (by omega) pkI (fun _ _ => rfl), l2, l3]
    · simp at l1 l2 l3
      simp [turned (n := N) (K := K) is 0 rfl (by omega) pkI (fun _ _ => rfl), l1, l3]
    · simp at l1 l2 l3
      simp [turned (n := N) (K := K) bs false rfl (by omega) pkB (fun _ _ => rfl), l1, l2]
end Go.Proofs.Ytbepkmehnghmcaa
