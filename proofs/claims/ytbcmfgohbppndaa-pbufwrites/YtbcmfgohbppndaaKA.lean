import Derived.Test.YtbcmfgohbppndaaIA

/-
  Layer 6: varints, bytes and fields as plain data.
-/
namespace Go.Proofs.Ytbcmfgohbppndaa
open Go.RowKit
set_option linter.unusedVariables false

/-- A number's shortest form, so many bytes more at most. -/
def varF : Nat → Int → List Int
  | 0, x => [x]
  | n + 1, x => if x < 128 then [x] else (x % 128 + 128) :: varF n (x / 128)
def varV (x : Int) : List Int := varF 9 x
theorem varF_big (n : Nat) {x : Int} (h : ¬ x < 128) : varF (n + 1) x = (x % 128 + 128) :: varF n (x / 128) := by rw [varF, if_neg h]
theorem varF_more : ∀ (n : Nat) (x : Int), 0 ≤ x → x < 128 ^ (n + 1) → varF (n + 1) x = varF n x
  | 0, x, h0, h1 => by
    have : x < 128 := by simpa using h1
    simp [varF, this]
  | n + 1, x, h0, h1 => by
    by_cases h : x < 128
    · simp [varF, h]
    · rw [varF_big (n + 1) h, varF_big n h, varF_more n (x / 128) (by omega) (by rw [Int.pow_succ] at h1; omega)]
theorem pow128_9 : (128 : Int) ^ 9 = 9223372036854775808 := by decide
theorem varV_small {x : Int} (h : x < 128) : varV x = [x] := by unfold varV varF; rw [if_pos h]
theorem varV_step {x : Int} (h0 : ¬ x < 128) (h1 : x < 18446744073709551616) : varV x = (x % 128 + 128) :: varV (x / 128) := by
  unfold varV
  rw [varF, if_neg h0, ← varF_more 8 (x / 128) (by omega) (by rw [pow128_9]; omega)]
theorem varF_range : ∀ (n : Nat) (x : Int), 0 ≤ x → x < 128 ^ (n + 1) → ∀ c ∈ varF n x, 0 ≤ c ∧ c < 256
  | 0, x, h0, h1, c, hc => by
    simp [varF] at hc
    subst hc
    have : c < 128 := by simpa using h1
    omega
  | n + 1, x, h0, h1, c, hc => by
    rw [varF] at hc
    by_cases h : x < 128
    · rw [if_pos h] at hc; simp at hc; subst hc; omega
    · rw [if_neg h] at hc
      rcases List.mem_cons.1 hc with e | e
      · omega
      · exact varF_range n (x / 128) (by omega) (by rw [Int.pow_succ] at h1; omega) c e
theorem varV_range {x : Int} (h0 : 0 ≤ x) (h1 : x < 18446744073709551616) : ∀ c ∈ varV x, 0 ≤ c ∧ c < 256 := by
  have := varF_range 9 x h0 (by have : (128 : Int) ^ 10 = 1180591620717411303424 := by decide
                                omega)
  exact this
theorem varF_len : ∀ (n : Nat) (x : Int), 1 ≤ (varF n x).length ∧ (varF n x).length ≤ n + 1
  | 0, x => by simp [varF]
  | n + 1, x => by
    rw [varF]
    split
    · simp
    · have := varF_len n (x / 128)
      simp; omega
theorem varV_len (x : Int) : 1 ≤ (varV x).length ∧ (varV x).length ≤ 10 := varF_len 9 x

/-- The varint at a list's head: its number, and how many bytes; so many bytes more may come. -/
def rdG : Nat → List Int → Option (Int × Nat)
  | 0, _ => none
  | _ + 1, [] => none
  | k + 1, c :: r => if k = 0 ∧ 1 < c then none else if c < 128 then some (c % 128, 1) else (rdG k r).map fun y => (c % 128 + 128 * y.1, y.2 + 1)
/-- ReadVarint: number, place, error. -/
def rdN (b : List Int) (p : Nat) : Option (Int × Nat) := (rdG 10 (b.drop p)).map fun y => (y.1, p + y.2)
def rdV (b : List Int) (p : Int) : Int × Int × Int :=
  if p < 0 ∨ (b.length : Int) < p then (0, 0, 2) else match rdN b p.toNat with
    | none => (0, 0, 6)
    | some y => (y.1, (y.2 : Int), 0)
theorem rdG_count : ∀ (k : Nat) (r : List Int) (x : Int) (n : Nat), rdG k r = some (x, n) → 1 ≤ n ∧ n ≤ k ∧ n ≤ r.length
  | 0, _, _, _, h => by cases h
  | k + 1, [], _, _, h => by cases h
  | k + 1, c :: r, x, n, h => by
    rw [rdG] at h
    split at h
    · cases h
    · split at h
      · simp at h; simp; omega
      · cases hh : rdG k r with
        | none => rw [hh] at h; cases h
        | some y =>
          rw [hh] at h
          have := rdG_count k r y.1 y.2 hh
          simp at h
          simp; omega
theorem rdG_range : ∀ (k : Nat) (r : List Int) (x : Int) (n : Nat), k ≤ 10 → (∀ c ∈ r, 0 ≤ c ∧ c < 256) → rdG k r = some (x, n) → 0 ≤ x ∧ (1 ≤ k → x < 2 * 128 ^ (k - 1))
  | 0, _, _, _, _, _, h => by cases h
  | k + 1, [], _, _, _, _, h => by cases h
  | k + 1, c :: r, x, n, hk, hr, h => by
    rw [rdG] at h
    obtain ⟨c0, c1⟩ := hr c (by simp)
    split at h
    · cases h
    · rename_i hn
      split at h
      · simp at h
        obtain ⟨rfl, _⟩ := h
        refine ⟨by omega, fun _ => ?_⟩
        rcases Nat.eq_zero_or_pos k with e | e
        · subst e; simp at hn ⊢; omega
        · have : (128 : Int) ^ 1 ≤ 128 ^ k := by
            have := Nat.pow_le_pow_right (show 0 < 128 by decide) e
            have h2 : ((128 ^ 1 : Nat) : Int) ≤ ((128 ^ k : Nat) : Int) := Int.ofNat_le.2 this
            simpa using h2
          show c % 128 < 2 * 128 ^ k
          omega
      · rename_i hc
        cases hh : rdG k r with
        | none => rw [hh] at h; cases h
        | some y =>
          rw [hh] at h
          have hk0 : 1 ≤ k := by
            rcases Nat.eq_zero_or_pos k with e | e
            · subst e; cases hh
            · exact e
          obtain ⟨i0, i1⟩ := rdG_range k r y.1 y.2 (by omega) (fun c hc => hr c (by simp [hc])) hh
          have i1 := i1 hk0
          simp at h
          obtain ⟨rfl, _⟩ := h
          obtain ⟨j, rfl⟩ : ∃ j, k = j + 1 := ⟨k - 1, by omega⟩
          refine ⟨by omega, fun _ => ?_⟩
          show c % 128 + 128 * y.1 < 2 * 128 ^ (j + 1)
          have i1' : y.1 < 2 * 128 ^ j := i1
          rw [Int.pow_succ]
          generalize (128 : Int) ^ j = P at i1' ⊢
          omega
theorem rdG10_range {r : List Int} {x : Int} {n : Nat} (hr : ∀ c ∈ r, 0 ≤ c ∧ c < 256) (h : rdG 10 r = some (x, n)) : 0 ≤ x ∧ x < 18446744073709551616 := by
  obtain ⟨h0, h1⟩ := rdG_range 10 r x n (by omega) hr h
  have h2 := h1 (by omega)
  have : (2 : Int) * 128 ^ (10 - 1) = 18446744073709551616 := by decide
  omega
/-- What is written is read. -/
theorem rdG_varF : ∀ (k : Nat) (x : Int) (rest : List Int), 0 ≤ x → x < 2 * 128 ^ k → rdG (k + 1) (varF k x ++ rest) = some (x, (varF k x).length)
  | 0, x, rest, h0, h1 => by
    have : x < 2 := by simpa using h1
    simp [varF, rdG]
    omega
  | k + 1, x, rest, h0, h1 => by
    rw [varF]
    by_cases h : x < 128
    · rw [if_pos h]
      simp only [List.cons_append, List.nil_append, rdG]
      rw [if_neg (by omega), if_pos h]
      simp; omega
    · rw [if_neg h]
      have ih := rdG_varF k (x / 128) rest (by omega) (by rw [Int.pow_succ] at h1; generalize (128 : Int) ^ k = P at h1 ⊢; omega)
      simp only [List.cons_append]
      rw [rdG, if_neg (by omega), if_neg (by omega), ih]
      simp; omega
theorem rdG_varV {x : Int} (rest : List Int) (h0 : 0 ≤ x) (h1 : x < 18446744073709551616) : rdG 10 (varV x ++ rest) = some (x, (varV x).length) :=
  rdG_varF 9 x rest h0 (by have : (2 : Int) * 128 ^ 9 = 18446744073709551616 := by decide
                           omega)
/-- What lies behind does not count. -/
theorem rdG_more : ∀ (k : Nat) (r s : List Int) (y : Int × Nat), rdG k r = some y → rdG k (r ++ s) = some y
  | 0, _, _, _, h => by cases h
  | k + 1, [], _, _, h => by cases h
  | k + 1, c :: r, s, y, h => by
    rw [rdG] at h
    simp only [List.cons_append]
    rw [rdG]
    split at h
    · cases h
    · rename_i hn
      rw [if_neg hn]
      split at h
      · rename_i hc
        rw [if_pos hc]; exact h
      · rename_i hc
        rw [if_neg hc]
        cases hh : rdG k r with
        | none => rw [hh] at h; cases h
        | some z => rw [hh] at h; rw [rdG_more k r s z hh]; exact h
/-- The shortest form is the shortest. -/
theorem varF_least : ∀ (k : Nat) (r : List Int) (x : Int) (n : Nat), (∀ c ∈ r, 0 ≤ c ∧ c < 256) → rdG (k + 1) r = some (x, n) → (varF k x).length ≤ n
  | 0, r, x, n, hr, h => by
    have := (rdG_count 1 r x n h).1
    simp [varF]; omega
  | k + 1, [], x, n, hr, h => by cases h
  | k + 1, c :: r, x, n, hr, h => by
    rw [rdG] at h
    obtain ⟨c0, c1⟩ := hr c (by simp)
    split at h
    · cases h
    · split at h
      · simp at h
        obtain ⟨rfl, rfl⟩ := h
        rw [varF, if_pos (by omega)]
        simp
      · cases hh : rdG (k + 1) r with
        | none => rw [hh] at h; cases h
        | some y =>
          rw [hh] at h
          have ih := varF_least k r y.1 y.2 (fun c hc => hr c (by simp [hc])) hh
          simp at h
          obtain ⟨rfl, rfl⟩ := h
          rw [varF]
          split
          · simp
          · have e : (c % 128 + 128 * y.1) / 128 = y.1 := by omega
            rw [e]
            simp; omega
theorem varV_least {r : List Int} {x : Int} {n : Nat} (hr : ∀ c ∈ r, 0 ≤ c ∧ c < 256) (h : rdG 10 r = some (x, n)) : (varV x).length ≤ n := varF_least 9 r x n hr h
end Go.Proofs.Ytbcmfgohbppndaa
