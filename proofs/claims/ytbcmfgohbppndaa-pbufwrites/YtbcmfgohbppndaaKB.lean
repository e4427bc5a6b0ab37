import Derived.Test.YtbcmfgohbppndaaKA

/-
  Layer 6: messages as plain data: what is written is read.
-/
namespace Go.Proofs.Ytbcmfgohbppndaa
open Go.RowKit
set_option linter.unusedVariables false

/-- Number, wire, X, data. -/
abbrev Fld := Int × Int × Int × List Int
def isB (r : List Int) : Prop := ∀ c ∈ r, 0 ≤ c ∧ c < 256
theorem isB_drop {r : List Int} (h : isB r) (n : Nat) : isB (r.drop n) := fun c hc => h c (List.mem_of_mem_drop hc)
theorem isB_take {r : List Int} (h : isB r) (n : Nat) : isB (r.take n) := fun c hc => h c (List.mem_of_mem_take hc)
theorem isB_append {r s : List Int} (h : isB r) (k : isB s) : isB (r ++ s) := fun c hc => by
  rcases List.mem_append.1 hc with e | e
  · exact h c e
  · exact k c e
/-- Bytes, the least one first. -/
def leV : List Int → Int
  | [] => 0
  | c :: r => c + 256 * leV r
theorem leV_snoc (c : Int) : ∀ l : List Int, leV (l ++ [c]) = leV l + 256 ^ l.length * c
  | [] => by simp [leV]
  | x :: l => by
    simp only [List.cons_append, leV, List.length_cons, leV_snoc c l, Int.pow_succ]
    generalize (256 : Int) ^ l.length = P
    generalize leV l = Q
    have : 256 * (Q + P * c) = 256 * Q + P * 256 * c := by rw [Int.mul_add, Int.mul_comm P 256, Int.mul_assoc]
    omega
theorem leV_range : ∀ l : List Int, isB l → 0 ≤ leV l ∧ leV l < 256 ^ l.length
  | [], _ => by simp [leV]
  | x :: l, h => by
    obtain ⟨h0, h1⟩ := leV_range l (fun c hc => h c (by simp [hc]))
    obtain ⟨c0, c1⟩ := h x (by simp)
    simp only [leV, List.length_cons, Int.pow_succ]
    generalize (256 : Int) ^ l.length = P at *
    omega
/-- A number as so many bytes. -/
def fxL (X : Int) : Nat → List Int
  | 0 => []
  | k + 1 => fxL X k ++ [X / 256 ^ k % 256]
theorem fxL_length (X : Int) : ∀ k, (fxL X k).length = k
  | 0 => rfl
  | k + 1 => by simp [fxL, fxL_length X k]
theorem fxL_isB (X : Int) : ∀ k, isB (fxL X k)
  | 0 => fun c hc => by cases hc
  | k + 1 => isB_append (fxL_isB X k) (fun c hc => by simp at hc; subst hc; omega)
theorem leV_fxL (X : Int) (h0 : 0 ≤ X) : ∀ k, leV (fxL X k) = X % 256 ^ k
  | 0 => by simp [fxL, leV, Int.emod_one]
  | k + 1 => by
    rw [fxL, leV_snoc, leV_fxL X h0 k, fxL_length]
    have e1 : X % 256 ^ (k + 1) = X % 256 ^ k + 256 ^ k * (X / 256 ^ k % 256) := by
      have hP : (0 : Int) ≤ 256 ^ k := Int.pow_nonneg (by decide)
      have e : X / (256 ^ k * 256) = X / 256 ^ k / 256 := (Int.ediv_ediv_of_nonneg hP).symm
      rw [Int.pow_succ, Int.emod_def X (256 ^ k * 256), Int.emod_def X (256 ^ k), Int.emod_def (X / 256 ^ k) 256, e]
      generalize X / 256 ^ k = A
      generalize (256 : Int) ^ k = P
      generalize A / 256 = B
      rw [Int.mul_sub, Int.mul_assoc]
      generalize P * A = u
      generalize P * (256 * B) = v
      omega
    rw [e1]
/-- The field at a list's head, and how many bytes. -/
def oneL (r : List Int) : Option (Fld × Nat) :=
  match rdG 10 r with
  | none => none
  | some t =>
    if t.1 / 8 < 1 ∨ 536870911 < t.1 / 8 then none
    else if t.1 % 8 = 0 then (rdG 10 (r.drop t.2)).map fun y => ((t.1 / 8, 0, y.1, []), t.2 + y.2)
    else if t.1 % 8 = 1 then (if r.length < t.2 + 8 then none else some ((t.1 / 8, 1, leV ((r.drop t.2).take 8), []), t.2 + 8))
    else if t.1 % 8 = 5 then (if r.length < t.2 + 4 then none else some ((t.1 / 8, 5, leV ((r.drop t.2).take 4), []), t.2 + 4))
    else if t.1 % 8 = 2 then (match rdG 10 (r.drop t.2) with
      | none => none
      | some y => if (r.length : Int) < (t.2 + y.2 : Nat) + y.1 then none else some ((t.1 / 8, 2, 0, (r.drop (t.2 + y.2)).take y.1.toNat), t.2 + y.2 + y.1.toNat))
    else none
def mayF (f : Fld) : Prop := 1 ≤ f.1 ∧ f.1 ≤ 536870911 ∧ ((f.2.1 = 0 ∨ f.2.1 = 1) ∧ f.2.2.2 = [] ∨ f.2.1 = 5 ∧ f.2.2.2 = [] ∧ f.2.2.1 < 4294967296 ∨ f.2.1 = 2 ∧ f.2.2.1 = 0)
/-- X is a number of 64 bits, Data is bytes. -/
def okF (f : Fld) : Prop := 0 ≤ f.2.2.1 ∧ f.2.2.1 < 18446744073709551616 ∧ isB f.2.2.2
def bodyB (f : Fld) : List Int := if f.2.1 = 0 then varV f.2.2.1 else if f.2.1 = 1 then fxL f.2.2.1 8 else if f.2.1 = 5 then fxL f.2.2.1 4 else varV (f.2.2.2.length : Int) ++ f.2.2.2
def fieldB (f : Fld) : List Int := varV (f.1 * 8 + f.2.1) ++ bodyB f
theorem drop_len_append {α : Type} (a b : List α) : (a ++ b).drop a.length = b := by simp
theorem take_len_append {α : Type} (a b : List α) (n : Nat) (h : n = a.length) : (a ++ b).take n = a := by subst h; simp
theorem oneL_fieldB (f : Fld) (rest : List Int) (hm : mayF f) (ho : okF f) (hl : f.2.2.2.length < 18446744073709551616) : oneL (fieldB f ++ rest) = some (f, (fieldB f).length) := by
  obtain ⟨num, wire, x, d⟩ := f
  obtain ⟨m1, m2, m3⟩ := hm
  obtain ⟨o1, o2, o3⟩ := ho
  simp only at m1 m2 m3 o1 o2 o3 hl
  have hw : wire = 0 ∨ wire = 1 ∨ wire = 5 ∨ wire = 2 := by omega
  have ht0 : 0 ≤ num * 8 + wire := by omega
  have ht1 : num * 8 + wire < 18446744073709551616 := by omega
  have e1 := rdG_varV (bodyB (num, wire, x, d) ++ rest) ht0 ht1
  have ed : (num * 8 + wire) / 8 = num := by omega
  have em : (num * 8 + wire) % 8 = wire := by omega
  unfold oneL fieldB
  rw [List.append_assoc, e1]
  simp only [ed, em]
  rw [if_neg (by omega), drop_len_append]
  rcases hw with rfl | rfl | rfl | rfl
  · rw [if_pos rfl]
    have hd : d = [] := by rcases m3 with h | h | h <;> first | exact h.2 | omega
    subst hd
    have eb : bodyB (num, 0, x, []) = varV x := rfl
    rw [eb, rdG_varV rest o1 o2]
    simp
  · rw [if_neg (by decide), if_pos rfl]
    have hd : d = [] := by rcases m3 with h | h | h <;> first | exact h.2 | omega
    subst hd
    have eb : bodyB (num, 1, x, []) = fxL x 8 := rfl
    rw [eb, if_neg (by simp [fxL_length] <;> omega), take_len_append _ _ 8 (by rw [fxL_length]), leV_fxL x o1, Int.emod_eq_of_lt o1 (by rw [show (256 : Int) ^ 8 = 18446744073709551616 by decide]; exact o2)]
    simp [fxL_length]
  · rw [if_neg (by decide), if_neg (by decide), if_pos rfl]
    have hd : d = [] ∧ x < 4294967296 := by rcases m3 with h | h | h <;> first | exact h.2 | omega
    obtain ⟨rfl, hx⟩ := hd
    have eb : bodyB (num, 5, x, []) = fxL x 4 := rfl
    rw [eb, if_neg (by simp [fxL_length] <;> omega), take_len_append _ _ 4 (by rw [fxL_length]), leV_fxL x o1, Int.emod_eq_of_lt o1 (by rw [show (256 : Int) ^ 4 = 4294967296 by decide]; exact hx)]
    simp [fxL_length]
  · rw [if_neg (by decide), if_neg (by decide), if_neg (by decide), if_pos rfl]
    have hx : x = 0 := by rcases m3 with h | h | h <;> first | exact h.2 | omega
    subst hx
    have eb : bodyB (num, 2, 0, d) = varV (d.length : Int) ++ d := rfl
    rw [eb, List.append_assoc, rdG_varV (d ++ rest) (by omega) (by omega)]
    simp only
    rw [if_neg (by simp; omega), Int.toNat_natCast]
    have e3 : (varV (num * 8 + 2) ++ (varV (d.length : Int) ++ (d ++ rest))).drop ((varV (num * 8 + 2)).length + (varV (d.length : Int)).length) = d ++ rest := by
      rw [← List.append_assoc, ← List.length_append, drop_len_append]
    rw [e3, take_len_append d rest _ rfl]
    simp [Nat.add_assoc]
/-- What is read may be written, in no more bytes. -/
theorem oneL_may {r : List Int} {f : Fld} {k : Nat} (hr : isB r) (h : oneL r = some (f, k)) : mayF f ∧ okF f ∧ (fieldB f).length ≤ k ∧ 1 ≤ k ∧ k ≤ r.length := by
  unfold oneL at h
  cases ht : rdG 10 r with
  | none => rw [ht] at h; cases h
  | some t =>
    obtain ⟨tag, p⟩ := t
    rw [ht] at h
    simp only at h
    obtain ⟨c1, c2, c3⟩ := rdG_count 10 r tag p ht
    obtain ⟨t0, t1⟩ := rdG10_range hr ht
    have tl := varV_least hr ht
    by_cases hb : tag / 8 < 1 ∨ 536870911 < tag / 8
    · rw [if_pos hb] at h; cases h
    · rw [if_neg hb] at h
      by_cases h0 : tag % 8 = 0
      · rw [if_pos h0] at h
        cases hy : rdG 10 (r.drop p) with
        | none => rw [hy] at h; cases h
        | some y =>
          obtain ⟨x, q⟩ := y
          rw [hy] at h
          simp at h
          obtain ⟨rfl, rfl⟩ := h
          obtain ⟨q1, q2, q3⟩ := rdG_count 10 _ x q hy
          obtain ⟨x0, x1⟩ := rdG10_range (isB_drop hr p) hy
          have xl := varV_least (isB_drop hr p) hy
          have et : tag / 8 * 8 + 0 = tag := by omega
          simp at q3
          refine ⟨⟨by simp; omega, by simp; omega, .inl ⟨.inl rfl, rfl⟩⟩, ⟨x0, x1, fun c hc => by cases hc⟩, ?_, by omega, by omega⟩
          unfold fieldB bodyB
          simp only [et, if_true, List.length_append]
          omega
      · rw [if_neg h0] at h
        by_cases h1 : tag % 8 = 1
        · rw [if_pos h1] at h
          by_cases hl : r.length < p + 8
          · rw [if_pos hl] at h; cases h
          · rw [if_neg hl] at h
            simp at h
            obtain ⟨rfl, rfl⟩ := h
            have hv := leV_range ((r.drop p).take 8) (isB_take (isB_drop hr p) 8)
            have hln : ((r.drop p).take 8).length = 8 := by simp; omega
            rw [hln, show (256 : Int) ^ 8 = 18446744073709551616 by decide] at hv
            have et : tag / 8 * 8 + 1 = tag := by omega
            refine ⟨⟨by simp; omega, by simp; omega, .inl ⟨.inr rfl, rfl⟩⟩, ⟨hv.1, hv.2, fun c hc => by cases hc⟩, ?_, by omega, by omega⟩
            unfold fieldB bodyB
            simp only [et, List.length_append]
            rw [if_neg (by decide), if_pos trivial, fxL_length]
            omega
        · rw [if_neg h1] at h
          by_cases h5 : tag % 8 = 5
          · rw [if_pos h5] at h
            by_cases hl : r.length < p + 4
            · rw [if_pos hl] at h; cases h
            · rw [if_neg hl] at h
              simp at h
              obtain ⟨rfl, rfl⟩ := h
              have hv := leV_range ((r.drop p).take 4) (isB_take (isB_drop hr p) 4)
              have hln : ((r.drop p).take 4).length = 4 := by simp; omega
              rw [hln, show (256 : Int) ^ 4 = 4294967296 by decide] at hv
              have et : tag / 8 * 8 + 5 = tag := by omega
              refine ⟨⟨by simp; omega, by simp; omega, .inr (.inl ⟨rfl, rfl, hv.2⟩)⟩, ⟨hv.1, by simp only; omega, fun c hc => by cases hc⟩, ?_, by omega, by omega⟩
              unfold fieldB bodyB
              simp only [et, List.length_append]
              rw [if_neg (by decide), if_neg (by decide), if_pos trivial, fxL_length]
              omega
          · rw [if_neg h5] at h
            by_cases h2 : tag % 8 = 2
            · rw [if_pos h2] at h
              cases hy : rdG 10 (r.drop p) with
              | none => rw [hy] at h; cases h
              | some y =>
                obtain ⟨x, q⟩ := y
                rw [hy] at h
                simp only at h
                obtain ⟨q1, q2, q3⟩ := rdG_count 10 _ x q hy
                obtain ⟨x0, x1⟩ := rdG10_range (isB_drop hr p) hy
                have xl := varV_least (isB_drop hr p) hy
                simp at q3
                by_cases hl : (r.length : Int) < (p + q : Nat) + x
                · rw [if_pos hl] at h; cases h
                · rw [if_neg hl] at h
                  simp at h
                  obtain ⟨rfl, rfl⟩ := h
                  have hln : ((r.drop (p + q)).take x.toNat).length = x.toNat := by simp; omega
                  have et : tag / 8 * 8 + 2 = tag := by omega
                  refine ⟨⟨by simp; omega, by simp; omega, .inr (.inr ⟨rfl, rfl⟩)⟩, ⟨by simp, by simp, isB_take (isB_drop hr _) _⟩, ?_, by omega, by omega⟩
                  unfold fieldB bodyB
                  simp only [et, List.length_append, hln]
                  rw [if_neg (by decide), if_neg (by decide), if_neg (by decide), List.length_append, hln, show ((x.toNat : Nat) : Int) = x by omega]
                  omega
            · rw [if_neg h2] at h; cases h
/-- The fields of a message, so many at most. -/
def readF : Nat → List Int → Option (List Fld)
  | 0, r => if r.length = 0 then some [] else none
  | n + 1, r => if r.length = 0 then some [] else match oneL r with
    | none => none
    | some y => (readF n (r.drop y.2)).map (y.1 :: ·)
end Go.Proofs.Ytbcmfgohbppndaa
