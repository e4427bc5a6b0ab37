import Derived.Test.YtbcmfgohbppndaaKB

/-
  Layer 6: whole messages, and what is picked of them.
-/
namespace Go.Proofs.Ytbcmfgohbppndaa
open Go.RowKit
set_option linter.unusedVariables false

theorem oneL_count {r : List Int} {f : Fld} {k : Nat} (h : oneL r = some (f, k)) : 1 ≤ k := by
  unfold oneL at h
  cases ht : rdG 10 r with
  | none => rw [ht] at h; cases h
  | some t =>
    obtain ⟨tag, p⟩ := t
    rw [ht] at h
    simp only at h
    have c1 := (rdG_count 10 r tag p ht).1
    split at h
    · cases h
    · split at h
      · cases hy : rdG 10 (r.drop p) with
        | none => rw [hy] at h; cases h
        | some y => rw [hy] at h; simp at h; omega
      · split at h
        · split at h
          · cases h
          · simp at h; omega
        · split at h
          · split at h
            · cases h
            · simp at h; omega
          · split at h
            · cases hy : rdG 10 (r.drop p) with
              | none => rw [hy] at h; cases h
              | some y =>
                rw [hy] at h
                simp only at h
                split at h
                · cases h
                · simp at h; omega
            · cases h
theorem readF_fuel : ∀ (n m : Nat) (r : List Int), r.length ≤ n → r.length ≤ m → readF n r = readF m r
  | 0, m, r, h1, h2 => by
    have h0 : r.length = 0 := by omega
    cases m with
    | zero => rfl
    | succ m => rw [readF, readF, if_pos h0, if_pos h0]
  | n + 1, m, r, h1, h2 => by
    by_cases h0 : r.length = 0
    · cases m with
      | zero => rw [readF, readF, if_pos h0, if_pos h0]
      | succ m => rw [readF, readF, if_pos h0, if_pos h0]
    · cases m with
      | zero => omega
      | succ m =>
        rw [readF, readF, if_neg h0, if_neg h0]
        cases ho : oneL r with
        | none => rfl
        | some y =>
          have := oneL_count (f := y.1) (k := y.2) ho
          simp only
          rw [readF_fuel n m (r.drop y.2) (by simp; omega) (by simp; omega)]
def readL (r : List Int) : Option (List Fld) := readF r.length r
theorem readL_nil : readL [] = some [] := rfl
theorem readL_step {r : List Int} (h0 : ¬ r.length = 0) : readL r = match oneL r with
    | none => none
    | some y => (readL (r.drop y.2)).map (y.1 :: ·) := by
  unfold readL
  obtain ⟨n, hn⟩ : ∃ n, r.length = n + 1 := ⟨r.length - 1, by omega⟩
  rw [hn, readF, if_neg h0]
  cases ho : oneL r with
  | none => rfl
  | some y =>
    have := oneL_count (f := y.1) (k := y.2) ho
    simp only
    rw [readF_fuel n (r.drop y.2).length (r.drop y.2) (by simp; omega) (Nat.le_refl _)]
/-- Read: fields and error. -/
def readV (b : List Int) : List Fld × Int := if 4194304 < b.length then ([], 8) else match readL b with
  | none => ([], 6)
  | some l => (l, 0)
def mayB (f : Fld) : Bool := decide (1 ≤ f.1) && decide (f.1 ≤ 536870911) && ((f.2.1 == 0 || f.2.1 == 1) && f.2.2.2.isEmpty || f.2.1 == 5 && f.2.2.2.isEmpty && decide (f.2.2.1 < 4294967296) || f.2.1 == 2 && f.2.2.1 == 0)
theorem mayB_iff (f : Fld) : mayB f = true ↔ mayF f := by
  unfold mayB mayF
  simp only [Bool.and_eq_true, Bool.or_eq_true, decide_eq_true_eq, beq_iff_eq, List.isEmpty_iff]
  constructor
  · rintro ⟨⟨h1, h2⟩, (⟨h3, h4⟩ | ⟨⟨h3, h4⟩, h5⟩) | ⟨h3, h4⟩⟩
    · exact ⟨h1, h2, .inl ⟨h3, h4⟩⟩
    · exact ⟨h1, h2, .inr (.inl ⟨h3, h4, h5⟩)⟩
    · exact ⟨h1, h2, .inr (.inr ⟨h3, h4⟩)⟩
  · rintro ⟨h1, h2, ⟨h3, h4⟩ | ⟨h3, h4, h5⟩ | ⟨h3, h4⟩⟩
    · exact ⟨⟨h1, h2⟩, .inl (.inl ⟨h3, h4⟩)⟩
    · exact ⟨⟨h1, h2⟩, .inl (.inr ⟨⟨h3, h4⟩, h5⟩)⟩
    · exact ⟨⟨h1, h2⟩, .inr ⟨h3, h4⟩⟩
def msgB (l : List Fld) : List Int := l.flatMap fieldB
/-- Write: bytes and error. -/
def writeV (l : List Fld) : List Int × Int := if l.all mayB = false then ([], 1) else if 4194304 < (msgB l).length then ([], 8) else (msgB l, 0)
theorem fieldB_pos (f : Fld) : 1 ≤ (fieldB f).length := by
  have := (varV_len (f.1 * 8 + f.2.1)).1
  unfold fieldB; simp; omega
theorem readL_msg : ∀ (l : List Fld) (rest : List Int), (∀ f ∈ l, mayF f ∧ okF f ∧ f.2.2.2.length < 18446744073709551616) → readL (msgB l ++ rest) = (readL rest).map (l ++ ·)
  | [], rest, _ => by
    simp only [msgB, List.flatMap_nil, List.nil_append]
    cases readL rest <;> rfl
  | f :: l, rest, h => by
    obtain ⟨h1, h2, h3⟩ := h f (by simp)
    have ih := readL_msg l rest (fun g hg => h g (by simp [hg]))
    have hp := fieldB_pos f
    have e : msgB (f :: l) ++ rest = fieldB f ++ (msgB l ++ rest) := by simp [msgB]
    rw [e, readL_step (by rw [List.length_append]; omega), oneL_fieldB f (msgB l ++ rest) h1 h2 h3]
    simp only
    rw [drop_len_append, ih]
    cases readL rest <;> rfl
/-- What is written is read. -/
theorem read_write {l : List Fld} (h : ∀ f ∈ l, okF f ∧ f.2.2.2.length < 18446744073709551616) (hw : (writeV l).2 = 0) : readV (writeV l).1 = (l, 0) := by
  unfold writeV at hw ⊢
  by_cases h1 : l.all mayB = false
  · rw [if_pos h1] at hw; cases hw
  · rw [if_neg h1] at hw ⊢
    by_cases h2 : 4194304 < (msgB l).length
    · rw [if_pos h2] at hw; cases hw
    · rw [if_neg h2]
      have hm : ∀ f ∈ l, mayF f ∧ okF f ∧ f.2.2.2.length < 18446744073709551616 := fun f hf => ⟨(mayB_iff f).1 (List.all_eq_true.1 (by simpa using h1) f hf), h f hf⟩
      have := readL_msg l [] hm
      rw [List.append_nil, readL_nil] at this
      unfold readV
      simp only
      rw [if_neg h2, this]
      simp
theorem readF_may : ∀ (n : Nat) (r : List Int) (l : List Fld), isB r → readF n r = some l → (∀ f ∈ l, mayF f ∧ okF f) ∧ (msgB l).length ≤ r.length
  | 0, r, l, hr, h => by
    rw [readF] at h
    split at h
    · simp at h; subst h; exact ⟨fun f hf => by simp at hf, by simp [msgB]⟩
    · cases h
  | n + 1, r, l, hr, h => by
    rw [readF] at h
    split at h
    · simp at h; subst h; exact ⟨fun f hf => by simp at hf, by simp [msgB]⟩
    · cases ho : oneL r with
      | none => rw [ho] at h; cases h
      | some y =>
        rw [ho] at h
        simp only at h
        cases hh : readF n (r.drop y.2) with
        | none => rw [hh] at h; cases h
        | some l' =>
          rw [hh] at h
          simp at h
          subst h
          obtain ⟨i1, i2⟩ := readF_may n (r.drop y.2) l' (isB_drop hr _) hh
          obtain ⟨m1, m2, m3, m4, m5⟩ := oneL_may (f := y.1) (k := y.2) hr ho
          refine ⟨fun f hf => ?_, ?_⟩
          · rcases List.mem_cons.1 hf with e | e
            · subst e; exact ⟨m1, m2⟩
            · exact i1 f e
          · have e : msgB (y.1 :: l') = fieldB y.1 ++ msgB l' := by simp [msgB]
            rw [e, List.length_append]
            simp at i2
            omega
/-- What is read is written in no more bytes. -/
theorem write_read {b : List Int} (hb : isB b) (h : (readV b).2 = 0) : (writeV (readV b).1).2 = 0 ∧ (writeV (readV b).1).1.length ≤ b.length ∧ (∀ f ∈ (readV b).1, okF f ∧ f.2.2.2.length ≤ 4194304) := by
  unfold readV at h ⊢
  by_cases h1 : 4194304 < b.length
  · rw [if_pos h1] at h; cases h
  · rw [if_neg h1] at h ⊢
    cases hl : readL b with
    | none => rw [hl] at h; cases h
    | some l =>
      simp only
      obtain ⟨m1, m2⟩ := readF_may _ b l hb hl
      have ha : ¬ l.all mayB = false := by
        have : l.all mayB = true := List.all_eq_true.2 (fun f hf => (mayB_iff f).2 (m1 f hf).1)
        rw [this]; decide
      unfold writeV
      rw [if_neg ha, if_neg (by omega)]
      refine ⟨rfl, m2, fun f hf => ⟨(m1 f hf).2, ?_⟩⟩
      have hle : f.2.2.2.length ≤ (msgB l).length := by
        obtain ⟨a, c, rfl⟩ := List.append_of_mem hf
        obtain ⟨mm1, mm2, mm3⟩ := (m1 f hf).1
        have e : msgB (a ++ f :: c) = msgB a ++ (fieldB f ++ msgB c) := by simp [msgB]
        rw [e]
        have : f.2.2.2.length ≤ (fieldB f).length := by
          unfold fieldB bodyB
          rcases mm3 with ⟨_, hd⟩ | ⟨_, hd, _⟩ | ⟨hw, _⟩
          · rw [hd]; simp
          · rw [hd]; simp
          · rw [hw, if_neg (by decide), if_neg (by decide), if_neg (by decide)]; simp; omega
        simp; omega
      omega
/-- What lies behind a field does not count. -/
theorem oneL_more {r : List Int} {y : Fld × Nat} (h : oneL r = some y) (hk : y.2 ≤ r.length) (s : List Int) (hr : isB r) : oneL (r ++ s) = some y := by
  unfold oneL at h ⊢
  cases ht : rdG 10 r with
  | none => rw [ht] at h; cases h
  | some t =>
    obtain ⟨tag, p⟩ := t
    rw [ht] at h
    rw [rdG_more 10 r s (tag, p) ht]
    simp only at h ⊢
    obtain ⟨c1, c2, c3⟩ := rdG_count 10 r tag p ht
    rw [List.drop_append_of_le_length c3]
    by_cases hb : tag / 8 < 1 ∨ 536870911 < tag / 8
    · rw [if_pos hb] at h; cases h
    · rw [if_neg hb] at h ⊢
      by_cases h0 : tag % 8 = 0
      · rw [if_pos h0] at h ⊢
        cases hy : rdG 10 (r.drop p) with
        | none => rw [hy] at h; cases h
        | some z => rw [hy] at h; rw [rdG_more 10 _ s z hy]; exact h
      · rw [if_neg h0] at h ⊢
        by_cases h1 : tag % 8 = 1
        · rw [if_pos h1] at h ⊢
          by_cases hl : r.length < p + 8
          · rw [if_pos hl] at h; cases h
          · rw [if_neg hl] at h
            rw [if_neg (by simp; omega), List.take_append_of_le_length (by simp; omega)]; exact h
        · rw [if_neg h1] at h ⊢
          by_cases h5 : tag % 8 = 5
          · rw [if_pos h5] at h ⊢
            by_cases hl : r.length < p + 4
            · rw [if_pos hl] at h; cases h
            · rw [if_neg hl] at h
              rw [if_neg (by simp; omega), List.take_append_of_le_length (by simp; omega)]; exact h
          · rw [if_neg h5] at h ⊢
            by_cases h2 : tag % 8 = 2
            · rw [if_pos h2] at h ⊢
              cases hy : rdG 10 (r.drop p) with
              | none => rw [hy] at h; cases h
              | some z =>
                obtain ⟨x, q⟩ := z
                rw [hy] at h
                rw [rdG_more 10 _ s (x, q) hy]
                simp only at h ⊢
                obtain ⟨q1, q2, q3⟩ := rdG_count 10 _ x q hy
                obtain ⟨x0, x1⟩ := rdG10_range (isB_drop hr p) hy
                simp at q3
                by_cases hl : (r.length : Int) < (p + q : Nat) + x
                · rw [if_pos hl] at h; cases h
                · rw [if_neg hl] at h
                  rw [if_neg (by simp; omega), List.drop_append_of_le_length (by omega), List.take_append_of_le_length (by simp; omega)]
                  exact h
            · rw [if_neg h2] at h; cases h
theorem readF_join : ∀ (n : Nat) (a b : List Int) (l : List Fld), isB a → a.length ≤ n → readF n a = some l → readL (a ++ b) = (readL b).map (l ++ ·)
  | 0, a, b, l, ha, hn, h => by
    have : a = [] := List.eq_nil_of_length_eq_zero (by omega)
    subst this
    simp [readF] at h
    subst h
    simp only [List.nil_append]
    cases readL b <;> rfl
  | n + 1, a, b, l, ha, hn, h => by
    by_cases h0 : a.length = 0
    · have : a = [] := List.eq_nil_of_length_eq_zero h0
      subst this
      simp [readF] at h
      subst h
      simp only [List.nil_append]
      cases readL b <;> rfl
    · rw [readF, if_neg h0] at h
      cases ho : oneL a with
      | none => rw [ho] at h; cases h
      | some y =>
        rw [ho] at h
        simp only at h
        cases hh : readF n (a.drop y.2) with
        | none => rw [hh] at h; cases h
        | some l' =>
          rw [hh] at h
          simp at h
          subst h
          obtain ⟨m1, m2, m3, m4, m5⟩ := oneL_may (f := y.1) (k := y.2) ha ho
          have hy := oneL_more ho m5 b ha
          have ih := readF_join n (a.drop y.2) b l' (isB_drop ha _) (by simp; omega) hh
          rw [readL_step (by rw [List.length_append]; omega), hy]
          simp only
          rw [List.drop_append_of_le_length m5, ih]
          cases readL b <;> rfl
/-- Two messages, one behind the other. -/
theorem read_join {a b : List Int} {l : List Fld} (ha : isB a) (h : readV a = (l, 0)) (hs : a.length + b.length ≤ 4194304) : readV (a ++ b) = if (readV b).2 = 0 then (l ++ (readV b).1, 0) else ([], 6) := by
  have hb : readV b = match readL b with
      | none => ([], 6)
      | some l => (l, 0) := by unfold readV; rw [if_neg (by omega)]
  rw [hb]
  unfold readV at h ⊢
  rw [if_neg (by omega)] at h
  rw [if_neg (by rw [List.length_append]; omega)]
  cases hl : readL a with
  | none => rw [hl] at h; simp at h
  | some l' =>
    rw [hl] at h
    simp at h
    subst h
    rw [readF_join _ a b l' ha (Nat.le_refl _) hl]
    cases readL b <;> simp
def allV (l : List Fld) (num : Int) : List Fld := l.filter (fun f => f.1 == num)
def noFld : Fld := (0, 0, 0, [])
def lastV (l : List Fld) (num wire : Int) : Fld × Bool × Int :=
  if (allV l num).any (fun f => f.2.1 != wire) then (noFld, false, 6) else if (allV l num).length = 0 then (noFld, false, 0) else ((allV l num).getD ((allV l num).length - 1) noFld, true, 0)
def joinV (l : List Fld) (num : Int) : List Int × Bool × Int :=
  if (allV l num).any (fun f => f.2.1 != 2) then ([], false, 6) else ((allV l num).flatMap (fun f => f.2.2.2), decide (0 < (allV l num).length), 0)
/-- The varints that bytes are made up of. -/
def varsF : Nat → List Int → Option (List Int)
  | 0, r => if r.length = 0 then some [] else none
  | n + 1, r => if r.length = 0 then some [] else match rdG 10 r with
    | none => none
    | some y => (varsF n (r.drop y.2)).map (y.1 :: ·)
def varsL (r : List Int) : Option (List Int) := varsF r.length r
theorem varsF_fuel : ∀ (n m : Nat) (r : List Int), r.length ≤ n → r.length ≤ m → varsF n r = varsF m r
  | 0, m, r, h1, h2 => by
    have h0 : r.length = 0 := by omega
    cases m with
    | zero => rfl
    | succ m => rw [varsF, varsF, if_pos h0, if_pos h0]
  | n + 1, m, r, h1, h2 => by
    by_cases h0 : r.length = 0
    · cases m with
      | zero => rw [varsF, varsF, if_pos h0, if_pos h0]
      | succ m => rw [varsF, varsF, if_pos h0, if_pos h0]
    · cases m with
      | zero => omega
      | succ m =>
        rw [varsF, varsF, if_neg h0, if_neg h0]
        cases ho : rdG 10 r with
        | none => rfl
        | some y =>
          have := (rdG_count 10 r y.1 y.2 ho).1
          simp only
          rw [varsF_fuel n m (r.drop y.2) (by simp; omega) (by simp; omega)]
theorem varsL_nil : varsL [] = some [] := rfl
theorem varsL_step {r : List Int} (h0 : ¬ r.length = 0) : varsL r = match rdG 10 r with
    | none => none
    | some y => (varsL (r.drop y.2)).map (y.1 :: ·) := by
  unfold varsL
  obtain ⟨n, hn⟩ : ∃ n, r.length = n + 1 := ⟨r.length - 1, by omega⟩
  rw [hn, varsF, if_neg h0]
  cases ho : rdG 10 r with
  | none => rfl
  | some y =>
    have := (rdG_count 10 r y.1 y.2 ho).1
    simp only
    rw [varsF_fuel n (r.drop y.2).length (r.drop y.2) (by simp; omega) (Nat.le_refl _)]
def int1 (f : Fld) : Option (List Int) := if f.2.1 = 0 then some [f.2.2.1] else if f.2.1 = 2 then varsL f.2.2.2 else none
def fours (d : List Int) : List Int := (List.range (d.length / 4)).map fun i => leV ((d.drop (4 * i)).take 4)
def fix1 (f : Fld) : Option (List Int) := if f.2.1 = 5 then some [f.2.2.1 % 4294967296] else if f.2.1 = 2 ∧ f.2.2.2.length % 4 = 0 then some (fours f.2.2.2) else none
/-- All of them, or none. -/
def allOr (g : Fld → Option (List Int)) : List Fld → Option (List Int)
  | [] => some []
  | f :: l => match g f with
    | none => none
    | some x => (allOr g l).map (x ++ ·)
theorem allOr_append (g : Fld → Option (List Int)) : ∀ (l m : List Fld), allOr g (l ++ m) = match allOr g l with
    | none => none
    | some x => (allOr g m).map (x ++ ·)
  | [], m => by
    simp only [List.nil_append, allOr]
    cases allOr g m <;> rfl
  | f :: l, m => by
    simp only [List.cons_append, allOr, allOr_append g l m]
    cases g f with
    | none => rfl
    | some x =>
      cases allOr g l with
      | none => rfl
      | some y =>
        cases allOr g m with
        | none => rfl
        | some z => simp
def listV (g : Fld → Option (List Int)) (l : List Fld) (num : Int) : List Int × Int := match allOr g (allV l num) with
  | none => ([], 6)
  | some x => (x, 0)
theorem allV_append (l m : List Fld) (num : Int) : allV (l ++ m) num = allV l num ++ allV m num := by simp [allV]
theorem list_join (g : Fld → Option (List Int)) (l m : List Fld) (num : Int) : ((listV g l num).2 = 0 ∧ (listV g m num).2 = 0 ↔ (listV g (l ++ m) num).2 = 0) ∧ ((listV g (l ++ m) num).2 = 0 → (listV g (l ++ m) num).1.length = (listV g l num).1.length + (listV g m num).1.length) := by
  unfold listV
  rw [allV_append, allOr_append]
  cases allOr g (allV l num) with
  | none => simp
  | some x =>
    cases allOr g (allV m num) with
    | none => simp
    | some y => simp
end Go.Proofs.Ytbcmfgohbppndaa
