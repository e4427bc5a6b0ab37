/-
  Layer 6: what the statements' walks lean on.
-/
import Derived.Test.YtbcmfgohbppndaaLM
import Derived.Test.YtbcmfgohbppndaaLF
import Derived.Test.YtbcmfgohbppndaaLL
import Derived.Test.YtbcmfgohbppndaaKN
import Derived.Test.YtbcmfgohbppndaaKO
namespace Go.Proofs.Ytbcmfgohbppndaa
open Go.RowKit
set_option linter.unusedVariables false

theorem msg_isB : ∀ {l : List Fld}, (∀ f ∈ l, mayF f ∧ okF f ∧ f.2.2.2.length < 18446744073709551616) → isB (msgB l)
  | [], _ => fun c hc => by simp [msgB] at hc
  | f :: r, h => by
    have e : msgB (f :: r) = fieldB f ++ msgB r := by simp [msgB]
    rw [e]
    obtain ⟨h1, h2, h3⟩ := h f (by simp)
    exact isB_append (fieldB_isB h1 h2 h3) (msg_isB (fun g hg => h g (by simp [hg])))
theorem write_isB {l : List Fld} (h : ∀ f ∈ l, okF f ∧ f.2.2.2.length < 18446744073709551616) : isB (writeV l).1 := by
  unfold writeV
  by_cases hm : l.all mayB = false
  · rw [if_pos hm]; exact fun c hc => by cases hc
  · rw [if_neg hm]
    split
    · exact fun c hc => by cases hc
    · refine msg_isB (fun f hf => ⟨?_, h f hf⟩)
      have hm2 : l.all mayB = true := by simpa using hm
      exact (mayB_iff f).1 (List.all_eq_true.1 hm2 f hf)
theorem readV_err (b : List Int) (h : ¬ (readV b).2 = 0) : (readV b).1 = [] := by
  unfold readV at h ⊢
  split
  · rfl
  · rename_i h1
    rw [if_neg h1] at h
    cases hl : readL b with
    | none => rfl
    | some l => rw [hl] at h; exact absurd rfl h
theorem readV_code (b : List Int) (h : b.length ≤ 4194304) : (readV b).2 = 0 ∨ (readV b).2 = 6 := by
  unfold readV
  rw [if_neg (by omega)]
  cases readL b with
  | none => exact .inr rfl
  | some l => exact .inl rfl
theorem writeV_err (l : List Fld) (h : ¬ (writeV l).2 = 0) : (writeV l).1 = [] ∧ ((writeV l).2 = 1 ∨ (writeV l).2 = 8) := by
  unfold writeV at h ⊢
  split
  · exact ⟨rfl, .inl rfl⟩
  · rename_i h1
    rw [if_neg h1] at h
    split
    · exact ⟨rfl, .inr rfl⟩
    · rename_i h2
      rw [if_neg h2] at h
      exact absurd rfl h
theorem listV_code (g : Fld → Option (List Int)) (l : List Fld) (num : Int) : (listV g l num).2 = 0 ∨ (listV g l num).2 = 6 := by
  unfold listV
  cases allOr g (allV l num) with
  | none => exact .inr rfl
  | some x => exact .inl rfl
theorem map_nil_of {L : List FA} (h : L.map FA.f = []) : L = [] := by
  cases L with
  | nil => rfl
  | cons a r => cases h
theorem msg_sum : ∀ {L : List FA}, (∀ f ∈ L.map FA.f, mayF f) → sumD L + L.length ≤ (msgB (L.map FA.f)).length
  | [], _ => by simp [sumD]
  | a :: r, h => by
    have ih := msg_sum (L := r) (fun f hf => h f (by simp only [List.map_cons, List.mem_cons]; exact .inr hf))
    have e : msgB ((a :: r).map FA.f) = fieldB a.f ++ msgB (r.map FA.f) := by simp [msgB]
    have e2 : sumD (a :: r) = a.d.length + sumD r := by simp [sumD]
    have h1 := headB_data (h a.f (by simp))
    have h2 : 1 ≤ (headB a.f).length := by
      unfold headB
      have := (varV_len (a.f.1 * 8 + a.f.2.1)).1
      rw [List.length_append]; omega
    rw [e, e2, List.length_append, h1, List.length_append, List.length_cons]
    have : a.f.2.2.2.length = a.d.length := rfl
    omega
theorem read_sum {b : List Int} {L : List FA} (hb : isB b) (hs : b.length ≤ 4194304) (h : L.map FA.f = (readV b).1) : sumD L + L.length ≤ 4194304 := by
  by_cases h0 : (readV b).2 = 0
  · unfold readV at h h0
    rw [if_neg (by omega)] at h h0
    cases hl : readL b with
    | none => rw [hl] at h0; cases h0
    | some l =>
      rw [hl] at h
      simp only at h
      obtain ⟨m1, m2⟩ := readF_may _ b l hb hl
      have := msg_sum (L := L) (fun f hf => by rw [h] at hf; exact (m1 f hf).1)
      rw [h] at this
      omega
  · rw [readV_err b h0] at h
    rw [map_nil_of h]
    simp [sumD]
theorem sum_mem {L : List FA} {a : FA} {n : Nat} (h : sumD L + L.length ≤ n) (ha : a ∈ L) : a.d.length ≤ n := by
  have := sumD_mem ha
  omega
theorem OwnF.empty (t : TypeId) (w : World) : OwnF t w (w.alloc (.cells #[] t)) (.slice (some ⟨w.heap.size, 0, none⟩) 0 0) [] :=
  ⟨⟨by simp, .inr ⟨w.heap.size, 0, #[], rfl, Nat.le_refl _, by show (w.heap.push (Obj.cells #[] t))[w.heap.size]? = _; simp, Nat.le_refl _, by simp, by simp, by simp⟩⟩, al1p _ _⟩
/-- 'append(own, l...)', l a slice of fields, nil too. -/
theorem wpList_append_flds {P : Program} {w : World} {ops : Array Oper} {rest : List Oper} {o : Oper} {a : Act} {Q : Exit → Act → World → Prop} (hgd : o.guard = none) (s x : Operand) (t : TypeId)
    (ho : o.op = .call { callee := .builtin .append, args := #[s, x], argTypes := #[t, t] })
    (w0 : World) (e : TypeId) (i : TypeInfo) (z : Value) (bytes : Nat) (ht : P.underlying t = some (.slice e)) (hi : P.info? e = some i) (hz : i.zero = some z)
    (hsize : i.size = 4) (hby : i.bytes = bytes) (hzs : z.cells.size = 4)
    (v : Value) (l : List FA) (hs : a.eval s = v) (hown : OwnF e w0 w v l)
    (p : Option Addr) (c : Nat) (m : List FA) (hx : a.eval x = .slice p m.length c) (hc : Flc w p c m)
    (h63 : l.length + m.length ≤ maxLen) (hbytes : (l.length + m.length) * bytes ≤ 140737488355328)
    (h : ∀ v' w', OwnF e w0 w' v' (l ++ m) → w.grownBy w' v.ownBlock → wpList P ops Q rest (a.put o.dst v') w') : wpList P ops Q (o :: rest) a w := by
  cases p with
  | none =>
    have hx0 : m = [] := by
      rcases Nat.eq_zero_or_pos m.length with g | g
      · exact List.eq_nil_of_length_eq_zero g
      · obtain ⟨b, o, e, _⟩ := hc.2.2.1 g; cases e
    subst hx0
    have hc0 : c = 0 := hc.2.2.2 rfl
    subst hc0
    refine wpList_append_own_none hgd s x t ho w0.heap.size e i 4 ht hi v _ _ hs hown.1 hx (h v w ?_ ⟨rfl, rfl, rfl, Nat.le_refl _, fun _ _ _ => rfl⟩)
    rw [List.append_nil]; exact hown
  | some ad =>
    have hcells : ∀ j u, (m.flatMap faCells)[j]? = some u → w.cell? (ad.add j) = some u := by
      rcases Nat.eq_zero_or_pos m.length with g | g
      · have : m = [] := List.eq_nil_of_length_eq_zero g
        subst this
        intro j u hj; simp at hj
      · obtain ⟨b, o, e, hb, hcc⟩ := hc.2.2.1 g
        simp only [Option.some.injEq] at e
        subst e
        intro j u hj
        have hjl : j < m.length * 4 := by
          have := (List.getElem?_eq_some_iff.1 hj).1
          rw [fl_len] at this; exact this
        have e1 : j = j / 4 * 4 + j % 4 := by omega
        have e2 := fl_get m (j / 4) (j % 4) (by omega) (by omega)
        rw [← e1] at e2
        rw [e2] at hj
        have := hcc (j / 4) (by omega) (j % 4) u hj
        rw [Go.WideShapes.add_plain]
        rw [show o + j = o + j / 4 * 4 + j % 4 by omega]
        exact this
    refine wpList_append_own w hgd s x t ho w0.heap.size e i z 4 bytes ht hi hz hsize hby hzs (by decide) v l.length (l.flatMap faCells) hs hown.1 ad m.length c (m.flatMap faCells) hx (fl_len m) hcells (fun u hu => by
      obtain ⟨f, _, hf⟩ := List.mem_flatMap.1 hu
      exact fa_one f u hf) h63 hbytes hown.2.size ?_
    intro v' w' h1 h2 _
    refine h v' w' ⟨?_, hown.2.grown h2 hown.2.size (fun k hk => (hown.1.lt k hk).1)⟩ h2
    rw [List.length_append, List.flatMap_append]; exact h1
end Go.Proofs.Ytbcmfgohbppndaa
