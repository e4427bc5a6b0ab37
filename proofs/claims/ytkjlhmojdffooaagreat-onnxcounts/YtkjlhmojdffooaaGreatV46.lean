import Derived.Test.YtkjlhmojdffooaaGreatV33
import Derived.Test.YtkjlhmojdffooaaGreatV41
import Derived.Test.YtkjlhmojdffooaaGreatV42
import Derived.Test.YtkjlhmojdffooaaGreatV45

/-
  Layer 7: what the code reads is what the document says: values, attributes, nodes, graphs, models.
-/
namespace Go.Proofs.YtkjlhmojdffooaaGreat
open Go.RowKit
set_option linter.unusedVariables false

theorem each_no (l : List Fld) (num : Int) : (eachP l num l.length).2 = no3 ↔ ((allV l num).any fun f => f.2.1 != 2) = false := by
  have hl : ¬ l.length < (allV l num).length := by
    have := List.length_filter_le (fun f : Fld => f.1 == num) l
    unfold allV; omega
  unfold eachP
  simp only
  rw [no_iff, no_bad, no_big, decide_eq_false hl]
  simp
theorem each_no2 (l : List Fld) (num : Int) (most : Nat) : (eachP l num most).2 = no3 ↔ ((allV l num).any fun f => f.2.1 != 2) = false ∧ decide (most < (dsV l num).length) = false := by
  unfold eachP
  simp only
  rw [no_iff, no_bad, no_big, ds_len]
theorem ds_isB {l : List Fld} (hl : OkL l) (num : Int) : ∀ b ∈ dsV l num, isB b := fun b hb => each_ok hl num 0 b hb
theorem dim_no (b : List Int) : f3 (fieldsP b).2 (dimCF b) = no3 ↔ (dimP b).2 = no3 := by
  unfold dimCF dimP wholeP
  simp only [no_iff, no_cons, no_nil, and_true]
  constructor
  · rintro ⟨h1, h2, h3⟩; exact ⟨h1, h2, h3, h2⟩
  · rintro ⟨h1, h2, h3, _⟩; exact ⟨h1, h2, h3⟩
theorem shape_no (b : List Int) : (f3 (fieldsP b).2 (f3 (f3 (bad3 ((allV (fieldsP b).1 1).any fun f => f.2.1 != 2)) (fAll ((dsV (fieldsP b).1 1).map fun b => f3 (fieldsP b).2 (dimCF b)))) (dimsP ((dsV (fieldsP b).1 1).map dimC)).2) = no3 ↔ (shapeP b).2 = no3) ∧ (shapeP b).1 = (dsV (fieldsP b).1 1).map dimC := by
  unfold shapeP
  simp only [ds_each]
  generalize fieldsP b = F
  obtain ⟨l, fb⟩ := F
  simp only
  have e : (dsV l 1).map (fun x => (dimP x).1) = (dsV l 1).map dimC := rfl
  refine ⟨?_, rfl⟩
  rw [e, no_app, no_app]
  simp only [no_iff, no_cons, no_nil, and_true, no_map, each_no, no_bad]
  constructor
  · rintro ⟨h1, ⟨h2, h3⟩, h4⟩
    exact ⟨⟨⟨h1, h2⟩, fun x hx => (dim_no x).1 ((no_iff _ _).2 (h3 x hx))⟩, h4⟩
  · rintro ⟨⟨⟨h1, h2⟩, h3⟩, h4⟩
    exact ⟨h1, ⟨h2, fun x hx => (no_iff _ _).1 ((dim_no x).2 (h3 x hx))⟩, h4⟩
theorem value_eq (b : List Int) : (f3 (fieldsP b).2 (valueCF (fieldsP b).1) = no3 ↔ (valueP b).2 = no3) ∧ ((valueP b).2 = no3 → valueC (fieldsP b).1 = (valueP b).1) := by
  unfold valueP
  simp only
  generalize fieldsP b = F
  obtain ⟨l, fb⟩ := F
  simp only
  unfold valueCF valueC
  cases h2 : (messageP l 2).1.2 with
  | false =>
    have e : inIs l 2 = false := h2
    rw [if_pos rfl, e]
    simp only [no_iff, no_bad]
    simp
  | true =>
    have e2 : inIs l 2 = true := h2
    rw [if_neg (by decide), e2]
    have k1 : inL l 2 = (fieldsP (messageP l 2).1.1).1 := rfl
    have k2 : inF l 2 = f3 (messageP l 2).2 (fieldsP (messageP l 2).1.1).2 := rfl
    rw [k1, k2]
    generalize fieldsP (messageP l 2).1.1 = S
    obtain ⟨ls, fs⟩ := S
    simp only
    cases h3 : (messageP ls 1).1.2 with
    | false =>
      have e3 : inIs ls 1 = false := h3
      rw [if_pos rfl, e3]
      simp only [no_iff, no_odd]
      simp
    | true =>
      have e3 : inIs ls 1 = true := h3
      rw [if_neg (by decide), e3]
      have k3 : inL ls 1 = (fieldsP (messageP ls 1).1.1).1 := rfl
      have k4 : inF ls 1 = f3 (messageP ls 1).2 (fieldsP (messageP ls 1).1.1).2 := rfl
      rw [k3, k4]
      generalize fieldsP (messageP ls 1).1.1 = T
      obtain ⟨lt, ft⟩ := T
      simp only
      cases h4 : (messageP lt 2).1.2 with
      | false =>
        have e4 : inIs lt 2 = false := h4
        rw [if_pos rfl, e4]
        simp only [no_iff, no_odd]
        simp
      | true =>
        have e4 : inIs lt 2 = true := h4
        rw [if_neg (by decide), e4]
        obtain ⟨s1, s2⟩ := shape_no (messageP lt 2).1.1
        have k5 : inL lt 2 = (fieldsP (messageP lt 2).1.1).1 := rfl
        have k6 : inF lt 2 = f3 (messageP lt 2).2 (fieldsP (messageP lt 2).1.1).2 := rfl
        rw [k5, k6]
        simp only
        refine ⟨?_, fun _ => by rw [s2]⟩
        rw [no_iff (fAll _), ← s1]
        simp only [no_iff, no_cons, no_nil, and_true, width_known, no_bad, no_odd, Bool.not_true]
        constructor <;> (intro h; simp only [h, and_self])
theorem fields_nil : fieldsP [] = ([], no3) := by decide +kernel
theorem msg_nil {l : List Fld} {num : Int} (h : inIs l num = false) : (messageP l num).1.1 = [] := by
  unfold inIs messageP joinV at *
  by_cases h1 : (allV l num).any (fun f => f.2.1 != 2) = true
  · rw [if_pos h1]
  · rw [if_neg h1] at h ⊢
    simp only [decide_eq_false_iff_not] at h
    have : allV l num = [] := List.length_eq_zero_iff.1 (by omega)
    rw [this]; rfl
theorem attr_eq {b : List Int} (hb : isB b) : (f3 (fieldsP b).2 (attrCF (fieldsP b).1) = no3 ↔ (attrP b).2 = no3) ∧ ((attrP b).2 = no3 → attrC (fieldsP b).1 = (attrP b).1) := by
  have hl := fields_ok hb
  unfold attrP
  simp only
  generalize fieldsP b = F at hl
  obtain ⟨l, fb⟩ := F
  simp only at hl ⊢
  obtain ⟨T, hT⟩ : ∃ T : Rd7 TenD, (if (messageP l 5).1.2 = true then ((tensorP (messageP l 5).1.1).1.2, (tensorP (messageP l 5).1.1).2) else (noTen, no3)) = T := ⟨_, rfl⟩
  rw [hT]
  have tn : (inF l 5 = no3 ∧ (if inIs l 5 = true then tensorCF (inL l 5) else no3) = no3 ↔ (messageP l 5).2 = no3 ∧ T.2 = no3) ∧ (T.2 = no3 → (if inIs l 5 = true then (tensorC (inL l 5)).2 else noTen) = T.1) := by
    rw [← hT]
    cases h : (messageP l 5).1.2 with
    | false =>
      have e : inIs l 5 = false := h
      rw [e]
      unfold inF
      rw [msg_nil e, fields_nil]
      simp [no_iff]
    | true =>
      have e : inIs l 5 = true := h
      rw [e]
      obtain ⟨t1, t2⟩ := tensor_eq (message_ok hl 5)
      unfold inF inL
      rw [if_pos rfl, if_pos rfl, if_pos rfl]
      simp only
      rw [← t1]
      refine ⟨by simp only [no_iff, and_assoc], fun h => by rw [t2 (t1.1 h)]⟩
  obtain ⟨tn1, tn2⟩ := tn
  obtain ⟨K, hK⟩ : ∃ K, (wholeP l 20).1 = K := ⟨_, rfl⟩
  have all : (f3 fb (attrCF l) = no3 ↔ fAll [fb, (nameP l 1).2, (lastF l 2 5).2, (wholeP l 3).2, (textP l 4).2, (messageP l 5).2, (floatsP l 7).2, (intsP l 8).2, T.2, big3 (decide (4096 < (textP l 4).1.length ∨ 4096 < (floatsP l 7).1.length ∨ 4096 < (intsP l 8).1.length)), (wholeP l 20).2] = no3 ∧ (!inIs l 5 && K == 4) = false ∧ kindB K = true ∧ (K == 0) = false) := by
    unfold attrCF
    rw [hK]
    simp only [no_iff, no_cons, no_nil, and_true, no_bad, no_odd, no_big, decide_eq_false_iff_not, not_or, Bool.not_eq_false']
    constructor
    · rintro ⟨h0, ⟨⟨⟨⟨⟨⟨⟨⟨⟨⟨⟨⟨⟨⟨h1, h2⟩, h3⟩, h4⟩, h5⟩, h6⟩, h7⟩, h8⟩, h9⟩, h10⟩, h11⟩, h12⟩, h13⟩, h14⟩, h15⟩⟩
      obtain ⟨g1, g2⟩ := tn1.1 ⟨h11, h13⟩
      exact ⟨⟨h0, h1, h3, h4, h5, g1, h6, h7, g2, ⟨h8, h9, h10⟩, h2⟩, h12, h14, h15⟩
    · rintro ⟨⟨h0, h1, h3, h4, h5, g1, h6, h7, g2, ⟨h8, h9, h10⟩, h2⟩, h12, h14, h15⟩
      obtain ⟨h11, h13⟩ := tn1.2 ⟨g1, g2⟩
      exact ⟨h0, ⟨⟨⟨⟨⟨⟨⟨⟨⟨⟨⟨⟨⟨⟨h1, h2⟩, h3⟩, h4⟩, h5⟩, h6⟩, h7⟩, h8⟩, h9⟩, h10⟩, h11⟩, h12⟩, h13⟩, h14⟩, h15⟩⟩
  rw [all]
  clear all
  unfold attrC
  rw [hK]
  simp only
  have hm : (messageP l 5).1.2 = inIs l 5 := rfl
  rw [hm]
  have ht2 : fAll [fb, (nameP l 1).2, (lastF l 2 5).2, (wholeP l 3).2, (textP l 4).2, (messageP l 5).2, (floatsP l 7).2, (intsP l 8).2, T.2, big3 (decide (4096 < (textP l 4).1.length ∨ 4096 < (floatsP l 7).1.length ∨ 4096 < (intsP l 8).1.length)), (wholeP l 20).2] = no3 → T.2 = no3 := fun h => by
    simp only [no_cons] at h
    exact h.2.2.2.2.2.2.2.2.1
  generalize fAll [fb, (nameP l 1).2, (lastF l 2 5).2, (wholeP l 3).2, (textP l 4).2, (messageP l 5).2, (floatsP l 7).2, (intsP l 8).2, T.2, big3 (decide (4096 < (textP l 4).1.length ∨ 4096 < (floatsP l 7).1.length ∨ 4096 < (intsP l 8).1.length)), (wholeP l 20).2] = FL at ht2
  by_cases c0 : K = 0
  · subst c0
    simp [no_iff, no_bad]
  by_cases c1 : K = 1
  · subst c1
    simp [kindB]
  by_cases c2 : K = 2
  · subst c2
    simp [kindB]
  by_cases c3 : K = 3
  · subst c3
    simp [kindB]
  by_cases c4 : K = 4
  · subst c4
    simp only [Int.reduceEq, ↓reduceIte, no_iff, no_bad]
    refine ⟨by simp [kindB], fun h => ?_⟩
    simp [tn2 (ht2 h.1)]
  by_cases c6 : K = 6
  · subst c6
    simp [kindB]
  by_cases c7 : K = 7
  · subst c7
    simp [kindB]
  rw [if_neg c0, if_neg c1, if_neg c2, if_neg c3, if_neg c4, if_neg c6, if_neg c7]
  have hk : kindB K = false := by simp [kindB, c1, c2, c3, c4, c6, c7]
  rw [hk]
  simp [no_iff, no_odd]
theorem map_no {α : Type} {F G : List Int → F3} {A B : List Int → α} {ds : List (List Int)} (h : ∀ b ∈ ds, (F b = no3 ↔ G b = no3) ∧ (G b = no3 → A b = B b)) : (fAll (ds.map F) = no3 ↔ fAll (ds.map G) = no3) ∧ (fAll (ds.map G) = no3 → ds.map A = ds.map B) := by
  simp only [no_map]
  exact ⟨⟨fun k b hb => (h b hb).1.1 (k b hb), fun k b hb => (h b hb).1.2 (k b hb)⟩, fun k => List.map_congr_left fun b hb => (h b hb).2 (k b hb)⟩
theorem node_eq {b : List Int} (hb : isB b) : (f3 (fieldsP b).2 (nodeCF (fieldsP b).1) = no3 ↔ (nodeP b).2 = no3) ∧ ((nodeP b).2 = no3 → nodeC (fieldsP b).1 = (nodeP b).1) := by
  have hl := fields_ok hb
  unfold nodeP
  simp only [ds_each]
  generalize fieldsP b = F at hl
  obtain ⟨l, fb⟩ := F
  simp only at hl ⊢
  obtain ⟨m1, m2⟩ := map_no (ds := dsV l 5) (F := fun b => f3 (fieldsP b).2 (attrCF (fieldsP b).1)) (G := fun b => (attrP b).2) (A := fun b => attrC (fieldsP b).1) (B := fun b => (attrP b).1) (fun b hb => attr_eq (ds_isB hl 5 b hb))
  have nm : ∀ num, (nameF l num = no3 ∧ decide (64 < (dsV l num).length) = false) ↔ (namesP l num).2 = no3 := fun num => by
    unfold namesP nameF
    simp only [no_iff, no_bad, no_big, each_no2, no_map, ds_each, List.any_eq_false]
    constructor
    · rintro ⟨⟨h1, h2⟩, h3⟩
      exact ⟨⟨h1, h3⟩, fun x hx => by rw [h2 x hx]; decide⟩
    · rintro ⟨⟨h1, h2⟩, h3⟩
      exact ⟨⟨h1, fun x hx => by simpa using h3 x hx⟩, h2⟩
  have n1 := nm 1
  have n2 := nm 2
  have hn1 : (namesP l 1).1 = dsV l 1 := rfl
  have hn2 : (namesP l 2).1 = dsV l 2 := rfl
  rw [hn1, hn2]
  refine ⟨?_, fun h => ?_⟩
  · unfold nodeCF msF
    rw [no_app, ← m1]
    simp only [no_iff, no_cons, no_nil, and_true, no_bad, no_odd, no_big, each_no2, ← n1, ← n2]
    constructor <;> (intro h; simp only [h, and_self])
  · rw [no_app] at h
    unfold nodeC
    rw [m2 h.2]
theorem msf_eq {α : Type} {l : List Fld} {num : Int} {most : Nat} {F : List Fld → F3} {P : List Int → Rd7 α} {C : List Fld → α} (h : ∀ b ∈ dsV l num, (f3 (fieldsP b).2 (F (fieldsP b).1) = no3 ↔ (P b).2 = no3) ∧ ((P b).2 = no3 → C (fieldsP b).1 = (P b).1)) :
    ((msF l num F = no3 ∧ decide (most < (dsV l num).length) = false) ↔ ((eachP l num most).2 = no3 ∧ fAll ((dsV l num).map fun x => (P x).2) = no3)) ∧ (fAll ((dsV l num).map fun x => (P x).2) = no3 → (dsV l num).map (fun b => C (fieldsP b).1) = (dsV l num).map fun x => (P x).1) := by
  obtain ⟨m1, m2⟩ := map_no (ds := dsV l num) (F := fun b => f3 (fieldsP b).2 (F (fieldsP b).1)) (G := fun b => (P b).2) (A := fun b => C (fieldsP b).1) (B := fun b => (P b).1) h
  refine ⟨?_, m2⟩
  unfold msF
  rw [no_iff, no_bad, each_no2, m1]
  constructor <;> (intro h; simp only [h, and_self])
theorem graph_eq {b : List Int} (hb : isB b) : (f3 (fieldsP b).2 (graphCF (fieldsP b).1) = no3 ↔ (graphP b).2 = no3) ∧ ((graphP b).2 = no3 → graphC (fieldsP b).1 = (17, (graphP b).1)) := by
  have hl := fields_ok hb
  unfold graphP
  simp only [ds_each]
  generalize fieldsP b = F at hl
  obtain ⟨l, fb⟩ := F
  simp only at hl ⊢
  obtain ⟨a1, a2⟩ := msf_eq (l := l) (num := 1) (most := 1024) (F := nodeCF) (P := nodeP) (C := nodeC) (fun b hb => node_eq (ds_isB hl 1 b hb))
  obtain ⟨b1, b2⟩ := msf_eq (l := l) (num := 5) (most := 1024) (F := tensorCF) (P := tensorP) (C := tensorC) (fun b hb => tensor_eq (ds_isB hl 5 b hb))
  obtain ⟨c1, c2⟩ := msf_eq (l := l) (num := 11) (most := 64) (F := valueCF) (P := valueP) (C := valueC) (fun b hb => value_eq b)
  obtain ⟨d1, d2⟩ := msf_eq (l := l) (num := 12) (most := 64) (F := valueCF) (P := valueP) (C := valueC) (fun b hb => value_eq b)
  have vi : ∀ num, (valuesP l num).1 = (dsV l num).map fun x => (valueP x).1 := fun num => rfl
  have vf : ∀ num, ((valuesP l num).2 = no3 ↔ (eachP l num 64).2 = no3 ∧ fAll ((dsV l num).map fun x => (valueP x).2) = no3) := fun num => by
    unfold valuesP
    simp only
    rw [no_cons]
    rfl
  have sp : ((lastV l 15 2).2.2 = 0 ∧ (lastV l 15 2).2.1 = false) ↔ ((eachP l 15 l.length).2 = no3 ∧ decide (0 < (dsV l 15).length) = false) := by
    rw [← last_no, no_bad, bne_eq_false_iff_eq, ds_len]
    constructor
    · rintro ⟨h1, h2⟩
      exact ⟨h1, by rw [← (last_is h1).1]; exact h2⟩
    · rintro ⟨h1, h2⟩
      exact ⟨h1, by rw [(last_is h1).1]; exact h2⟩
  refine ⟨?_, fun h => ?_⟩
  · unfold graphCF
    simp only [no_app]
    simp only [no_iff, no_cons, no_nil, and_true, no_bad, no_odd, no_big, bne_eq_false_iff_eq, vf]
    constructor
    · rintro ⟨h0, ⟨⟨⟨⟨⟨⟨⟨⟨⟨⟨h1, h2⟩, h3⟩, h4⟩, h5⟩, h6⟩, h7⟩, h8⟩, h9⟩, h10⟩, h11⟩⟩
      obtain ⟨p1, p2⟩ := a1.1 ⟨h4, h8⟩
      obtain ⟨p3, p4⟩ := b1.1 ⟨h5, h9⟩
      have p5 := c1.1 ⟨h6, h10⟩
      have p6 := d1.1 ⟨h7, h11⟩
      obtain ⟨p7, p8⟩ := sp.1 ⟨h1, h2⟩
      exact ⟨⟨⟨⟨⟨h0, h3, p1⟩, p2⟩, p3⟩, p4⟩, p5, p6, p7, p8⟩
    · rintro ⟨⟨⟨⟨⟨h0, h3, p1⟩, p2⟩, p3⟩, p4⟩, p5, p6, p7, p8⟩
      obtain ⟨h4, h8⟩ := a1.2 ⟨p1, p2⟩
      obtain ⟨h5, h9⟩ := b1.2 ⟨p3, p4⟩
      obtain ⟨h6, h10⟩ := c1.2 p5
      obtain ⟨h7, h11⟩ := d1.2 p6
      obtain ⟨h1, h2⟩ := sp.2 ⟨p7, p8⟩
      exact ⟨h0, ⟨⟨⟨⟨⟨⟨⟨⟨⟨⟨h1, h2⟩, h3⟩, h4⟩, h5⟩, h6⟩, h7⟩, h8⟩, h9⟩, h10⟩, h11⟩⟩
  · simp only [no_app] at h
    simp only [no_cons, no_nil, and_true, vf] at h
    obtain ⟨⟨⟨⟨_, p2⟩, _⟩, p4⟩, p5, p6, _⟩ := h
    unfold graphC
    rw [a2 p2, b2 p4, c2 p5.2, d2 p6.2, vi, vi]
theorem sets_no (l : List Fld) : (msF l 8 setCF = no3 ∧ (!(versF 0 (dsV l 8) == 17)) = false) ↔ setsP l = no3 := by
  unfold setsP msF
  simp only [ds_each]
  simp only [no_app, no_iff, no_cons, no_nil, and_true, no_map, each_no, no_bad, no_odd, bne]
  unfold setCF
  simp only [no_iff]
theorem decode_eq {b : List Int} (hb : isB b) (hs : b.length ≤ 4194304) : (decodeF b = no3 ↔ (decodeV b).2 = 0) ∧ (decodeF b = no3 → decodeV b = (graphC (inL (fieldsP b).1 7), 0)) := by
  have hl := fields_ok hb
  unfold decodeF decodeV
  rw [if_neg (by omega)]
  simp only
  generalize fieldsP b = F at hl
  obtain ⟨l, fb⟩ := F
  simp only at hl ⊢
  obtain ⟨g1, g2⟩ := graph_eq (message_ok hl 7)
  have main : f3 fb (modelCF l) = no3 ↔ fAll [fb, (wholeP l 1).2, (messageP l 7).2, bad3 (!(messageP l 7).1.2), (graphP (messageP l 7).1.1).2, setsP l] = no3 := by
    unfold modelCF inF inIs inL
    simp only [no_iff, no_cons, no_nil, and_true, no_bad, no_odd, ← g1, ← sets_no]
    constructor <;> (intro h; simp only [h, and_self])
  rw [main]
  have dat : fAll [fb, (wholeP l 1).2, (messageP l 7).2, bad3 (!(messageP l 7).1.2), (graphP (messageP l 7).1.1).2, setsP l] = no3 → (graphP (messageP l 7).1.1).2 = no3 := fun h => by
    simp only [no_cons] at h
    exact h.2.2.2.2.1
  generalize fAll [fb, (wholeP l 1).2, (messageP l 7).2, bad3 (!(messageP l 7).1.2), (graphP (messageP l 7).1.1).2, setsP l] = FL at dat
  obtain ⟨x, y, z⟩ := FL
  unfold inL
  cases x <;> cases y <;> cases z <;> simp [no3] at dat ⊢
  exact (g2 dat).symm
end Go.Proofs.YtkjlhmojdffooaaGreat

/-
  Layer 7: a tensor's elements, all ways in one.
-/
namespace Go.Proofs.YtkjlhmojdffooaaGreat
open Go.RowKit
set_option linter.unusedVariables false

theorem own_ls {α : Type} [Inhabited α] {f : α → Value} {t : TypeId} {base n d : Nat} {w : World} {q : Option Addr} {xs : List α} (h : w.ownsRow base t 1 (.slice q n d) n (xs.map f)) (hn : xs.length = n) : Ls f w q d xs := by
  subst hn
  have h0 := h
  obtain ⟨l1, h1⟩ := h
  rcases h1 with ⟨e, hn⟩ | ⟨g, cap, cur, e, hb, hh, hc, hm, hs, ht⟩
  · simp only [Value.slice.injEq] at e
    obtain ⟨rfl, _, rfl⟩ := e
    exact ⟨by omega, by omega, fun hp => by omega, fun _ => rfl⟩
  · simp only [Value.slice.injEq] at e
    obtain ⟨rfl, _, rfl⟩ := e
    refine ⟨hc, hm, fun hp => ⟨g, 0, rfl, (h0.lt g rfl).2, fun i hi => ?_⟩, fun h => by cases h⟩
    have e : cur.toList[i]? = some (f (xs.getD i default)) := by
      have e1 : (cur.toList.take (xs.length * 1))[i]? = cur.toList[i]? := List.getElem?_take_of_lt (by omega)
      rw [← e1, ht, List.getElem?_map, List.getElem?_eq_getElem hi, List.getD_eq_getElem?_getD, List.getElem?_eq_getElem hi]; rfl
    simp [World.cell?, hh]
    simpa using e
theorem u32_wf7 {x : Int} (h0 : 0 ≤ x) (h1 : x < 4294967296) : (Lit.int .u32 x).wf = true := by
  simp [Lit.wf, IntKind.min, IntKind.max, IntKind.signed, IntKind.bits]
  omega
theorem i64_wf7 {x : Int} (h : i64B x) : (Lit.int .i64 x).wf = true := by
  unfold i64B at h
  simp [Lit.wf, IntKind.min, IntKind.max, IntKind.signed, IntKind.bits]
  omega
theorem tenT_f {B : Nat} {w : World} {p : Option Addr} {c : Nat} {xs : List Int} (h : Ints .u32 w p c xs) (t : Tag 84 B w p xs.length) : TenT B w (1, [], xs, [], []) ⟨none, 0, p, c, none, 0, none, 0⟩ := ⟨⟨rfl, nilInts _ _, h, nilInts _ _, Ls.nil _⟩, Tag.nil _ _ _ _, t, Tag.nil _ _ _ _, Tag.nil _ _ _ _⟩
theorem tenT_i {B : Nat} {w : World} {p : Option Addr} {c : Nat} {xs : List Int} (h : Ints .i64 w p c xs) (t : Tag 2 B w p xs.length) : TenT B w (7, [], [], xs, []) ⟨none, 0, none, 0, p, c, none, 0⟩ := ⟨⟨rfl, nilInts _ _, nilInts _ _, h, Ls.nil _⟩, Tag.nil _ _ _ _, Tag.nil _ _ _ _, t, Tag.nil _ _ _ _⟩
theorem tenT_b {B : Nat} {w : World} {p : Option Addr} {c : Nat} {xs : List Bool} (h : Ls Value.bool w p c xs) (t : Tag 4 B w p xs.length) : TenT B w (9, [], [], [], xs) ⟨none, 0, none, 0, none, 0, p, c⟩ := ⟨⟨rfl, nilInts _ _, nilInts _ _, nilInts _ _, h⟩, Tag.nil _ _ _ _, Tag.nil _ _ _ _, Tag.nil _ _ _ _, t⟩
theorem tenT_0 (B : Nat) (w : World) : TenT B w noTen noTA := ⟨noTen_in w, Tag.nil _ _ _ _, Tag.nil _ _ _ _, Tag.nil _ _ _ _, Tag.nil _ _ _ _⟩
/-- What a tensor's elements may stand in, where it may be read. -/
def StT (B : Nat) (w : World) (a : StA) : Prop := (Ints .u32 w a.qf a.cf a.fl ∧ Tag 84 B w a.qf a.fl.length) ∧ Ints .i64 w a.qs a.cs a.sm ∧ (Ints .i64 w a.qn a.cn a.nu ∧ Tag 2 B w a.qn a.nu.length) ∧ Ints .u8 w a.qr a.cr a.rw ∧ a.fl.length ≤ 100000000 ∧ a.sm.length ≤ 100000000 ∧ a.nu.length ≤ 100000000
theorem Tag.bel {t : TypeId} {B n : Nat} {w w' : World} {p : Option Addr} (h : Tag t B w p n) (hb : Below w.heap.size w w') : Tag t B w' p n := h.kept (TS := [t]) (by simp) (Kept.below hb)
def stEA (kind : Int) (N : Nat) (a : StA) : Ten × Bool := stE kind N a.fl a.sm a.nu a.rw a.isR
theorem ctensor_any (a : StA) (kind : Int) (N B : Nat) (w : World) (hk : knownB kind = true) (hN : N ≤ 4096) (h : StT B w a) :
    Calls Tryz.prog 185 #[.agg (stCells a), .int .i64 kind, .int .i64 N] w fun e w' => ∃ T A b, e = .returned (.tuple #[tenV T A, .bool b]) ∧ Hid (T = (stEA kind N a).1 ∧ b = (stEA kind N a).2 ∧ TenT B w' T A ∧ Below w.heap.size w w') := by
  obtain ⟨fl, qf, cf, sm, qs, cs, nu, qn, cn, rw, qr, cr, isR⟩ := a
  obtain ⟨⟨i1, t1⟩, i2, ⟨i3, t3⟩, i4, l1, l2, l3⟩ := h
  simp only at i1 t1 i2 i3 t3 i4 l1 l2 l3
  unfold stCells stEA stE tenV tenCells
  simp only
  cases isR with
  | false =>
    rw [if_neg (by decide)]
    rcases known_cases hk with rfl | rfl | rfl
    · refine (ctenFp_any qf fl.length cf qs sm.length cs qn nu.length cn qr rw.length cr N w l1 l2 l3 (by omega)).mono ?_
      rintro e w' ⟨rfl, hb⟩
      rw [if_pos rfl]
      exact ⟨(1, [], fl, [], []), ⟨none, 0, qf, cf, none, 0, none, 0⟩, _, rfl, hide ⟨rfl, decide_eq_decide.2 ⟨fun h => ⟨by omega, h.2⟩, fun h => ⟨by omega, h.2⟩⟩, tenT_f (i1.below hb) (t1.bel hb), hb⟩⟩
    · refine (ctenIp_any qf fl.length cf qs sm.length cs qn nu.length cn qr rw.length cr N w l1 l2 l3 (by omega)).mono ?_
      rintro e w' ⟨rfl, hb⟩
      rw [if_neg (by decide), if_pos rfl]
      exact ⟨(7, [], [], nu, []), ⟨none, 0, none, 0, qn, cn, none, 0⟩, _, rfl, hide ⟨rfl, decide_eq_decide.2 ⟨fun h => ⟨by omega, h.2⟩, fun h => ⟨by omega, h.2⟩⟩, tenT_i (i3.below hb) (t3.bel hb), hb⟩⟩
    · refine (ctenBp_any qf fl.length cf qs cs sm qn nu.length cn qr rw.length cr N w l1 l2 l3 (by omega) i2.ls).mono ?_
      rintro e w' ⟨q, d, rfl, hq⟩
      obtain ⟨hO, hb⟩ := unhide hq
      rw [if_neg (by decide), if_neg (by decide)]
      exact ⟨(9, [], [], [], trV sm), ⟨none, 0, none, 0, none, 0, q, d⟩, _, rfl, hide ⟨rfl, decide_eq_decide.2 ⟨fun h => ⟨h.1, by have := h.2; omega, h.2.2⟩, fun h => ⟨h.1, by have := h.2; omega, h.2.2⟩⟩, tenT_b (own_ls hO rfl) (own_tag hO), hb⟩⟩
  | true =>
    rw [if_pos rfl]
    by_cases hp : 0 < fl.length + sm.length + nu.length
    · rw [if_pos (.inl hp)]
      refine (ctenX1_any qf fl.length cf qs sm.length cs qn nu.length cn qr rw.length cr kind N w l1 l2 l3 hp).mono ?_
      rintro e w' ⟨rfl, hb⟩
      exact ⟨noTen, noTA, false, rfl, hide ⟨rfl, rfl, tenT_0 _ _, hb⟩⟩
    · have z1 : fl = [] := List.length_eq_zero_iff.1 (by omega)
      have z2 : sm = [] := List.length_eq_zero_iff.1 (by omega)
      have z3 : nu = [] := List.length_eq_zero_iff.1 (by omega)
      subst z1 z2 z3
      simp only [List.length_nil, Nat.add_zero, Nat.lt_irrefl, false_or]
      by_cases hl : (rw.length : Int) = (N : Int) * widthV kind
      · rw [if_neg (fun h => h hl)]
        simp only [Int.toNat_natCast]
        rcases known_cases hk with rfl | rfl | rfl
        · refine (ctenFr_any qf cf qs cs qn cn qr cr rw N w i4 (by have : widthV 1 = 4 := rfl; rw [this] at hl; omega) hN).mono ?_
          rintro e w' ⟨q, d, rfl, hq⟩
          obtain ⟨hO, hb⟩ := unhide hq
          rw [if_pos rfl]
          have hll : ((List.range N).map (fun i => (fun x => x % 4294967296) (atP 4 rw i))).length = N := by rw [List.length_map, List.length_range]
          refine ⟨(1, [], (List.range N).map (fun i => (fun x => x % 4294967296) (atP 4 rw i)), [], []), ⟨none, 0, q, d, none, 0, none, 0⟩, true, by simp only [hll]; rfl, hide ⟨rfl, rfl, tenT_f ((own_ls hO hll).ints (fun x hx => ?_)) (by rw [hll]; exact own_tag hO), hb⟩⟩
          obtain ⟨i, _, rfl⟩ := List.mem_map.1 hx
          exact u32_wf7 (Int.emod_nonneg _ (by decide)) (Int.emod_lt_of_pos _ (by decide))
        · refine (ctenIr_any qf cf qs cs qn cn qr cr rw N w i4 (by have : widthV 7 = 8 := rfl; rw [this] at hl; omega) hN).mono ?_
          rintro e w' ⟨q, d, rfl, hq⟩
          obtain ⟨hO, hb⟩ := unhide hq
          rw [if_neg (by decide), if_pos rfl]
          have hll : ((List.range N).map (fun i => i64w (atP 8 rw i))).length = N := by rw [List.length_map, List.length_range]
          refine ⟨(7, [], [], (List.range N).map (fun i => i64w (atP 8 rw i)), []), ⟨none, 0, none, 0, q, d, none, 0⟩, true, by simp only [hll]; rfl, hide ⟨rfl, rfl, tenT_i ((own_ls hO hll).ints (fun x hx => ?_)) (by rw [hll]; exact own_tag hO), hb⟩⟩
          obtain ⟨i, _, rfl⟩ := List.mem_map.1 hx
          exact i64w_wf _
        · refine (ctenBr_any qf cf qs cs qn cn qr cr rw N w i4 (by have : widthV 9 = 1 := rfl; rw [this] at hl; omega) hN).mono ?_
          rintro e w' ⟨q, d, rfl, hq⟩
          obtain ⟨hO, hb⟩ := unhide hq
          rw [if_neg (by decide), if_neg (by decide)]
          exact ⟨(9, [], [], [], trV ((List.range N).map (fun i => i64w (atP 1 rw i)))), ⟨none, 0, none, 0, none, 0, q, d⟩, _, rfl, hide ⟨rfl, rfl, tenT_b (own_ls hO rfl) (own_tag hO), hb⟩⟩
      · rw [if_pos hl]
        refine (ctenX2_any qf cf qs cs qn cn qr rw.length cr kind N w ?_ hl).mono ?_
        · rcases known_cases hk with rfl | rfl | rfl
          · rw [show widthV 1 = 4 from rfl, IntKind.wrap_i64]; omega
          · rw [show widthV 7 = 8 from rfl, IntKind.wrap_i64]; omega
          · rw [show widthV 9 = 1 from rfl, IntKind.wrap_i64]; omega
        · rintro e w' ⟨rfl, hb⟩
          exact ⟨noTen, noTA, false, rfl, hide ⟨rfl, rfl, tenT_0 _ _, hb⟩⟩
theorem ms_ok {g : Nat} {w : World} {q : Option Addr} {d : Nat} {L : List FA} (h : MsIn g w q d L) : OkL (L.map FA.f) := fun f hf => by
  obtain ⟨a, ha, rfl⟩ := List.mem_map.1 hf
  have hx := (h.1.2 a ha).2.2.1
  have hd := (h.1.2 a ha).2.2.2.2.2.1
  simp [Lit.wf, IntKind.min, IntKind.max, IntKind.signed, IntKind.bits] at hx
  exact ⟨hx.1, by have := hx.2; show a.x < _; omega, wf_isB hd⟩
end Go.Proofs.YtkjlhmojdffooaaGreat

/-
  Layer 7: models that are the same, as the document's answer looks at them: attributes.
-/
namespace Go.Proofs.YtkjlhmojdffooaaGreat
open Go.RowKit
set_option linter.unusedVariables false

set_option maxRecDepth 100000 in
set_option maxHeartbeats 4000000 in
theorem rattr_true (a b : AtA) {B C : Nat} (w : World) (h : AtIn B w a) (k : AtIn C w b) (he : a.d = b.d) :
    Calls Tryz.prog 75 #[.agg (atCells a).toArray, .agg (atCells b).toArray] w fun e w' => e = .returned (.bool true) ∧ Below w.heap.size w w' := by
  obtain ⟨nm, kd, f, i, s, T, A, fl, qf, cf, is, qi, ci⟩ := a
  obtain ⟨nm', kd', f', i', s', T', A', fl', qf', cf', is', qi', ci'⟩ := b
  unfold AtA.d at he
  simp only [Prod.mk.injEq] at he
  obtain ⟨rfl, rfl, rfl, rfl, rfl, rfl, rfl, rfl⟩ := he
  obtain ⟨_, _, _, _, _, h6, ⟨h7, _⟩, h8, _⟩ := h
  obtain ⟨_, _, _, _, _, k6, ⟨k7, _⟩, k8, _⟩ := k
  simp only at h6 h7 h8 k6 k7 k8
  have ST := hide (fun v (hv : Below w.heap.size w v) => rten_same7 T T A A' v (h6.1.below hv) (k6.1.below hv))
  rw [show decide (T = T) = true from decide_eq_true rfl] at ST
  have A2 := hide h7
  have A3 := hide h8
  have E2 := hide k7
  have E3 := hide k8
  have nf := h7.len
  have ni := h8.len
  clear h6 h7 h8 k6 k7 k8
  obtain ⟨ty, ds, fs, tis, bs⟩ := T
  obtain ⟨pd, cd, pf, pcf, pi, pci, pb, cb⟩ := A
  obtain ⟨pd', cd', pf', pcf', pi', pci', pb', cb'⟩ := A'
  unfold atCells
  simp only [tenCells, List.cons_append, List.nil_append, strV]
  unfold tenV tenCells at ST
  simp only at ST
  have t1 : ((strOfNums nm).toList == (strOfNums nm).toList) = true := by simp
  have t2 : ((strOfNums s).toList == (strOfNums s).toList) = true := by simp
  go_enter Tryz.func75, Tryz.ntmps75
  go_wp2_with fail
  refine (unhide ST _ (al27 _ _ _)).mono ?_
  rintro e w1 ⟨rfl, hb⟩
  have X1 := hide (Box.below (Box.alloc (Box.new w #[.string (strOfNums nm), .int .i64 kd, .int .u32 f, .int .i64 i, .string (strOfNums s), .int .i64 ty, .slice pd ds.length cd, .slice pf fs.length pcf, .slice pi tis.length pci, .slice pb bs.length cb, .slice qf fl.length cf, .slice qi is.length ci] 86) _) hb)
  have X2 := hide (Box.below (Box.new (w.alloc _) #[.string (strOfNums nm), .int .i64 kd, .int .u32 f, .int .i64 i, .string (strOfNums s), .int .i64 ty, .slice pd' ds.length cd', .slice pf' fs.length pcf', .slice pi' tis.length pci', .slice pb' bs.length cb', .slice qf' fl.length cf', .slice qi' is.length ci'] 86) hb)
  simp only [alloc_size6] at X2
  have B0 := hide (bl_tr (al27 _ _ _) hb)
  have x1 := (unhide X1).cell
  have x2 := (unhide X2).cell
  clear hb X1 X2 t1 t2
  go_wp2_with fail
  go_loopw [5] (fun iv wr => ∃ n : Nat, iv = .int .i64 n ∧ n ≤ fl.length ∧ ∃ m, wr = w1.drewN m) (fun iv _ => fl.length - (intOf iv).toNat)
  case atStart => exact ⟨0, rfl, by omega, 0, rfl⟩
  case round =>
    obtain ⟨n0, rfl, hn0, m0, rfl⟩ := hrel
    by_cases hlt : n0 < fl.length
    · obtain ⟨b, o, rfl, hb, hc⟩ := ((unhide A2).below (unhide B0)).lies (by omega)
      obtain ⟨b', o', rfl, hb', hc'⟩ := ((unhide E2).below (unhide B0)).lies (by omega)
      have hi : (n0 : Int) < (fl.length : Int) := by omega
      have k1 := hc n0 hlt
      have k2 := hc' n0 hlt
      clear hc hc'
      generalize fl.getD n0 default = x at k1 k2
      go_wp2_with fail
      go_quiet (fail)
      go_wp2_with fail
      go_roundw
      case rel => exact ⟨n0 + 1, by go_num, by omega, _, rfl⟩
      case measure => simp [intOf]; omega
    · have hi : ¬ (n0 : Int) < (fl.length : Int) := by omega
      go_wp2_with fail
      go_loopw [6] (fun iv wr => ∃ n : Nat, iv = .int .i64 n ∧ n ≤ is.length ∧ ∃ m, wr = w1.drewN m) (fun iv _ => is.length - (intOf iv).toNat)
      case atStart => exact ⟨0, rfl, by omega, _, rfl⟩
      case round =>
        obtain ⟨n1, rfl, hn1, m1, rfl⟩ := hrel
        by_cases hlt1 : n1 < is.length
        · obtain ⟨b, o, rfl, hb, hc⟩ := ((unhide A3).below (unhide B0)).lies (by omega)
          obtain ⟨b', o', rfl, hb', hc'⟩ := ((unhide E3).below (unhide B0)).lies (by omega)
          have hi1 : (n1 : Int) < (is.length : Int) := by omega
          have k1 := hc n1 hlt1
          have k2 := hc' n1 hlt1
          clear hc hc'
          generalize is.getD n1 default = x at k1 k2
          go_wp2_with fail
          go_quiet (fail)
          go_wp2_with fail
          go_roundw
          case rel => exact ⟨n1 + 1, by go_num, by omega, _, rfl⟩
          case measure => simp [intOf]; omega
        · have hi1 : ¬ (n1 : Int) < (is.length : Int) := by omega
          go_wp2_with fail
          go_ret
          exact ⟨rfl, bw_drew (unhide B0) _⟩
end Go.Proofs.YtkjlhmojdffooaaGreat

/-
  Layer 7: models that are the same, as the document's answer looks at them: nodes.
-/
namespace Go.Proofs.YtkjlhmojdffooaaGreat
open Go.RowKit
set_option linter.unusedVariables false

theorem rnames7_true (p q : Option Addr) (cap cap' : Nat) (xs : List Str) (w : World) (h1 : Ls strV w p cap xs) (h2 : Ls strV w q cap' xs) (b1 : ∀ s ∈ xs, isB s) :
    Calls Tryz.prog 74 #[.slice p xs.length cap, .slice q xs.length cap'] w fun e w' => e = .returned (.bool true) ∧ Below w.heap.size w w' := by
  have h := rnames7_any p q cap cap' xs xs w h1 h2 b1 b1
  rw [show decide (xs = xs) = true from decide_eq_true rfl] at h
  exact h
theorem map_getD7 {α β : Type} {f : α → β} {z : α} {xs ys : List α} {n : Nat} (h1 : n < xs.length) (h2 : n < ys.length) (e : xs.map f = ys.map f) : f (xs.getD n z) = f (ys.getD n z) := by
  have h := congrArg (fun l => l[n]?) e
  simp only [List.getElem?_map, List.getElem?_eq_getElem h1, List.getElem?_eq_getElem h2, Option.map_some, Option.some.injEq] at h
  rw [List.getD_eq_getElem?_getD, List.getD_eq_getElem?_getD, List.getElem?_eq_getElem h1, List.getElem?_eq_getElem h2]
  exact h
theorem AtIn.bel {B : Nat} {w w' : World} {a : AtA} (h : AtIn B w a) (hb : Below w.heap.size w w') : AtIn B w' a := h.kept (TS := tenTS) (fun t h => h) (Kept.below hb)
theorem NoIn.bel {B : Nat} {w w' : World} {a : NoA} (h : NoIn B w a) (hb : Below w.heap.size w w') : NoIn B w' a := h.kept (TS := nodeTS) (fun t h => h) (Kept.below hb)

set_option maxRecDepth 100000 in
set_option maxHeartbeats 8000000 in
theorem rnode_true (a b : NoA) {B C : Nat} (w : World) (h : NoIn B w a) (k : NoIn C w b) (he : a.d = b.d) :
    Calls Tryz.prog 34 #[.agg (noCells a).toArray, .agg (noCells b).toArray] w fun e w' => e = .returned (.bool true) ∧ Below w.heap.size w w' := by
  obtain ⟨aop, anm, ains, aqi, aci, aouts, aqo, aco, aat, aqa, aca⟩ := a
  obtain ⟨bop, bnm, bins, bqi, bci, bouts, bqo, bco, bat, bqa, bca⟩ := b
  unfold NoA.d at he
  simp only [Prod.mk.injEq] at he
  obtain ⟨rfl, rfl, rfl, rfl, he⟩ := he
  obtain ⟨_, _, ⟨h3, h4, _⟩, ⟨h6, h7, _⟩, h9, h10, _⟩ := h
  obtain ⟨_, _, ⟨_, k4, _⟩, ⟨_, k7, _⟩, k9, k10, _⟩ := k
  simp only at h3 h4 h6 h7 h9 h10 k4 k7 k9 k10
  have hlen : aat.length = bat.length := by have := congrArg List.length he; simpa using this
  have S1 := hide (fun v (hv : Below w.heap.size w v) => rnames7_true aqi bqi aci bci ains v (h4.below hv) (k4.below hv) h3)
  have S2 := hide (fun v (hv : Below w.heap.size w v) => rnames7_true aqo bqo aco bco aouts v (h7.below hv) (k7.below hv) h6)
  have SA := hide (fun n (h1 : n < aat.length) (h2 : n < bat.length) v (hv : Below w.heap.size w v) => rattr_true (aat.getD n noAtA) (bat.getD n noAtA) v ((h9 _ (getD_mem7 h1)).bel hv) ((k9 _ (getD_mem7 h2)).bel hv) (map_getD7 h1 h2 he))
  have R1 := hide h10
  have R2 := hide k10
  have nl := h10.len
  have nl2 := k10.len
  have HL := hide hlen
  have tl : ((aat.length : Int) != (bat.length : Int)) = false := bneFp (by omega)
  clear h3 h4 h6 h7 h9 h10 k4 k7 k9 k10 he hlen
  unfold noCells
  simp only [strV]
  have t1 : ((strOfNums aop).toList == (strOfNums aop).toList) = true := by simp
  have t2 : ((strOfNums anm).toList == (strOfNums anm).toList) = true := by simp
  have BA := hide (al27 w (Obj.cells #[.string (strOfNums aop), .string (strOfNums anm), .slice aqi ains.length aci, .slice aqo aouts.length aco, .slice aqa aat.length aca] 75) (Obj.cells #[.string (strOfNums aop), .string (strOfNums anm), .slice bqi ains.length bci, .slice bqo aouts.length bco, .slice bqa bat.length bca] 75))
  have X0 := hide (Box.alloc (Box.new w #[.string (strOfNums aop), .string (strOfNums anm), .slice aqi ains.length aci, .slice aqo aouts.length aco, .slice aqa aat.length aca] 75) (Obj.cells #[.string (strOfNums aop), .string (strOfNums anm), .slice bqi ains.length bci, .slice bqo aouts.length bco, .slice bqa bat.length bca] 75))
  have Z0 : Hid (Box ((w.alloc (Obj.cells #[.string (strOfNums aop), .string (strOfNums anm), .slice aqi ains.length aci, .slice aqo aouts.length aco, .slice aqa aat.length aca] 75)).alloc (Obj.cells #[.string (strOfNums aop), .string (strOfNums anm), .slice bqi ains.length bci, .slice bqo aouts.length bco, .slice bqa bat.length bca] 75)) (w.heap.size + 1) #[.string (strOfNums aop), .string (strOfNums anm), .slice bqi ains.length bci, .slice bqo aouts.length bco, .slice bqa bat.length bca] 75) := hide (by have h := Box.new (w.alloc (Obj.cells #[.string (strOfNums aop), .string (strOfNums anm), .slice aqi ains.length aci, .slice aqo aouts.length aco, .slice aqa aat.length aca] 75)) #[.string (strOfNums aop), .string (strOfNums anm), .slice bqi ains.length bci, .slice bqo aouts.length bco, .slice bqa bat.length bca] 75; rw [alloc_size6] at h; exact h)
  go_enter Tryz.func34, Tryz.ntmps34
  go_wp2_with fail
  refine (unhide S1 _ (unhide BA)).mono ?_
  rintro e w1 ⟨rfl, hb⟩
  have B1 := hide (bl_tr (unhide BA) hb)
  have X1' := hide ((unhide X0).below hb)
  have Z1' := hide ((unhide Z0).below hb)
  have x1 := (unhide X1').cell
  have x2 := (unhide Z1').cell
  clear hb
  go_wp2_with fail
  refine (unhide S2 _ (unhide B1)).mono ?_
  rintro e w2 ⟨rfl, hb⟩
  have B0 := hide (bl_tr (unhide B1) hb)
  have X1 := hide ((unhide X1').below hb)
  have X2 := hide ((unhide Z1').below hb)
  clear hb x1 x2
  have x1 := (unhide X1).cell
  have x2 := (unhide X2).cell
  go_wp2_with fail
  clear x1 x2 tl t1 t2
  go_loopw [5] (fun iv wr => ∃ n : Nat, iv = .int .i64 n ∧ n ≤ aat.length ∧ Hid (Below w2.heap.size w2 wr)) (fun iv _ => aat.length - (intOf iv).toNat)
  case atStart => exact ⟨0, rfl, by omega, hide (Below.refl _ _)⟩
  case round =>
    obtain ⟨n, rfl, hn, HB⟩ := hrel
    by_cases hlt : n < aat.length
    · have hlt2 : n < bat.length := by rw [← unhide HL]; exact hlt
      have hi : (n : Int) < (aat.length : Int) := by omega
      have hi2 : (n : Int) < (bat.length : Int) := by omega
      have BW := hide (bl_tr (unhide B0) (unhide HB))
      have x1 := ((unhide X1).below (unhide HB)).cell
      have x2 := ((unhide X2).below (unhide HB)).cell
      have x1d := ((unhide X1).below (bl_tr (unhide HB) (bdrewp wr))).cell
      have x2d := ((unhide X2).below (bl_tr (unhide HB) (bdrewp wr))).cell
      obtain ⟨b, o, rfl, hb, hc⟩ := ((unhide R1).below (unhide BW)).lies (by omega)
      obtain ⟨b', o', rfl, hb', hc'⟩ := ((unhide R2).below (unhide BW)).lies (by omega)
      have hcx := hc n hlt
      have hcy := hc' n hlt2
      have CS := hide (unhide SA n hlt hlt2)
      clear hc hc' hlt2
      generalize aat.getD n noAtA = x at hcx CS
      generalize bat.getD n noAtA = y at hcy CS
      obtain ⟨xnm, xkd, xf, xi, xs, ⟨xt1, xt2, xt3, xt4, xt5⟩, ⟨xpd, xcd, xpf, xpc, xpi, xpk, xpb, xcb⟩, xfl, xqf, xcf, xis, xqi, xci⟩ := x
      obtain ⟨ynm, ykd, yf, yi, ys, ⟨yt1, yt2, yt3, yt4, yt5⟩, ⟨ypd, ycd, ypf, ypc, ypi, ypk, ypb, ycb⟩, yfl, yqf, ycf, yis, yqi, yci⟩ := y
      have k0 : wr.cell? ⟨b, o + n * 12, none⟩ = some (.string (strOfNums xnm)) := hcx 0 _ rfl
      have k1 : wr.cell? ⟨b, o + n * 12 + 1, none⟩ = some (.int .i64 xkd) := hcx 1 _ rfl
      have k2 : wr.cell? ⟨b, o + n * 12 + 2, none⟩ = some (.int .u32 xf) := hcx 2 _ rfl
      have k3 : wr.cell? ⟨b, o + n * 12 + 3, none⟩ = some (.int .i64 xi) := hcx 3 _ rfl
      have k4 : wr.cell? ⟨b, o + n * 12 + 4, none⟩ = some (.string (strOfNums xs)) := hcx 4 _ rfl
      have k5 : wr.cell? ⟨b, o + n * 12 + 5, none⟩ = some (.int .i64 xt1) := hcx 5 _ rfl
      have k6 : wr.cell? ⟨b, o + n * 12 + 6, none⟩ = some (.slice xpd xt2.length xcd) := hcx 6 _ rfl
      have k7 : wr.cell? ⟨b, o + n * 12 + 7, none⟩ = some (.slice xpf xt3.length xpc) := hcx 7 _ rfl
      have k8 : wr.cell? ⟨b, o + n * 12 + 8, none⟩ = some (.slice xpi xt4.length xpk) := hcx 8 _ rfl
      have k9 : wr.cell? ⟨b, o + n * 12 + 9, none⟩ = some (.slice xpb xt5.length xcb) := hcx 9 _ rfl
      have k10 : wr.cell? ⟨b, o + n * 12 + 10, none⟩ = some (.slice xqf xfl.length xcf) := hcx 10 _ rfl
      have k11 : wr.cell? ⟨b, o + n * 12 + 11, none⟩ = some (.slice xqi xis.length xci) := hcx 11 _ rfl
      have m0 : wr.cell? ⟨b', o' + n * 12, none⟩ = some (.string (strOfNums ynm)) := hcy 0 _ rfl
      have m1 : wr.cell? ⟨b', o' + n * 12 + 1, none⟩ = some (.int .i64 ykd) := hcy 1 _ rfl
      have m2 : wr.cell? ⟨b', o' + n * 12 + 2, none⟩ = some (.int .u32 yf) := hcy 2 _ rfl
      have m3 : wr.cell? ⟨b', o' + n * 12 + 3, none⟩ = some (.int .i64 yi) := hcy 3 _ rfl
      have m4 : wr.cell? ⟨b', o' + n * 12 + 4, none⟩ = some (.string (strOfNums ys)) := hcy 4 _ rfl
      have m5 : wr.cell? ⟨b', o' + n * 12 + 5, none⟩ = some (.int .i64 yt1) := hcy 5 _ rfl
      have m6 : wr.cell? ⟨b', o' + n * 12 + 6, none⟩ = some (.slice ypd yt2.length ycd) := hcy 6 _ rfl
      have m7 : wr.cell? ⟨b', o' + n * 12 + 7, none⟩ = some (.slice ypf yt3.length ypc) := hcy 7 _ rfl
      have m8 : wr.cell? ⟨b', o' + n * 12 + 8, none⟩ = some (.slice ypi yt4.length ypk) := hcy 8 _ rfl
      have m9 : wr.cell? ⟨b', o' + n * 12 + 9, none⟩ = some (.slice ypb yt5.length ycb) := hcy 9 _ rfl
      have m10 : wr.cell? ⟨b', o' + n * 12 + 10, none⟩ = some (.slice yqf yfl.length ycf) := hcy 10 _ rfl
      have m11 : wr.cell? ⟨b', o' + n * 12 + 11, none⟩ = some (.slice yqi yis.length yci) := hcy 11 _ rfl
      clear hcx hcy
      have k0d : wr.drew.cell? ⟨b, o + n * 12, none⟩ = some (.string (strOfNums xnm)) := ((bdrewp wr).cell (p := ⟨b, o + n * 12, none⟩) hb).trans k0
      have k1d : wr.drew.cell? ⟨b, o + n * 12 + 1, none⟩ = some (.int .i64 xkd) := ((bdrewp wr).cell (p := ⟨b, o + n * 12 + 1, none⟩) hb).trans k1
      have k2d : wr.drew.cell? ⟨b, o + n * 12 + 2, none⟩ = some (.int .u32 xf) := ((bdrewp wr).cell (p := ⟨b, o + n * 12 + 2, none⟩) hb).trans k2
      have k3d : wr.drew.cell? ⟨b, o + n * 12 + 3, none⟩ = some (.int .i64 xi) := ((bdrewp wr).cell (p := ⟨b, o + n * 12 + 3, none⟩) hb).trans k3
      have k4d : wr.drew.cell? ⟨b, o + n * 12 + 4, none⟩ = some (.string (strOfNums xs)) := ((bdrewp wr).cell (p := ⟨b, o + n * 12 + 4, none⟩) hb).trans k4
      have k5d : wr.drew.cell? ⟨b, o + n * 12 + 5, none⟩ = some (.int .i64 xt1) := ((bdrewp wr).cell (p := ⟨b, o + n * 12 + 5, none⟩) hb).trans k5
      have k6d : wr.drew.cell? ⟨b, o + n * 12 + 6, none⟩ = some (.slice xpd xt2.length xcd) := ((bdrewp wr).cell (p := ⟨b, o + n * 12 + 6, none⟩) hb).trans k6
      have k7d : wr.drew.cell? ⟨b, o + n * 12 + 7, none⟩ = some (.slice xpf xt3.length xpc) := ((bdrewp wr).cell (p := ⟨b, o + n * 12 + 7, none⟩) hb).trans k7
      have k8d : wr.drew.cell? ⟨b, o + n * 12 + 8, none⟩ = some (.slice xpi xt4.length xpk) := ((bdrewp wr).cell (p := ⟨b, o + n * 12 + 8, none⟩) hb).trans k8
      have k9d : wr.drew.cell? ⟨b, o + n * 12 + 9, none⟩ = some (.slice xpb xt5.length xcb) := ((bdrewp wr).cell (p := ⟨b, o + n * 12 + 9, none⟩) hb).trans k9
      have k10d : wr.drew.cell? ⟨b, o + n * 12 + 10, none⟩ = some (.slice xqf xfl.length xcf) := ((bdrewp wr).cell (p := ⟨b, o + n * 12 + 10, none⟩) hb).trans k10
      have k11d : wr.drew.cell? ⟨b, o + n * 12 + 11, none⟩ = some (.slice xqi xis.length xci) := ((bdrewp wr).cell (p := ⟨b, o + n * 12 + 11, none⟩) hb).trans k11
      have m0d : wr.drew.cell? ⟨b', o' + n * 12, none⟩ = some (.string (strOfNums ynm)) := ((bdrewp wr).cell (p := ⟨b', o' + n * 12, none⟩) hb').trans m0
      have m1d : wr.drew.cell? ⟨b', o' + n * 12 + 1, none⟩ = some (.int .i64 ykd) := ((bdrewp wr).cell (p := ⟨b', o' + n * 12 + 1, none⟩) hb').trans m1
      have m2d : wr.drew.cell? ⟨b', o' + n * 12 + 2, none⟩ = some (.int .u32 yf) := ((bdrewp wr).cell (p := ⟨b', o' + n * 12 + 2, none⟩) hb').trans m2
      have m3d : wr.drew.cell? ⟨b', o' + n * 12 + 3, none⟩ = some (.int .i64 yi) := ((bdrewp wr).cell (p := ⟨b', o' + n * 12 + 3, none⟩) hb').trans m3
      have m4d : wr.drew.cell? ⟨b', o' + n * 12 + 4, none⟩ = some (.string (strOfNums ys)) := ((bdrewp wr).cell (p := ⟨b', o' + n * 12 + 4, none⟩) hb').trans m4
      have m5d : wr.drew.cell? ⟨b', o' + n * 12 + 5, none⟩ = some (.int .i64 yt1) := ((bdrewp wr).cell (p := ⟨b', o' + n * 12 + 5, none⟩) hb').trans m5
      have m6d : wr.drew.cell? ⟨b', o' + n * 12 + 6, none⟩ = some (.slice ypd yt2.length ycd) := ((bdrewp wr).cell (p := ⟨b', o' + n * 12 + 6, none⟩) hb').trans m6
      have m7d : wr.drew.cell? ⟨b', o' + n * 12 + 7, none⟩ = some (.slice ypf yt3.length ypc) := ((bdrewp wr).cell (p := ⟨b', o' + n * 12 + 7, none⟩) hb').trans m7
      have m8d : wr.drew.cell? ⟨b', o' + n * 12 + 8, none⟩ = some (.slice ypi yt4.length ypk) := ((bdrewp wr).cell (p := ⟨b', o' + n * 12 + 8, none⟩) hb').trans m8
      have m9d : wr.drew.cell? ⟨b', o' + n * 12 + 9, none⟩ = some (.slice ypb yt5.length ycb) := ((bdrewp wr).cell (p := ⟨b', o' + n * 12 + 9, none⟩) hb').trans m9
      have m10d : wr.drew.cell? ⟨b', o' + n * 12 + 10, none⟩ = some (.slice yqf yfl.length ycf) := ((bdrewp wr).cell (p := ⟨b', o' + n * 12 + 10, none⟩) hb').trans m10
      have m11d : wr.drew.cell? ⟨b', o' + n * 12 + 11, none⟩ = some (.slice yqi yis.length yci) := ((bdrewp wr).cell (p := ⟨b', o' + n * 12 + 11, none⟩) hb').trans m11
      unfold atCells at CS
      simp only [tenCells, List.cons_append, List.nil_append, strV] at CS
      go_wp2_with fail
      go_region_held3 (fun v => (∀ j, v.cell? ⟨w.heap.size, j, none⟩ = (#[.string (strOfNums aop), .string (strOfNums anm), .slice aqi ains.length aci, .slice aqo aouts.length aco, .slice (some ⟨b, o, none⟩) aat.length aca] : Array Value)[j]?) ∧ (∀ j, v.cell? ⟨w.heap.size + 1, j, none⟩ = (#[.string (strOfNums aop), .string (strOfNums anm), .slice bqi ains.length bci, .slice bqo aouts.length bco, .slice (some ⟨b', o', none⟩) bat.length bca] : Array Value)[j]?) ∧ v.cell? ⟨b, o + n * 12, none⟩ = some (.string (strOfNums xnm)) ∧ v.cell? ⟨b, o + n * 12 + 1, none⟩ = some (.int .i64 xkd) ∧ v.cell? ⟨b, o + n * 12 + 2, none⟩ = some (.int .u32 xf) ∧ v.cell? ⟨b, o + n * 12 + 3, none⟩ = some (.int .i64 xi) ∧ v.cell? ⟨b, o + n * 12 + 4, none⟩ = some (.string (strOfNums xs)) ∧ v.cell? ⟨b, o + n * 12 + 5, none⟩ = some (.int .i64 xt1) ∧ v.cell? ⟨b, o + n * 12 + 6, none⟩ = some (.slice xpd xt2.length xcd) ∧ v.cell? ⟨b, o + n * 12 + 7, none⟩ = some (.slice xpf xt3.length xpc) ∧ v.cell? ⟨b, o + n * 12 + 8, none⟩ = some (.slice xpi xt4.length xpk) ∧ v.cell? ⟨b, o + n * 12 + 9, none⟩ = some (.slice xpb xt5.length xcb) ∧ v.cell? ⟨b, o + n * 12 + 10, none⟩ = some (.slice xqf xfl.length xcf) ∧ v.cell? ⟨b, o + n * 12 + 11, none⟩ = some (.slice xqi xis.length xci) ∧ v.cell? ⟨b', o' + n * 12, none⟩ = some (.string (strOfNums ynm)) ∧ v.cell? ⟨b', o' + n * 12 + 1, none⟩ = some (.int .i64 ykd) ∧ v.cell? ⟨b', o' + n * 12 + 2, none⟩ = some (.int .u32 yf) ∧ v.cell? ⟨b', o' + n * 12 + 3, none⟩ = some (.int .i64 yi) ∧ v.cell? ⟨b', o' + n * 12 + 4, none⟩ = some (.string (strOfNums ys)) ∧ v.cell? ⟨b', o' + n * 12 + 5, none⟩ = some (.int .i64 yt1) ∧ v.cell? ⟨b', o' + n * 12 + 6, none⟩ = some (.slice ypd yt2.length ycd) ∧ v.cell? ⟨b', o' + n * 12 + 7, none⟩ = some (.slice ypf yt3.length ypc) ∧ v.cell? ⟨b', o' + n * 12 + 8, none⟩ = some (.slice ypi yt4.length ypk) ∧ v.cell? ⟨b', o' + n * 12 + 9, none⟩ = some (.slice ypb yt5.length ycb) ∧ v.cell? ⟨b', o' + n * 12 + 10, none⟩ = some (.slice yqf yfl.length ycf) ∧ v.cell? ⟨b', o' + n * 12 + 11, none⟩ = some (.slice yqi yis.length yci)) (refine ⟨?_, ?_, ?_, ?_, ?_, ?_, ?_, ?_, ?_, ?_, ?_, ?_, ?_, ?_, ?_, ?_, ?_, ?_, ?_, ?_, ?_, ?_, ?_, ?_, ?_, ?_⟩ <;> with_reducible assumption)
        ((go_at_call 75; (refine (unhide CS _ (bl_tr (unhide BW) (bdrewp _))).mono ?_; rintro e w5 ⟨rfl, hb5⟩; have bb := bl_tr (bdrewp wr) hb5; have B5 := hide (bl_tr (unhide HB) bb); have x1e := ((unhide X1).below (unhide B5)).cell; have x2e := ((unhide X2).below (unhide B5)).cell; have k0e : w5.cell? ⟨b, o + n * 12, none⟩ = some (.string (strOfNums xnm)) := ((bb).cell (p := ⟨b, o + n * 12, none⟩) hb).trans k0; have k1e : w5.cell? ⟨b, o + n * 12 + 1, none⟩ = some (.int .i64 xkd) := ((bb).cell (p := ⟨b, o + n * 12 + 1, none⟩) hb).trans k1; have k2e : w5.cell? ⟨b, o + n * 12 + 2, none⟩ = some (.int .u32 xf) := ((bb).cell (p := ⟨b, o + n * 12 + 2, none⟩) hb).trans k2; have k3e : w5.cell? ⟨b, o + n * 12 + 3, none⟩ = some (.int .i64 xi) := ((bb).cell (p := ⟨b, o + n * 12 + 3, none⟩) hb).trans k3; have k4e : w5.cell? ⟨b, o + n * 12 + 4, none⟩ = some (.string (strOfNums xs)) := ((bb).cell (p := ⟨b, o + n * 12 + 4, none⟩) hb).trans k4; have k5e : w5.cell? ⟨b, o + n * 12 + 5, none⟩ = some (.int .i64 xt1) := ((bb).cell (p := ⟨b, o + n * 12 + 5, none⟩) hb).trans k5; have k6e : w5.cell? ⟨b, o + n * 12 + 6, none⟩ = some (.slice xpd xt2.length xcd) := ((bb).cell (p := ⟨b, o + n * 12 + 6, none⟩) hb).trans k6; have k7e : w5.cell? ⟨b, o + n * 12 + 7, none⟩ = some (.slice xpf xt3.length xpc) := ((bb).cell (p := ⟨b, o + n * 12 + 7, none⟩) hb).trans k7; have k8e : w5.cell? ⟨b, o + n * 12 + 8, none⟩ = some (.slice xpi xt4.length xpk) := ((bb).cell (p := ⟨b, o + n * 12 + 8, none⟩) hb).trans k8; have k9e : w5.cell? ⟨b, o + n * 12 + 9, none⟩ = some (.slice xpb xt5.length xcb) := ((bb).cell (p := ⟨b, o + n * 12 + 9, none⟩) hb).trans k9; have k10e : w5.cell? ⟨b, o + n * 12 + 10, none⟩ = some (.slice xqf xfl.length xcf) := ((bb).cell (p := ⟨b, o + n * 12 + 10, none⟩) hb).trans k10; have k11e : w5.cell? ⟨b, o + n * 12 + 11, none⟩ = some (.slice xqi xis.length xci) := ((bb).cell (p := ⟨b, o + n * 12 + 11, none⟩) hb).trans k11; have m0e : w5.cell? ⟨b', o' + n * 12, none⟩ = some (.string (strOfNums ynm)) := ((bb).cell (p := ⟨b', o' + n * 12, none⟩) hb').trans m0; have m1e : w5.cell? ⟨b', o' + n * 12 + 1, none⟩ = some (.int .i64 ykd) := ((bb).cell (p := ⟨b', o' + n * 12 + 1, none⟩) hb').trans m1; have m2e : w5.cell? ⟨b', o' + n * 12 + 2, none⟩ = some (.int .u32 yf) := ((bb).cell (p := ⟨b', o' + n * 12 + 2, none⟩) hb').trans m2; have m3e : w5.cell? ⟨b', o' + n * 12 + 3, none⟩ = some (.int .i64 yi) := ((bb).cell (p := ⟨b', o' + n * 12 + 3, none⟩) hb').trans m3; have m4e : w5.cell? ⟨b', o' + n * 12 + 4, none⟩ = some (.string (strOfNums ys)) := ((bb).cell (p := ⟨b', o' + n * 12 + 4, none⟩) hb').trans m4; have m5e : w5.cell? ⟨b', o' + n * 12 + 5, none⟩ = some (.int .i64 yt1) := ((bb).cell (p := ⟨b', o' + n * 12 + 5, none⟩) hb').trans m5; have m6e : w5.cell? ⟨b', o' + n * 12 + 6, none⟩ = some (.slice ypd yt2.length ycd) := ((bb).cell (p := ⟨b', o' + n * 12 + 6, none⟩) hb').trans m6; have m7e : w5.cell? ⟨b', o' + n * 12 + 7, none⟩ = some (.slice ypf yt3.length ypc) := ((bb).cell (p := ⟨b', o' + n * 12 + 7, none⟩) hb').trans m7; have m8e : w5.cell? ⟨b', o' + n * 12 + 8, none⟩ = some (.slice ypi yt4.length ypk) := ((bb).cell (p := ⟨b', o' + n * 12 + 8, none⟩) hb').trans m8; have m9e : w5.cell? ⟨b', o' + n * 12 + 9, none⟩ = some (.slice ypb yt5.length ycb) := ((bb).cell (p := ⟨b', o' + n * 12 + 9, none⟩) hb').trans m9; have m10e : w5.cell? ⟨b', o' + n * 12 + 10, none⟩ = some (.slice yqf yfl.length ycf) := ((bb).cell (p := ⟨b', o' + n * 12 + 10, none⟩) hb').trans m10; have m11e : w5.cell? ⟨b', o' + n * 12 + 11, none⟩ = some (.slice yqi yis.length yci) := ((bb).cell (p := ⟨b', o' + n * 12 + 11, none⟩) hb').trans m11; clear hb5 bb)))
      go_wp2_with fail
      go_roundw
      case rel => exact ⟨n + 1, by go_num, by omega, B5⟩
      case measure => simp [intOf]; omega
    · have hi : ¬ (n : Int) < (aat.length : Int) := by omega
      have x1 := ((unhide X1).below (unhide HB)).cell
      go_wp2_with fail
      go_ret
      exact ⟨rfl, bl_tr (unhide B0) (unhide HB)⟩

end Go.Proofs.YtkjlhmojdffooaaGreat
