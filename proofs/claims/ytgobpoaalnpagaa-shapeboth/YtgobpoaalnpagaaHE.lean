import Derived.Test.YtgobpoaalnpagaaHD
import Derived.WalkMore

/-
  Layer 4: the code's indices of a place.
-/
namespace Go.Proofs.Ytgobpoaalnpagaa
open Go.RowKit
set_option linter.unusedVariables false

theorem offN_zero {ds xs : List Int} : ∀ n, (∀ i, i < n → xs.getD i 0 = 0) → offN ds xs n = 0
  | 0, _ => rfl
  | n + 1, h => by
    show offN ds xs n * ds.getD n 0 + xs.getD n 0 = 0
    rw [offN_zero n (fun i hi => h i (by omega)), h n (by omega), Int.zero_mul, Int.zero_add]
/-- Where the first digits are nought, the last ones are all. -/
theorem suf_all {ds xs : List Int} (j : Nat) (hj : j ≤ ds.length) (h : ∀ i, i < j → xs.getD i 0 = 0) : sufM ds xs (ds.length - j) = offN ds xs ds.length := by
  have := off_suf ds xs j hj
  rw [offN_zero j h, Int.zero_mul, Int.zero_add] at this
  rw [this, off_is_suf]
theorem suf_step {ds xs : List Int} (j : Nat) (T : Int) (hj : j < ds.length) (hl : xs.length = ds.length) : sufM ds (xs.set j T) (ds.length - j) = T * prodL (ds.drop (j + 1)) + sufM ds xs (ds.length - (j + 1)) := by
  have e : ds.length - j = (ds.length - (j + 1)) + 1 := by omega
  rw [e]
  show (xs.set j T).getD (ds.length - 1 - (ds.length - (j + 1))) 0 * prodL (ds.drop (ds.length - (ds.length - (j + 1)))) + sufM ds (xs.set j T) (ds.length - (j + 1)) = _
  rw [show ds.length - 1 - (ds.length - (j + 1)) = j by omega, show ds.length - (ds.length - (j + 1)) = j + 1 by omega, getD_set xs j j T (by omega), if_pos rfl]
  rw [sufM_congr (xs := xs.set j T) (ys := xs) (ds.length - (j + 1)) (by omega) (fun i h1 h2 => by rw [getD_set xs j i T (by omega), if_neg (by omega)])]
theorem replicate_getD (n i : Nat) : (List.replicate n (0 : Int)).getD i 0 = 0 := by
  rw [List.getD_eq_getElem?_getD, List.getElem?_replicate]; split <;> rfl

theorem MadeI.drew {w wr : World} {g n : Nat} {os : List Int} (h : MadeI w wr g n os) : MadeI w wr.drew g n os := by
  obtain ⟨a, b, c, d, e⟩ := h
  exact ⟨a, b, c.trans ⟨rfl, rfl, rfl, Nat.le_refl _, fun _ _ => rfl⟩, d, e⟩

set_option maxRecDepth 100000 in
set_option maxHeartbeats 4000000 in
/-- The indices of a place that is there. -/
theorem ccounted_any (p : Option Addr) (cap : Nat) (ds : List Int) (at' : Int) (w : World) (h1 : Ints .i64 w p cap ds) (hp : ∀ d ∈ ds, 1 ≤ d ∧ d ≤ 4096) (h8 : ds.length ≤ 8) (a0 : 0 ≤ at') (a1 : at' < prodL ds) (a2 : prodL ds ≤ 4096) :
    Calls Try.prog 26 #[.slice p ds.length cap, .int .i64 at'] w fun e w' => ∃ g xs, e = .returned (.slice (some ⟨g, 0, none⟩) ds.length ds.length) ∧ MadeI w w' g ds.length xs ∧ inR ds xs ∧ offN ds xs ds.length = at' := by
  obtain ⟨i0, hi, hz0, hz1, hz2⟩ := info_parts Try.infoInt
  have HPOS := hide hp
  have H1 := hide h1
  have A1 := hide a1
  have a3 : at' ≤ 4096 := by omega
  clear hp h1 a1 a2
  go_enter Try.func26, Try.ntmps26
  go_wp2_with fail
  go_step3
  go_wp2_with (at_make; refine wpList_make_full _ rfl _ _ 22 rfl w.heap.size 3 i0 (.int .i64 0) 1 Try.underlying22 hi hz0 hz1 _ _ _ _ ds.length rfl rfl (by omega) (by omega) (by rw [hz2]; omega) (by unfold maxLen; omega) (Nat.le_refl _) ?_; intro w2 hown hgrow)
  have HM0 := hide (MadeI.first hown hgrow)
  clear hown hgrow
  go_step3
  go_wp2_with fail
  go_loopw [1, 6] (fun av iv wr => ∃ n : Nat, ∃ A : Int, ∃ xs : List Int, iv = .int .i64 ((n : Int) - 1) ∧ av = .int .i64 A ∧ n ≤ ds.length ∧ 0 ≤ A ∧ A ≤ 4096 ∧ Hid (A < prodL (ds.take n)) ∧ MadeI w wr w.heap.size ds.length xs ∧
      Hid (∀ i, n ≤ i → i < ds.length → 0 ≤ xs.getD i 0 ∧ xs.getD i 0 < ds.getD i 0) ∧ Hid (∀ i, i < n → xs.getD i 0 = 0) ∧ Hid (at' = A * prodL (ds.drop n) + sufM ds xs (ds.length - n))) (fun _ iv _ => (intOf iv + 1).toNat)
  case atStart =>
    refine ⟨ds.length, at', List.replicate ds.length 0, by go_num, rfl, Nat.le_refl _, by omega, by omega, hide ?_, unhide HM0, hide (fun i h1 h2 => by omega), hide (fun i _ => replicate_getD _ _), hide ?_⟩
    · rw [List.take_length]; exact unhide A1
    · rw [List.drop_length, Nat.sub_self]; simp [prodL, sufM]
  case round =>
    obtain ⟨n, A, xs, rfl, rfl, hn, A0, A1', HA, hM, HV, HZ, HT⟩ := hrel
    have HM := hide hM
    clear hM
    by_cases hlt : 0 < n
    · obtain ⟨j, rfl⟩ : ∃ j, n = j + 1 := ⟨n - 1, by omega⟩
      have hj : j < ds.length := by omega
      have ej : ((j + 1 : Nat) : Int) - 1 = (j : Int) := by omega
      rw [ej]
      obtain ⟨b, o, rfl, hb, hc⟩ := (unhide H1).lies (by omega)
      have hcell : wr.cell? ⟨b, o + j, none⟩ = some (.int .i64 (ds.getD j 0)) := ((unhide HM).2.2.1.cell (p := ⟨b, o + j, none⟩) hb).trans (hc j hj)
      obtain ⟨d0, d1⟩ := unhide HPOS _ (getD_mem hj)
      have hge : (0 : Int) ≤ (j : Int) := by omega
      have hji : (j : Int) < (ds.length : Int) := by omega
      have HTK := hide (take_succ ds j hj)
      have HDR := hide (drop_cons ds j hj)
      have HLX := hide (unhide HM).1
      have hwrs : w.heap.size < wr.heap.size := ((unhide HM).2.1.lt w.heap.size rfl).2
      have c3 := (unhide HM).cell j hj
      have z3 : wr.frozen? ⟨w.heap.size, j, none⟩ = false := (unhide HM).2.1.frozenAt j
      have hne : b ≠ w.heap.size := by omega
      obtain ⟨d, hd⟩ : ∃ d, ds.getD j 0 = d := ⟨_, rfl⟩
      rw [hd] at hcell d0 d1 HTK HDR
      have HD := hide hd
      clear hd hc
      by_cases hlt2 : A < d
      · have HM2 := hide ((unhide HM).stored j A (WalkArith.wf_i64 (by omega)))
        have hz2' : ∀ i, i < j → (xs.set j A).getD i 0 = 0 := fun i hi => by
          rw [getD_set xs j i A (by rw [unhide HLX]; exact hj), if_neg (by omega)]; exact unhide HZ i (by omega)
        have hin : inR ds (xs.set j A) := fun i hi => by
          rw [getD_set xs j i A (by rw [unhide HLX]; exact hj)]
          split
          · rename_i e; rw [e, unhide HD]; omega
          · rcases Nat.lt_or_ge i j with g | g
            · rw [unhide HZ i (by omega)]; have := unhide HPOS _ (getD_mem hi); omega
            · exact unhide HV i (by omega) hi
        have hoff : offN ds (xs.set j A) ds.length = at' := by
          rw [← suf_all j (by omega) hz2', suf_step j A hj (unhide HLX), unhide HT]
        have HIN := hide hin
        have HOFF := hide hoff
        clear hin hoff hz2' HM HV HT HA HTK HDR HD HZ
        go_wp2_with fail
        rw [Exit.noGoto_ret]
        go_ret
        exact ⟨_, _, rfl, unhide HM2, unhide HIN, unhide HOFF⟩
      · have qr : A / d * d + A % d = A := by rw [Int.mul_comm]; exact Int.mul_ediv_add_emod A d
        have r0 : 0 ≤ A % d := Int.emod_nonneg _ (by omega)
        have r1 : A % d < d := Int.emod_lt_of_pos _ (by omega)
        have q0 : 0 ≤ A / d := Int.ediv_nonneg A0 (by omega)
        have q1 : A / d ≤ A := Int.ediv_le_self _ A0
        have hdz : (d == 0) = false := by simp; omega
        have HQR := hide qr
        obtain ⟨Q, hQ⟩ : ∃ Q, A / d = Q := ⟨_, rfl⟩
        obtain ⟨T, hT⟩ : ∃ T, A % d = T := ⟨_, rfl⟩
        rw [hQ, hT] at HQR
        rw [hQ] at q0 q1
        rw [hT] at r0 r1
        have hTm : A.tmod d = T := by rw [Int.tmod_eq_emod_of_nonneg A0, hT]
        have hQm : A.tdiv d = Q := by rw [Int.tdiv_eq_ediv_of_nonneg A0, hQ]
        have HM2 := hide ((unhide HM).stored j T (WalkArith.wf_i64 (by omega)))
        have hpre : Hid (Q < prodL (ds.take j)) := hide (by
          have h1 := unhide HA
          rw [unhide HTK, prodL_append, prodL_one] at h1
          have h2 := unhide HQR
          rcases Int.lt_or_le Q (prodL (ds.take j)) with g | g
          · exact g
          · have := Int.mul_le_mul_of_nonneg_right g (show 0 ≤ d by omega)
            omega)
        have hval : Hid (∀ i, j ≤ i → i < ds.length → 0 ≤ (xs.set j T).getD i 0 ∧ (xs.set j T).getD i 0 < ds.getD i 0) := hide (fun i h1 h2 => by
          rw [getD_set xs j i T (by rw [unhide HLX]; exact hj)]
          split
          · rename_i e; rw [e, unhide HD]; omega
          · exact unhide HV i (by omega) h2)
        have hzz : Hid (∀ i, i < j → (xs.set j T).getD i 0 = 0) := hide (fun i hi => by
          rw [getD_set xs j i T (by rw [unhide HLX]; exact hj), if_neg (by omega)]; exact unhide HZ i (by omega))
        have hsum : Hid (at' = Q * prodL (ds.drop j) + sufM ds (xs.set j T) (ds.length - j)) := hide (by
          rw [suf_step j T hj (unhide HLX), unhide HT, unhide HDR, ← Int.mul_assoc, ← Int.add_assoc, ← Int.add_mul, unhide HQR])
        have hlt3 : ¬ A < d := hlt2
        clear HM HV HT HA HTK HDR HQR HD HZ
        go_wp2_with fail
        go_region
        go_wp2_with fail
        go_roundw
        case rel => exact ⟨j, Q, xs.set j T, by go_num, rfl, by omega, by omega, by omega, hpre, (unhide HM2).drew, hval, hzz, hsum⟩
        case measure => simp [intOf]
    · have hn0 : n = 0 := by omega
      subst hn0
      have hneg : ¬ (0 : Int) ≤ ((0 : Nat) : Int) - 1 := by omega
      have hA0 : A = 0 := by have := unhide HA; simp [prodL] at this; omega
      have hin : inR ds xs := fun i hi => unhide HV i (by omega) hi
      have hoff : offN ds xs ds.length = at' := by
        have := unhide HT
        rw [hA0, Int.zero_mul, Int.zero_add, Nat.sub_zero] at this
        rw [off_is_suf, ← this]
      have HIN := hide hin
      have HOFF := hide hoff
      clear hin hoff HT HV HA hA0 HZ
      go_wp2_with fail
      go_ret
      exact ⟨_, _, rfl, unhide HM, unhide HIN, unhide HOFF⟩

theorem size_pos {ds : List Int} {at' : Int} (h : (sizeV ds).2 = 0) (a0 : 0 ≤ at') (a1 : at' < (sizeV ds).1) : (∀ d ∈ ds, 1 ≤ d ∧ d ≤ 4096) ∧ ds.length ≤ 8 ∧ (sizeV ds).1 = prodL ds ∧ prodL ds ≤ 4096 := by
  obtain ⟨h1, h2, h3⟩ := size_ok h
  rcases h3 with ⟨_, e⟩ | ⟨z, p, e⟩
  · omega
  · exact ⟨fun d hd => by have := h1 d hd; have : d ≠ 0 := fun e => z (e ▸ hd); omega, h2, e, p⟩

set_option maxRecDepth 100000 in
set_option maxHeartbeats 4000000 in
theorem cindex_any (p : Option Addr) (cap : Nat) (ds : List Int) (at' : Int) (w : World) (h1 : Ints .i64 w p cap ds) :
    Calls Try.prog 13 #[.slice p ds.length cap, .int .i64 at'] w fun e w' => (∃ q c xs er, e = .returned (.tuple #[.slice q xs.length c, .int .i64 er]) ∧ Ints .i64 w' q c xs ∧ IndexR ds at' xs er) ∧ Below w.heap.size w w' := by
  have hl1 := h1.len
  have HSZ := hide (csize_any p cap ds w h1)
  have HCT := hide (fun (he : (sizeV ds).2 = 0) (b0 : 0 ≤ at') (b1 : at' < (sizeV ds).1) => by
    obtain ⟨g1, g2, g3, g4⟩ := size_pos he b0 b1
    exact ccounted_any p cap ds at' w h1 g1 g2 b0 (by rw [← g3]; exact b1) g4)
  obtain ⟨S, hS⟩ : ∃ S, (sizeV ds).1 = S := ⟨_, rfl⟩
  obtain ⟨E, hE⟩ : ∃ E, (sizeV ds).2 = E := ⟨_, rfl⟩
  rw [hS, hE] at HSZ HCT
  have HE := hide hE
  have HS := hide hS
  clear hE hS h1
  by_cases he : E = 0
  · by_cases hin : 0 ≤ at' ∧ at' < S
    · have HC := hide (unhide HCT he hin.1 hin.2)
      have HIN := hide hin
      subst he
      clear HCT hin
      go_enter Try.func13, Try.ntmps13
      go_wp2_with fail
      refine (unhide HSZ).mono ?_
      rintro e w1 ⟨rfl, rfl⟩
      go_wp2_with fail
      refine (within_yes _ _ _ (unhide HIN).1 (unhide HIN).2).mono ?_
      rintro e w2 ⟨rfl, rfl⟩
      go_wp2_with fail
      refine (unhide HC).mono ?_
      rintro e w3 ⟨g, xs, rfl, hM, hi1, hi2⟩
      have HM := hide hM
      have HI1 := hide hi1
      have HI2 := hide hi2
      clear hM hi1 hi2
      go_wp2_with fail
      go_ret2
      obtain ⟨q, c, hv, hI⟩ := (unhide HM).own.form
      simp only [Value.slice.injEq] at hv
      obtain ⟨rfl, e2, rfl⟩ := hv
      refine ⟨⟨_, _, xs, 0, ?_, hI, .inr (.inr ⟨unhide HE, (unhide HIN).1, by rw [unhide HS]; exact (unhide HIN).2, (unhide HM).1, unhide HI1, unhide HI2, rfl⟩)⟩, (unhide HM).2.2.1⟩
      rw [(unhide HM).1]
      rfl
    · have HIN := hide hin
      subst he
      clear HCT hin
      go_enter Try.func13, Try.ntmps13
      go_wp2_with fail
      refine (unhide HSZ).mono ?_
      rintro e w1 ⟨rfl, rfl⟩
      go_wp2_with fail
      refine (within_no _ _ _ (by have := unhide HIN; omega)).mono ?_
      rintro e w2 ⟨rfl, rfl⟩
      go_wp2_with fail
      go_ret2
      refine ⟨⟨none, 0, [], 2, rfl, nilI _, .inr (.inl ⟨unhide HE, ?_, rfl, rfl⟩)⟩, Below.refl _ _⟩
      have := unhide HIN; have := unhide HS; omega
  · have hen : ((E : Int) != 0) = true := by simp [he]
    have HNE := hide he
    clear HCT he
    go_enter Try.func13, Try.ntmps13
    go_wp2_with fail
    refine (unhide HSZ).mono ?_
    rintro e w1 ⟨rfl, rfl⟩
    go_wp2_with fail
    go_ret2
    exact ⟨⟨none, 0, [], E, rfl, nilI _, .inl ⟨by rw [unhide HE]; exact unhide HNE, rfl, (unhide HE).symm⟩⟩, Below.refl _ _⟩
end Go.Proofs.Ytgobpoaalnpagaa
