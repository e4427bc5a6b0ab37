import Derived.Test.YtgobpoaalnpagaaHF

/-
  Layer 4: where an element stands in the smaller shape: the code's and the document's.
-/
namespace Go.Proofs.Ytgobpoaalnpagaa
open Go.RowKit
set_option linter.unusedVariables false

theorem rsame_false (p q : Option Addr) (cap cap' : Nat) (xs ys : List Int) (w : World) (h1 : Ints .i64 w p cap xs) (h2 : Ints .i64 w q cap' ys) (he : ¬ xs = ys) :
    Calls Try.prog 17 #[.slice p xs.length cap, .slice q ys.length cap'] w fun e w' => e = .returned (.bool false) ∧ Below w.heap.size w w' := by
  refine (rsame_any p q cap cap' xs ys w h1 h2).mono ?_
  rintro e w1 ⟨rfl, hb⟩
  exact ⟨ret_bool (by simp [he]), hb⟩
/-- A made row, from a place on. -/
theorem MadeI.tail {w wr : World} {g n : Nat} {os ys : List Int} (h : MadeI w wr g n os) (off : Nat) (hl : off + ys.length = n) (hy : ∀ i, i < ys.length → ys.getD i 0 = os.getD (off + i) 0) : Ints .i64 wr (some ⟨g, off, none⟩) ys.length ys := by
  have ho := h.1
  have hn : n ≤ 9223372036854775807 := by
    obtain ⟨q, c, hv, hI⟩ := h.own.form
    have := hI.len; omega
  have hg : ∀ i, i < ys.length → g < wr.heap.size := fun i hi => (h.2.1.lt g rfl).2
  refine ⟨Nat.le_refl _, by omega, fun x hx => ?_, fun hp => ⟨g, off, rfl, hg 0 hp, fun i hi => ?_⟩, fun h => by cases h⟩
  · obtain ⟨i, hi, e⟩ := List.getElem_of_mem hx
    have e2 : ys.getD i 0 = x := by rw [← e]; simp [List.getElem?_eq_getElem hi]
    rw [← e2, hy i hi]
    exact h.2.2.2.1 _ (getD_mem (by omega))
  · rw [h.cell (off + i) (by omega), hy i hi]
theorem off_small {ds ix : List Int} (hp : ∀ d ∈ ds, 1 ≤ d) (h4 : prodL ds ≤ 4096) (h : inR ds ix) : wrap64 (offN ds ix ds.length) = offN ds ix ds.length := by
  obtain ⟨o1, o2⟩ := offN_lt hp h ds.length (Nat.le_refl _)
  rw [List.take_length] at o2
  unfold wrap64; omega
/-- What goes out to a shape without a nought has none itself. -/
theorem spread_pos {sm ds : List Int} (hs : spreadsP sm ds) (hd : ∀ d ∈ ds, 1 ≤ d) : ∀ d ∈ sm, 1 ≤ d := by
  intro d hm
  obtain ⟨i, hi, e⟩ := List.getElem_of_mem hm
  have e2 : sm.getD i 0 = d := by rw [← e]; simp [List.getElem?_eq_getElem hi]
  have hk := hs.2 (sm.length - 1 - i) (by omega)
  have h1 := hs.1
  unfold dimV at hk
  rw [if_neg (by omega), if_neg (by omega), show sm.length - 1 - (sm.length - 1 - i) = i by omega, e2] at hk
  rcases hk with hk | hk
  · omega
  · rw [hk]; exact hd _ (getD_mem (by omega))
theorem size_small {sm : List Int} (h : (sizeV sm).2 = 0) (hp : ∀ d ∈ sm, 1 ≤ d) : prodL sm ≤ 4096 := by
  obtain ⟨h1, h2, h3⟩ := size_ok h
  rcases h3 with ⟨z, _⟩ | ⟨z, p, e⟩
  · have := hp 0 z; omega
  · exact p

set_option maxRecDepth 100000 in
set_option maxHeartbeats 8000000 in
theorem cfrom_nil (p q : Option Addr) (cap cap' : Nat) (ds : List Int) (at' : Int) (w : World) (h1 : Ints .i64 w p cap []) (h2 : Ints .i64 w q cap' ds)
    (ed : (sizeV ds).2 = 0) (a0 : 0 ≤ at') (a1 : at' < (sizeV ds).1) :
    Calls Try.prog 21 #[.slice p 0 cap, .slice q ds.length cap', .int .i64 at'] w fun e w' => (∃ r er, e = .returned (.tuple #[.int .i64 r, .int .i64 er]) ∧ FromR [] ds at' r er) ∧ Below w.heap.size w w' := by
  obtain ⟨g1, g2, g3, g4⟩ := size_pos ed a0 a1
  have es : (sizeV []).2 = 0 := by decide
  have hs : spreadsP [] ds := ⟨by simp, fun k hk => by simp at hk⟩
  have SA := hide (csize_any p cap [] w h1)
  have SB := hide (csize_any q cap' ds w h2)
  have SP := hide (cspreads_any p q cap cap' [] ds w h1 h2 (by simp))
  have CT := hide (ccounted_any q cap' ds at' w h2 g1 g2 a0 (by rw [← g3]; exact a1) g4)
  rw [es] at SA
  rw [ed] at SB
  rw [spreadsB_yes hs] at SP
  rw [List.length_nil] at SA SP
  have HIN := hide (And.intro a0 a1)
  have H1 := hide h1
  have ED := hide ed
  have HS := hide hs
  have ES := hide es
  obtain ⟨Na, hNa⟩ : ∃ S, (sizeV []).1 = S := ⟨_, rfl⟩
  obtain ⟨Nb, hNb⟩ : ∃ S, (sizeV ds).1 = S := ⟨_, rfl⟩
  rw [hNa] at SA
  rw [hNb] at SB HIN
  have HNB := hide hNb
  clear hNa hNb g1 g3 g4 a0 a1 h1 h2 es ed hs
  go_enter Try.func21, Try.ntmps21
  go_wp2_with fail
  refine (unhide SA).mono ?_
  rintro e w1 ⟨rfl, rfl⟩
  go_wp2_with fail
  refine (unhide SB).mono ?_
  rintro e w2 ⟨rfl, rfl⟩
  go_wp2_with fail
  refine (unhide SP).mono ?_
  rintro e w3 ⟨rfl, rfl⟩
  go_wp2_with fail
  refine (within_yes _ _ _ (unhide HIN).1 (unhide HIN).2).mono ?_
  rintro e w4 ⟨rfl, rfl⟩
  go_wp2_with fail
  refine (unhide CT).mono ?_
  rintro e w5 ⟨g, xs, rfl, hM, hi1, hi2⟩
  have HM0 := hide hM
  have HI1 := hide hi1
  have HI2 := hide hi2
  have hl0 : ((ds.length : Int) - 0 = (ds.length : Int)) := by omega
  clear hM hi1 hi2 SA SB SP CT
  go_wp2_with fail
  go_loop [53] (fun iv => iv = .int .i64 0) (fun iv => 0)
  case atStart => rfl
  case round =>
    subst hrel
    have CP := hide (cplace_any p (some ⟨g, 0, none⟩) cap 0 [] [] w5 ((unhide H1).below (unhide HM0).2.2.1) ⟨by simp, by omega, by simp, by simp, fun h => by cases h⟩ rfl)
    have e0 : wrap64 (offN [] [] ([] : List Int).length) = 0 := by simp [offN, wrap64]
    rw [e0, List.length_nil] at CP
    clear e0
    go_wp2_with fail
    refine (unhide CP).mono ?_
    rintro e w6 ⟨rfl, rfl⟩
    go_wp2_with fail
    go_ret2
    exact ⟨⟨_, _, rfl, .inr (.inr (.inr (.inr ⟨unhide ES, unhide ED, unhide HS, (unhide HIN).1, by rw [unhide HNB]; exact (unhide HIN).2, ⟨xs, (unhide HM0).1, unhide HI1, unhide HI2, rfl⟩, rfl⟩)))⟩, (unhide HM0).2.2.1⟩

set_option maxRecDepth 100000 in
set_option maxHeartbeats 8000000 in
theorem cfrom_in (p q : Option Addr) (cap cap' : Nat) (sm ds : List Int) (at' : Int) (w : World) (h1 : Ints .i64 w p cap sm) (h2 : Ints .i64 w q cap' ds)
    (es : (sizeV sm).2 = 0) (ed : (sizeV ds).2 = 0) (hs : spreadsP sm ds) (hsl : 0 < sm.length) (a0 : 0 ≤ at') (a1 : at' < (sizeV ds).1) :
    Calls Try.prog 21 #[.slice p sm.length cap, .slice q ds.length cap', .int .i64 at'] w fun e w' => (∃ r er, e = .returned (.tuple #[.int .i64 r, .int .i64 er]) ∧ FromR sm ds at' r er) ∧ Below w.heap.size w w' := by
  obtain ⟨g1, g2, g3, g4⟩ := size_pos ed a0 a1
  obtain ⟨k1, k2, _⟩ := size_ok es
  have SA := hide (csize_any p cap sm w h1)
  have SB := hide (csize_any q cap' ds w h2)
  have SP := hide (cspreads_any p q cap cap' sm ds w h1 h2 k2)
  have CT := hide (ccounted_any q cap' ds at' w h2 g1 g2 a0 (by rw [← g3]; exact a1) g4)
  rw [es] at SA
  rw [ed] at SB
  rw [spreadsB_yes hs] at SP
  have hle := hs.1
  have hsp := spread_pos hs (fun d hd => (g1 d hd).1)
  have HSM := hide (size_small es hsp)
  have HSP := hide hsp
  have HS := hide hs
  have HIN := hide (And.intro a0 a1)
  have H1 := hide h1
  have H2 := hide h2
  have ES := hide es
  have ED := hide ed
  obtain ⟨Na, hNa⟩ : ∃ S, (sizeV sm).1 = S := ⟨_, rfl⟩
  obtain ⟨Nb, hNb⟩ : ∃ S, (sizeV ds).1 = S := ⟨_, rfl⟩
  rw [hNa] at SA
  rw [hNb] at SB HIN
  have HNB := hide hNb
  obtain ⟨off, hoff⟩ : ∃ off, ds.length - sm.length = off := ⟨_, rfl⟩
  have hoi : (ds.length : Int) - (sm.length : Int) = (off : Int) := by omega
  have hol : (off : Int) < (ds.length : Int) := by omega
  have hcl : ds.length - off = sm.length := by omega
  have HOFF := hide hoff
  have HCL := hide hcl
  clear hNa hNb g1 g3 g4 k1 hsp hs a0 a1 h1 h2 es ed hoff hcl
  go_enter Try.func21, Try.ntmps21
  go_wp2_with fail
  refine (unhide SA).mono ?_
  rintro e w1 ⟨rfl, rfl⟩
  go_wp2_with fail
  refine (unhide SB).mono ?_
  rintro e w2 ⟨rfl, rfl⟩
  go_wp2_with fail
  refine (unhide SP).mono ?_
  rintro e w3 ⟨rfl, rfl⟩
  go_wp2_with fail
  refine (within_yes _ _ _ (unhide HIN).1 (unhide HIN).2).mono ?_
  rintro e w4 ⟨rfl, rfl⟩
  go_wp2_with fail
  refine (unhide CT).mono ?_
  rintro e w5 ⟨g, xs, rfl, hM, hi1, hi2⟩
  have HM0 := hide hM
  have HI1 := hide hi1
  have HI2 := hide hi2
  have hgb : w4.heap.size ≤ g := hM.2.2.2.2
  clear hM hi1 hi2 SA SB SP CT
  go_wp2_with fail
  rw [unhide HCL]
  go_loopw [53] (fun iv wr => ∃ n : Nat, ∃ ys : List Int, iv = .int .i64 n ∧ n ≤ sm.length ∧ MadeI w4 wr g ds.length ys ∧ Hid (∀ i, i < n → ys.getD (off + i) 0 = (maskL sm xs off).getD i 0) ∧ Hid (∀ i, n ≤ i → ys.getD (off + i) 0 = xs.getD (off + i) 0)) (fun iv _ => sm.length - (intOf iv).toNat)
  case atStart => exact ⟨0, xs, rfl, by omega, unhide HM0, hide (fun i hi => by omega), hide (fun i _ => rfl)⟩
  case round =>
    obtain ⟨n, ys, rfl, hn, hM, HV, HR⟩ := hrel
    have HM := hide hM
    clear hM
    by_cases hlt : n < sm.length
    · have hi : (n : Int) < (sm.length : Int) := by omega
      obtain ⟨b, o, rfl, hb, hc⟩ := (unhide H1).lies (by omega)
      have hcell : wr.cell? ⟨b, o + n, none⟩ = some (.int .i64 (sm.getD n 0)) := ((unhide HM).2.2.1.cell (p := ⟨b, o + n, none⟩) hb).trans (hc n hlt)
      have hol2 : off + n < ds.length := by have := unhide HCL; omega
      have c3 := (unhide HM).cell (off + n) hol2
      have z3 : wr.frozen? ⟨g, off + n, none⟩ = false := (unhide HM).2.1.frozenAt (off + n)
      have HMG : Hid ((maskL sm xs off).getD n 0 = if sm.getD n 0 = 1 then 0 else xs.getD (off + n) 0) := hide (maskL_getD sm xs off n hlt)
      have HYN := hide (unhide HR n (Nat.le_refl _))
      have HST := hide ((unhide HM).stored (off + n) 0 (by decide))
      have HLY := hide (unhide HM).1
      have HV1 : Hid (ys.getD (off + n) 0 = (maskL sm xs off).getD n 0 → ∀ i, i < n + 1 → ys.getD (off + i) 0 = (maskL sm xs off).getD i 0) := hide (fun h i hi => by
        rcases Nat.lt_or_ge i n with g | g
        · exact unhide HV i g
        · have : i = n := by omega
          subst this; exact h)
      have HV2 : Hid ((maskL sm xs off).getD n 0 = 0 → ∀ i, i < n + 1 → (ys.set (off + n) 0).getD (off + i) 0 = (maskL sm xs off).getD i 0) := hide (fun h i hi => by
        rw [getD_set ys (off + n) (off + i) 0 (by rw [unhide HLY]; exact hol2)]
        by_cases e : i = n
        · subst e; rw [if_pos rfl, h]
        · rw [if_neg (by omega)]; exact unhide HV i (by omega))
      have HR2 : Hid (∀ i, n + 1 ≤ i → (ys.set (off + n) 0).getD (off + i) 0 = xs.getD (off + i) 0) := hide (fun i hi => by
        rw [getD_set ys (off + n) (off + i) 0 (by rw [unhide HLY]; exact hol2), if_neg (by omega)]; exact unhide HR i (by omega))
      have HR1 : Hid (∀ i, n + 1 ≤ i → ys.getD (off + i) 0 = xs.getD (off + i) 0) := hide (fun i hi => unhide HR i (by omega))
      clear hc HV HR
      generalize sm.getD n 0 = d at hcell HMG
      by_cases hd : d = 1
      · subst hd
        have HV3 := hide (unhide HV2 (by rw [unhide HMG, if_pos rfl]))
        clear HV1 HV2 HR1 HYN HMG HM
        go_wp2_with fail
        go_roundw
        case rel => exact ⟨n + 1, ys.set (off + n) 0, by go_num, by omega, unhide HST, HV3, HR2⟩
        case measure => simp [intOf]; omega
      · have hdb : (d == 1) = false := by simp [hd]
        have HV3 := hide (unhide HV1 (by rw [unhide HYN, unhide HMG, if_neg hd]))
        clear HV1 HV2 HR2 HYN HMG HST hd
        go_wp2_with fail
        go_roundw
        case rel => exact ⟨n + 1, ys, by go_num, by omega, unhide HM, HV3, HR1⟩
        case measure => simp [intOf]; omega
    · have hi : ¬ (n : Int) < (sm.length : Int) := by omega
      have hml := maskL_length sm xs off
      have hin := mask_in (unhide HS) (unhide HSP) (unhide HM0).1 (unhide HI1)
      rw [unhide HOFF] at hin
      have hTI : Ints .i64 wr (some ⟨g, off, none⟩) (maskL sm xs off).length (maskL sm xs off) := (unhide HM).tail off (by rw [hml]; have := unhide HCL; omega) (fun i hi => (unhide HV i (by omega)).symm)
      have CP := hide (cplace_any p (some ⟨g, off, none⟩) cap (maskL sm xs off).length sm (maskL sm xs off) wr ((unhide H1).below (unhide HM).2.2.1) hTI hml)
      rw [off_small (unhide HSP) (unhide HSM) hin, hml] at CP
      have HBL := hide (unhide HM).2.2.1
      clear hml hin hTI HV HR HM
      go_wp2_with fail
      refine (unhide CP).mono ?_
      rintro e w6 ⟨rfl, rfl⟩
      go_wp2_with fail
      go_ret2
      refine ⟨⟨_, _, rfl, .inr (.inr (.inr (.inr ⟨unhide ES, unhide ED, unhide HS, (unhide HIN).1, by rw [unhide HNB]; exact (unhide HIN).2, ⟨xs, (unhide HM0).1, unhide HI1, unhide HI2, ?_⟩, rfl⟩)))⟩, unhide HBL⟩
      rw [unhide HOFF]

set_option maxRecDepth 100000 in
set_option maxHeartbeats 8000000 in
theorem cfrom_any (p q : Option Addr) (cap cap' : Nat) (sm ds : List Int) (at' : Int) (w : World) (h1 : Ints .i64 w p cap sm) (h2 : Ints .i64 w q cap' ds) :
    Calls Try.prog 21 #[.slice p sm.length cap, .slice q ds.length cap', .int .i64 at'] w fun e w' => (∃ r er, e = .returned (.tuple #[.int .i64 r, .int .i64 er]) ∧ FromR sm ds at' r er) ∧ Below w.heap.size w w' := by
  have SA := hide (csize_any p cap sm w h1)
  have SB := hide (csize_any q cap' ds w h2)
  by_cases es : (sizeV sm).2 = 0
  · by_cases ed : (sizeV ds).2 = 0
    · obtain ⟨k1, k2, _⟩ := size_ok es
      have SP := hide (cspreads_any p q cap cap' sm ds w h1 h2 k2)
      rw [es] at SA
      rw [ed] at SB
      by_cases hs : spreadsP sm ds
      · by_cases hin : 0 ≤ at' ∧ at' < (sizeV ds).1
        · rcases Nat.eq_zero_or_pos sm.length with z | z
          · have := List.eq_nil_of_length_eq_zero z
            subst this
            exact cfrom_nil p q cap cap' ds at' w h1 h2 ed hin.1 hin.2
          · exact cfrom_in p q cap cap' sm ds at' w h1 h2 es ed hs z hin.1 hin.2
        · rw [spreadsB_yes hs] at SP
          have HIN := hide hin
          have HS := hide hs
          have ES := hide es
          have ED := hide ed
          obtain ⟨Na, hNa⟩ : ∃ S, (sizeV sm).1 = S := ⟨_, rfl⟩
          obtain ⟨Nb, hNb⟩ : ∃ S, (sizeV ds).1 = S := ⟨_, rfl⟩
          rw [hNa] at SA
          rw [hNb] at SB
          have HNB := hide hNb
          clear es ed h1 h2 k1 k2 hs hin hNa hNb
          go_enter Try.func21, Try.ntmps21
          go_wp2_with fail
          refine (unhide SA).mono ?_
          rintro e w1 ⟨rfl, rfl⟩
          go_wp2_with fail
          refine (unhide SB).mono ?_
          rintro e w2 ⟨rfl, rfl⟩
          go_wp2_with fail
          refine (unhide SP).mono ?_
          rintro e w3 ⟨rfl, rfl⟩
          go_wp2_with fail
          refine (within_no _ _ _ (by have h := unhide HIN; rw [unhide HNB] at h; omega)).mono ?_
          rintro e w4 ⟨rfl, rfl⟩
          go_wp2_with fail
          go_ret2
          exact ⟨⟨_, _, rfl, .inr (.inr (.inr (.inl ⟨unhide ES, unhide ED, unhide HS, by have h := unhide HIN; omega, rfl, rfl⟩)))⟩, Below.refl _ _⟩
      · rw [spreadsB_no hs] at SP
        have HS := hide hs
        have ES := hide es
        have ED := hide ed
        obtain ⟨Na, hNa⟩ : ∃ S, (sizeV sm).1 = S := ⟨_, rfl⟩
        obtain ⟨Nb, hNb⟩ : ∃ S, (sizeV ds).1 = S := ⟨_, rfl⟩
        rw [hNa] at SA
        rw [hNb] at SB
        clear es ed h1 h2 k1 k2 hs hNa hNb
        go_enter Try.func21, Try.ntmps21
        go_wp2_with fail
        refine (unhide SA).mono ?_
        rintro e w1 ⟨rfl, rfl⟩
        go_wp2_with fail
        refine (unhide SB).mono ?_
        rintro e w2 ⟨rfl, rfl⟩
        go_wp2_with fail
        refine (unhide SP).mono ?_
        rintro e w3 ⟨rfl, rfl⟩
        go_wp2_with fail
        go_ret2
        exact ⟨⟨_, _, rfl, .inr (.inr (.inl ⟨unhide ES, unhide ED, unhide HS, rfl, rfl⟩))⟩, Below.refl _ _⟩
    · rw [es] at SA
      have ES := hide es
      have ED := hide ed
      obtain ⟨Na, hNa⟩ : ∃ S, (sizeV sm).1 = S := ⟨_, rfl⟩
      obtain ⟨Nb, hNb⟩ : ∃ S, (sizeV ds).1 = S := ⟨_, rfl⟩
      obtain ⟨E, hE⟩ : ∃ E, (sizeV ds).2 = E := ⟨_, rfl⟩
      rw [hNa] at SA
      rw [hNb, hE] at SB
      have hne : (E != 0) = true := by rw [hE] at ed; simp [ed]
      have HE := hide hE
      clear es ed h1 h2 hNa hNb hE
      go_enter Try.func21, Try.ntmps21
      go_wp2_with fail
      refine (unhide SA).mono ?_
      rintro e w1 ⟨rfl, rfl⟩
      go_wp2_with fail
      refine (unhide SB).mono ?_
      rintro e w2 ⟨rfl, rfl⟩
      go_wp2_with fail
      go_ret2
      exact ⟨⟨_, _, rfl, .inr (.inl ⟨unhide ES, unhide ED, rfl, (unhide HE).symm⟩)⟩, Below.refl _ _⟩
  · have ES := hide es
    obtain ⟨Na, hNa⟩ : ∃ S, (sizeV sm).1 = S := ⟨_, rfl⟩
    obtain ⟨E, hE⟩ : ∃ E, (sizeV sm).2 = E := ⟨_, rfl⟩
    rw [hNa, hE] at SA
    have hne : (E != 0) = true := by rw [hE] at es; simp [es]
    have HE := hide hE
    clear es h1 h2 hNa hE
    go_enter Try.func21, Try.ntmps21
    go_wp2_with fail
    refine (unhide SA).mono ?_
    rintro e w1 ⟨rfl, rfl⟩
    go_wp2_with fail
    go_ret2
    exact ⟨⟨_, _, rfl, .inl ⟨unhide ES, rfl, (unhide HE).symm⟩⟩, Below.refl _ _⟩
end Go.Proofs.Ytgobpoaalnpagaa
