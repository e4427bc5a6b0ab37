import Derived.Test.YtgobpoaalnpagaaHE

/-
  Layer 4: what two shapes come to, in the code.
-/
namespace Go.Proofs.Ytgobpoaalnpagaa
open Go.RowKit
set_option linter.unusedVariables false

set_option maxRecDepth 100000 in
set_option maxHeartbeats 1000000 in
theorem cend_any (p : Option Addr) (cap : Nat) (ds : List Int) (k : Nat) (hk : k ≤ 1000) (w : World) (h : Ints .i64 w p cap ds) :
    Calls Try.prog 28 #[.slice p ds.length cap, .int .i64 ((k : Int) + 1)] w fun e w' => e = .returned (.int .i64 (dimV ds k)) ∧ w' = w := by
  have hl := h.len
  unfold dimV
  by_cases hb : ds.length ≤ k
  · rw [if_pos hb]
    have hbi : (ds.length : Int) < (k : Int) + 1 := by omega
    clear h
    go_enter Try.func28, Try.ntmps28
    go_wp2_with fail
    go_ret
    exact ⟨rfl, rfl⟩
  · rw [if_neg hb]
    have hbi : ¬ (ds.length : Int) < (k : Int) + 1 := by omega
    obtain ⟨b, o, rfl, hb1, hc⟩ := h.lies (by omega)
    have hcell := hc (ds.length - 1 - k) (by omega)
    obtain ⟨j, hj⟩ : ∃ j, ds.length - 1 - k = j := ⟨_, rfl⟩
    have hji : (ds.length : Int) - ((k : Int) + 1) = (j : Int) := by omega
    have hjl : (j : Int) < (ds.length : Int) := by omega
    rw [hj] at hcell ⊢
    clear hc h hj
    generalize ds.getD j 0 = d at hcell ⊢
    go_enter Try.func28, Try.ntmps28
    go_wp2_with fail
    go_ret
    exact ⟨rfl, rfl⟩

def spreadsB (sm ds : List Int) : Bool := decide (sm.length ≤ ds.length) && (List.range sm.length).all fun k => dimV sm k == 1 || dimV sm k == dimV ds k
theorem spreadsB_iff (sm ds : List Int) : spreadsB sm ds = true ↔ spreadsP sm ds := by
  unfold spreadsB spreadsP
  simp
theorem spreadsB_yes {sm ds : List Int} (h : spreadsP sm ds) : spreadsB sm ds = true := (spreadsB_iff sm ds).2 h
theorem spreadsB_no {sm ds : List Int} (h : ¬ spreadsP sm ds) : spreadsB sm ds = false := by
  rcases Bool.eq_false_or_eq_true (spreadsB sm ds) with g | g
  · exact absurd ((spreadsB_iff sm ds).1 g) h
  · exact g
set_option maxRecDepth 100000 in
set_option maxHeartbeats 2000000 in
theorem cspreads_any (p q : Option Addr) (cap cap' : Nat) (sm ds : List Int) (w : World) (h1 : Ints .i64 w p cap sm) (h2 : Ints .i64 w q cap' ds) (h8 : sm.length ≤ 8) :
    Calls Try.prog 30 #[.slice p sm.length cap, .slice q ds.length cap'] w fun e w' => e = .returned (.bool (spreadsB sm ds)) ∧ w' = w := by
  have hl2 := h2.len
  have H1 := hide h1
  have H2 := hide h2
  clear h1 h2
  by_cases hl : ds.length < sm.length
  · have hli : (ds.length : Int) < (sm.length : Int) := by omega
    have HL := hide hl
    clear hl
    go_enter Try.func30, Try.ntmps30
    go_wp2_with fail
    go_ret
    exact ⟨ret_bool (spreadsB_no (fun h => by have := h.1; have := unhide HL; omega)).symm, rfl⟩
  · have hli : ¬ (ds.length : Int) < (sm.length : Int) := by omega
    go_enter Try.func30, Try.ntmps30
    go_wp2_with fail
    go_loop [5] (fun iv => ∃ n : Nat, iv = .int .i64 ((n : Int) + 1) ∧ n ≤ sm.length ∧ Hid (∀ k, k < n → dimV sm k = 1 ∨ dimV sm k = dimV ds k)) (fun iv => sm.length + 1 - (intOf iv).toNat)
    case atStart => exact ⟨0, rfl, by omega, hide (fun k hk => by omega)⟩
    case round =>
      obtain ⟨n, rfl, hn, HV⟩ := hrel
      by_cases hlt : n < sm.length
      · have hi : (n : Int) + 1 ≤ (sm.length : Int) := by omega
        have CA := hide (cend_any p cap sm n (by omega) w (unhide H1))
        have CB := hide (cend_any q cap' ds n (by omega) w (unhide H2))
        have HNI : Hid (¬ (dimV sm n = 1 ∨ dimV sm n = dimV ds n) → ¬ spreadsP sm ds) := hide (fun h k => h (k.2 n hlt))
        have HV2 : Hid ((dimV sm n = 1 ∨ dimV sm n = dimV ds n) → ∀ k, k < n + 1 → dimV sm k = 1 ∨ dimV sm k = dimV ds k) := hide (fun h i hi => by
          rcases Nat.lt_or_ge i n with g | g
          · exact unhide HV i g
          · have : i = n := by omega
            subst this; exact h)
        clear HV
        generalize dimV sm n = x at CA HNI HV2
        generalize dimV ds n = y at CB HNI HV2
        rcases (show x = 1 ∨ (x ≠ 1 ∧ x = y) ∨ (x ≠ 1 ∧ x ≠ y) by omega) with g | ⟨g, g2⟩ | ⟨g, g2⟩
        · have HV3 := hide (unhide HV2 (.inl g))
          subst g
          clear HNI HV2
          go_wp2_with fail
          refine (unhide CA).mono ?_
          rintro e u1 ⟨rfl, rfl⟩
          go_wp2_with fail
          go_round
          case rel => exact ⟨n + 1, by go_num, by omega, HV3⟩
          case measure => simp [intOf]; omega
        · have HV3 := hide (unhide HV2 (.inr g2))
          have e1 : (x != 1) = true := by simp [g]
          subst g2
          clear HNI HV2 g
          go_wp2_with fail
          refine (unhide CA).mono ?_
          rintro e u1 ⟨rfl, rfl⟩
          go_wp2_with fail
          refine (unhide CB).mono ?_
          rintro e u2 ⟨rfl, rfl⟩
          go_wp2_with fail
          go_round
          case rel => exact ⟨n + 1, by go_num, by omega, HV3⟩
          case measure => simp [intOf]; omega
        · have HNO := hide (unhide HNI (by omega))
          have e1 : (x != 1) = true := by simp [g]
          have e2 : (x != y) = true := by simp [g2]
          clear HNI HV2 g g2
          go_wp2_with fail
          refine (unhide CA).mono ?_
          rintro e u1 ⟨rfl, rfl⟩
          go_wp2_with fail
          refine (unhide CB).mono ?_
          rintro e u2 ⟨rfl, rfl⟩
          go_wp2_with fail
          go_ret
          exact ⟨ret_bool (spreadsB_no (unhide HNO)).symm, rfl⟩
      · have hi : ¬ (n : Int) + 1 ≤ (sm.length : Int) := by omega
        have hs : spreadsP sm ds := ⟨by omega, fun k hk => unhide HV k (by omega)⟩
        have HS := hide hs
        clear hs
        go_wp2_with fail
        go_ret
        exact ⟨ret_bool (spreadsB_yes (unhide HS)).symm, rfl⟩

set_option maxRecDepth 100000 in
set_option maxHeartbeats 8000000 in
theorem cbroad_ok (p q : Option Addr) (cap cap' R : Nat) (a b : List Int) (w : World) (h1 : Ints .i64 w p cap a) (h2 : Ints .i64 w q cap' b) (ea : (sizeV a).2 = 0) (eb : (sizeV b).2 = 0)
    (hR : (a.length < b.length ∧ R = b.length) ∨ (b.length < a.length ∧ R = a.length) ∨ (a.length = b.length ∧ R = a.length)) :
    Calls Try.prog 19 #[.slice p a.length cap, .slice q b.length cap'] w fun e w' => (∃ s c xs er, e = .returned (.tuple #[.slice s xs.length c, .int .i64 er]) ∧ Ints .i64 w' s c xs ∧ BroadR a b xs er) ∧ Below w.heap.size w w' := by
  obtain ⟨ha, ha8, _⟩ := size_ok ea
  obtain ⟨hb, hb8, _⟩ := size_ok eb
  obtain ⟨i0, hi, hz0, hz1, hz2⟩ := info_parts Try.infoInt
  have hRr : rankOf a b = R := by unfold rankOf; omega
  have SA := hide (csize_any p cap a w h1)
  have SB := hide (csize_any q cap' b w h2)
  rw [ea] at SA
  rw [eb] at SB
  obtain ⟨na, hna⟩ : ∃ n, (sizeV a).1 = n := ⟨_, rfl⟩
  obtain ⟨nb, hnb⟩ : ∃ n, (sizeV b).1 = n := ⟨_, rfl⟩
  rw [hna] at SA
  rw [hnb] at SB
  have H1 := hide h1
  have H2 := hide h2
  have HA := hide ha
  have HB := hide hb
  have HRR := hide hRr
  have EA := hide ea
  have EB := hide eb
  have hR8 : R ≤ 8 := by omega
  clear h1 h2 ha hb ea eb hna hnb hRr
  rcases hR with ⟨hlt, hRe⟩ | ⟨hlt, hRe⟩ | ⟨hlt, hRe⟩
  · have HRE := hide hRe
    have hlx : (a.length : Int) < (b.length : Int) := by omega
    have HLT := hide hlt
    clear hRe hlt
    go_enter Try.func19, Try.ntmps19
    go_wp2_with fail
    refine (unhide SA).mono ?_
    rintro e w1 ⟨rfl, rfl⟩
    go_wp2_with fail
    refine (unhide SB).mono ?_
    rintro e w2 ⟨rfl, rfl⟩
    go_wp2_with (at_make; refine wpList_make_full _ rfl _ _ 22 rfl w2.heap.size 3 i0 (.int .i64 0) 1 Try.underlying22 hi hz0 hz1 _ _ _ _ R rfl rfl (by have := unhide HRE; omega) (by have := unhide HRE; omega) (by rw [hz2]; omega) (by unfold maxLen; omega) (Nat.le_refl _) ?_; intro w3 hown hgrow)
    have HM0 := hide (MadeI.first hown hgrow)
    clear hown hgrow hlx
    go_loopw [11] (fun iv wr => ∃ n : Nat, ∃ xs : List Int, iv = .int .i64 ((n : Int) + 1) ∧ n ≤ R ∧ MadeI w2 wr w2.heap.size R xs ∧ Hid (∀ i, i < n → dimV a i = dimV b i ∨ dimV a i = 1 ∨ dimV b i = 1) ∧ Hid (∀ i, i < n → xs.getD (R - 1 - i) 0 = bcD a b i)) (fun iv _ => R + 1 - (intOf iv).toNat)
    case atStart => exact ⟨0, List.replicate R 0, rfl, by omega, unhide HM0, hide (fun i hi => by omega), hide (fun i hi => by omega)⟩
    case round =>
      obtain ⟨n, xs, rfl, hn, hM, HF, HX⟩ := hrel
      have HM := hide hM
      clear hM
      by_cases hlt2 : n < R
      · have hni : (n : Int) + 1 ≤ (R : Int) := by omega
        have CA := hide (cend_any p cap a n (by omega) wr ((unhide H1).below (unhide HM).2.2.1))
        have CB := hide (cend_any q cap' b n (by omega) wr ((unhide H2).below (unhide HM).2.2.1))
        obtain ⟨x0, x1⟩ := dimV_range (unhide HA) n
        obtain ⟨y0, y1⟩ := dimV_range (unhide HB) n
        have HBC : Hid (bcD a b n = if dimV a n = 1 then dimV b n else dimV a n) := hide rfl
        have HNF : Hid (¬ (dimV a n = dimV b n ∨ dimV a n = 1 ∨ dimV b n = 1) → ¬ fits a b) := hide (fun h k => h (k n (by rw [unhide HRR]; exact hlt2)))
        have HF2 : Hid ((dimV a n = dimV b n ∨ dimV a n = 1 ∨ dimV b n = 1) → ∀ i, i < n + 1 → dimV a i = dimV b i ∨ dimV a i = 1 ∨ dimV b i = 1) := hide (fun h i hi => by
          rcases Nat.lt_or_ge i n with g | g
          · exact unhide HF i g
          · have : i = n := by omega
            subst this; exact h)
        obtain ⟨j, hj⟩ : ∃ j, R - 1 - n = j := ⟨_, rfl⟩
        have hjl : j < R := by omega
        have c3 := (unhide HM).cell j hjl
        have z3 : wr.frozen? ⟨w2.heap.size, j, none⟩ = false := (unhide HM).2.1.frozenAt j
        have hji : (R : Int) - ((n : Int) + 1) = (j : Int) := by omega
        have hjri : (j : Int) < (R : Int) := by omega
        have HX2 : ∀ d, d = bcD a b n → ∀ i, i < n + 1 → (xs.set j d).getD (R - 1 - i) 0 = bcD a b i := fun d hd i hi => by
          rw [getD_set xs j (R - 1 - i) d (by rw [(unhide HM).1]; exact hjl)]
          by_cases e : i = n
          · subst e; rw [if_pos hj, hd]
          · rw [if_neg (by omega)]; exact unhide HX i (by omega)
        have HXX := hide HX2
        have HWF : ∀ d : Int, 0 ≤ d → d ≤ 4096 → (Lit.int .i64 d).wf = true := fun d h1 h2 => WalkArith.wf_i64 (by omega)
        have HST := hide (fun d (h1 : 0 ≤ d) (h2 : d ≤ 4096) => (unhide HM).stored j d (HWF d h1 h2))
        clear HX2 HWF hj HF HX
        generalize dimV a n = x at CA x0 x1 HBC HNF HF2
        generalize dimV b n = y at CB y0 y1 HBC HNF HF2
        rcases (show x = y ∨ (x ≠ y ∧ y = 1) ∨ (x ≠ y ∧ y ≠ 1 ∧ x = 1) ∨ (x ≠ y ∧ x ≠ 1 ∧ y ≠ 1) by omega) with g1 | ⟨g1, g2⟩ | ⟨g1, g2, g3⟩ | ⟨g1, g2, g3⟩
        · subst g1
          have HF3 := hide (unhide HF2 (.inl rfl))
          have HB2 := hide (unhide HXX (x) (by rw [unhide HBC]; split <;> rfl))
          have HM2 := hide (unhide HST (x) (by omega) (by omega))
          clear HNF HF2 HXX HST HBC HM
          go_wp2_with fail
          refine (unhide CA).mono ?_
          rintro e u1 ⟨rfl, rfl⟩
          go_wp2_with fail
          refine (unhide CB).mono ?_
          rintro e u2 ⟨rfl, rfl⟩
          go_wp2_with fail
          go_roundw
          case rel => exact ⟨n + 1, xs.set j (x), by go_num, by omega, unhide HM2, HF3, HB2⟩
          case measure => simp [intOf]; omega
        · have e1 : (x == y) = false := by simp [g1]
          subst g2
          have HF3 := hide (unhide HF2 (.inr (.inr rfl)))
          have HB2 := hide (unhide HXX (x) (by rw [unhide HBC]; rw [if_neg g1]))
          have HM2 := hide (unhide HST (x) (by omega) (by omega))
          clear HNF HF2 HXX HST HBC HM
          go_wp2_with fail
          refine (unhide CA).mono ?_
          rintro e u1 ⟨rfl, rfl⟩
          go_wp2_with fail
          refine (unhide CB).mono ?_
          rintro e u2 ⟨rfl, rfl⟩
          go_wp2_with fail
          go_roundw
          case rel => exact ⟨n + 1, xs.set j (x), by go_num, by omega, unhide HM2, HF3, HB2⟩
          case measure => simp [intOf]; omega
        · have e1 : (x == y) = false := by simp [g1]
          have e2 : (y == 1) = false := by simp [g2]
          subst g3
          have HF3 := hide (unhide HF2 (.inr (.inl rfl)))
          have HB2 := hide (unhide HXX (y) (by rw [unhide HBC]; rw [if_pos rfl]))
          have HM2 := hide (unhide HST (y) (by omega) (by omega))
          clear HNF HF2 HXX HST HBC HM
          go_wp2_with fail
          refine (unhide CA).mono ?_
          rintro e u1 ⟨rfl, rfl⟩
          go_wp2_with fail
          refine (unhide CB).mono ?_
          rintro e u2 ⟨rfl, rfl⟩
          go_wp2_with fail
          go_roundw
          case rel => exact ⟨n + 1, xs.set j (y), by go_num, by omega, unhide HM2, HF3, HB2⟩
          case measure => simp [intOf]; omega
        · have e1 : (x == y) = false := by simp [g1]
          have e2 : (x == 1) = false := by simp [g2]
          have e3 : (y == 1) = false := by simp [g3]
          have HNO := hide (unhide HNF (by rintro (h | h | h); exact g1 h; exact g2 h; exact g3 h))
          have HBL := hide (unhide HM).2.2.1
          clear HNF HF2 HXX HST HBC g1 g2 g3 HM
          go_wp2_with fail
          refine (unhide CA).mono ?_
          rintro e u1 ⟨rfl, rfl⟩
          go_wp2_with fail
          refine (unhide CB).mono ?_
          rintro e u2 ⟨rfl, rfl⟩
          go_wp2_with fail
          go_ret2
          exact ⟨⟨none, 0, [], 3, rfl, nilI _, .inr (.inr (.inl ⟨unhide EA, unhide EB, unhide HNO, rfl, rfl⟩))⟩, unhide HBL⟩
      · have hni : ¬ (n : Int) + 1 ≤ (R : Int) := by omega
        have hfit : fits a b := fun i hi => unhide HF i (by rw [unhide HRR] at hi; omega)
        have hxl : xs.length = R := (unhide HM).1
        have hbc : xs = bcL a b := bcL_eq (by rw [hxl, unhide HRR]) (fun i hi => by rw [unhide HRR] at hi ⊢; exact unhide HX i (by omega))
        obtain ⟨s, c, hv, hI⟩ := (unhide HM).own.form
        simp only [Value.slice.injEq] at hv
        obtain ⟨e1, e2, e3⟩ := hv
        rw [← e1, ← e3] at hI
        clear e1 e2 e3
        have SO := hide (csize_any (some ⟨w2.heap.size, 0, none⟩) R xs wr hI)
        rw [hxl] at SO
        have HXL := hide hxl
        have HI := hide hI
        have HFIT := hide hfit
        have HBC := hide hbc
        have HBL := hide (unhide HM).2.2.1
        clear hxl hI hfit hbc HM HF HX hlt2
        obtain ⟨S, hS⟩ : ∃ S, (sizeV xs).1 = S := ⟨_, rfl⟩
        obtain ⟨E, hE⟩ : ∃ E, (sizeV xs).2 = E := ⟨_, rfl⟩
        rw [hS, hE] at SO
        have HE : Hid ((sizeV (bcL a b)).2 = E) := hide (by rw [← unhide HBC]; exact hE)
        clear hS hE
        by_cases he : E = 0
        · subst he
          go_wp2_with fail
          refine (unhide SO).mono ?_
          rintro e w4 ⟨rfl, rfl⟩
          go_wp2_with fail
          go_ret2
          refine ⟨⟨_, _, xs, 0, ?_, unhide HI, .inr (.inr (.inr (.inr ⟨unhide EA, unhide EB, unhide HFIT, unhide HE, unhide HBC, rfl⟩)))⟩, unhide HBL⟩
          rw [unhide HXL]
          rfl
        · have hen : (E != 0) = true := by simp [he]
          have HNE := hide he
          clear he
          go_wp2_with fail
          refine (unhide SO).mono ?_
          rintro e w4 ⟨rfl, rfl⟩
          go_wp2_with fail
          go_ret2
          exact ⟨⟨none, 0, [], E, rfl, nilI _, .inr (.inr (.inr (.inl ⟨unhide EA, unhide EB, unhide HFIT, by rw [unhide HE]; exact unhide HNE, rfl, (unhide HE).symm⟩)))⟩, unhide HBL⟩
  · have HRE := hide hRe
    have hlx : (b.length : Int) < (a.length : Int) := by omega
    have HLT := hide hlt
    clear hRe hlt
    go_enter Try.func19, Try.ntmps19
    go_wp2_with fail
    refine (unhide SA).mono ?_
    rintro e w1 ⟨rfl, rfl⟩
    go_wp2_with fail
    refine (unhide SB).mono ?_
    rintro e w2 ⟨rfl, rfl⟩
    go_wp2_with (at_make; refine wpList_make_full _ rfl _ _ 22 rfl w2.heap.size 3 i0 (.int .i64 0) 1 Try.underlying22 hi hz0 hz1 _ _ _ _ R rfl rfl (by have := unhide HRE; omega) (by have := unhide HRE; omega) (by rw [hz2]; omega) (by unfold maxLen; omega) (Nat.le_refl _) ?_; intro w3 hown hgrow)
    have HM0 := hide (MadeI.first hown hgrow)
    clear hown hgrow hlx
    go_loopw [11] (fun iv wr => ∃ n : Nat, ∃ xs : List Int, iv = .int .i64 ((n : Int) + 1) ∧ n ≤ R ∧ MadeI w2 wr w2.heap.size R xs ∧ Hid (∀ i, i < n → dimV a i = dimV b i ∨ dimV a i = 1 ∨ dimV b i = 1) ∧ Hid (∀ i, i < n → xs.getD (R - 1 - i) 0 = bcD a b i)) (fun iv _ => R + 1 - (intOf iv).toNat)
    case atStart => exact ⟨0, List.replicate R 0, rfl, by omega, unhide HM0, hide (fun i hi => by omega), hide (fun i hi => by omega)⟩
    case round =>
      obtain ⟨n, xs, rfl, hn, hM, HF, HX⟩ := hrel
      have HM := hide hM
      clear hM
      by_cases hlt2 : n < R
      · have hni : (n : Int) + 1 ≤ (R : Int) := by omega
        have CA := hide (cend_any p cap a n (by omega) wr ((unhide H1).below (unhide HM).2.2.1))
        have CB := hide (cend_any q cap' b n (by omega) wr ((unhide H2).below (unhide HM).2.2.1))
        obtain ⟨x0, x1⟩ := dimV_range (unhide HA) n
        obtain ⟨y0, y1⟩ := dimV_range (unhide HB) n
        have HBC : Hid (bcD a b n = if dimV a n = 1 then dimV b n else dimV a n) := hide rfl
        have HNF : Hid (¬ (dimV a n = dimV b n ∨ dimV a n = 1 ∨ dimV b n = 1) → ¬ fits a b) := hide (fun h k => h (k n (by rw [unhide HRR]; exact hlt2)))
        have HF2 : Hid ((dimV a n = dimV b n ∨ dimV a n = 1 ∨ dimV b n = 1) → ∀ i, i < n + 1 → dimV a i = dimV b i ∨ dimV a i = 1 ∨ dimV b i = 1) := hide (fun h i hi => by
          rcases Nat.lt_or_ge i n with g | g
          · exact unhide HF i g
          · have : i = n := by omega
            subst this; exact h)
        obtain ⟨j, hj⟩ : ∃ j, R - 1 - n = j := ⟨_, rfl⟩
        have hjl : j < R := by omega
        have c3 := (unhide HM).cell j hjl
        have z3 : wr.frozen? ⟨w2.heap.size, j, none⟩ = false := (unhide HM).2.1.frozenAt j
        have hji : (R : Int) - ((n : Int) + 1) = (j : Int) := by omega
        have hjri : (j : Int) < (R : Int) := by omega
        have HX2 : ∀ d, d = bcD a b n → ∀ i, i < n + 1 → (xs.set j d).getD (R - 1 - i) 0 = bcD a b i := fun d hd i hi => by
          rw [getD_set xs j (R - 1 - i) d (by rw [(unhide HM).1]; exact hjl)]
          by_cases e : i = n
          · subst e; rw [if_pos hj, hd]
          · rw [if_neg (by omega)]; exact unhide HX i (by omega)
        have HXX := hide HX2
        have HWF : ∀ d : Int, 0 ≤ d → d ≤ 4096 → (Lit.int .i64 d).wf = true := fun d h1 h2 => WalkArith.wf_i64 (by omega)
        have HST := hide (fun d (h1 : 0 ≤ d) (h2 : d ≤ 4096) => (unhide HM).stored j d (HWF d h1 h2))
        clear HX2 HWF hj HF HX
        generalize dimV a n = x at CA x0 x1 HBC HNF HF2
        generalize dimV b n = y at CB y0 y1 HBC HNF HF2
        rcases (show x = y ∨ (x ≠ y ∧ y = 1) ∨ (x ≠ y ∧ y ≠ 1 ∧ x = 1) ∨ (x ≠ y ∧ x ≠ 1 ∧ y ≠ 1) by omega) with g1 | ⟨g1, g2⟩ | ⟨g1, g2, g3⟩ | ⟨g1, g2, g3⟩
        · subst g1
          have HF3 := hide (unhide HF2 (.inl rfl))
          have HB2 := hide (unhide HXX (x) (by rw [unhide HBC]; split <;> rfl))
          have HM2 := hide (unhide HST (x) (by omega) (by omega))
          clear HNF HF2 HXX HST HBC HM
          go_wp2_with fail
          refine (unhide CA).mono ?_
          rintro e u1 ⟨rfl, rfl⟩
          go_wp2_with fail
          refine (unhide CB).mono ?_
          rintro e u2 ⟨rfl, rfl⟩
          go_wp2_with fail
          go_roundw
          case rel => exact ⟨n + 1, xs.set j (x), by go_num, by omega, unhide HM2, HF3, HB2⟩
          case measure => simp [intOf]; omega
        · have e1 : (x == y) = false := by simp [g1]
          subst g2
          have HF3 := hide (unhide HF2 (.inr (.inr rfl)))
          have HB2 := hide (unhide HXX (x) (by rw [unhide HBC]; rw [if_neg g1]))
          have HM2 := hide (unhide HST (x) (by omega) (by omega))
          clear HNF HF2 HXX HST HBC HM
          go_wp2_with fail
          refine (unhide CA).mono ?_
          rintro e u1 ⟨rfl, rfl⟩
          go_wp2_with fail
          refine (unhide CB).mono ?_
          rintro e u2 ⟨rfl, rfl⟩
          go_wp2_with fail
          go_roundw
          case rel => exact ⟨n + 1, xs.set j (x), by go_num, by omega, unhide HM2, HF3, HB2⟩
          case measure => simp [intOf]; omega
        · have e1 : (x == y) = false := by simp [g1]
          have e2 : (y == 1) = false := by simp [g2]
          subst g3
          have HF3 := hide (unhide HF2 (.inr (.inl rfl)))
          have HB2 := hide (unhide HXX (y) (by rw [unhide HBC]; rw [if_pos rfl]))
          have HM2 := hide (unhide HST (y) (by omega) (by omega))
          clear HNF HF2 HXX HST HBC HM
          go_wp2_with fail
          refine (unhide CA).mono ?_
          rintro e u1 ⟨rfl, rfl⟩
          go_wp2_with fail
          refine (unhide CB).mono ?_
          rintro e u2 ⟨rfl, rfl⟩
          go_wp2_with fail
          go_roundw
          case rel => exact ⟨n + 1, xs.set j (y), by go_num, by omega, unhide HM2, HF3, HB2⟩
          case measure => simp [intOf]; omega
        · have e1 : (x == y) = false := by simp [g1]
          have e2 : (x == 1) = false := by simp [g2]
          have e3 : (y == 1) = false := by simp [g3]
          have HNO := hide (unhide HNF (by rintro (h | h | h); exact g1 h; exact g2 h; exact g3 h))
          have HBL := hide (unhide HM).2.2.1
          clear HNF HF2 HXX HST HBC g1 g2 g3 HM
          go_wp2_with fail
          refine (unhide CA).mono ?_
          rintro e u1 ⟨rfl, rfl⟩
          go_wp2_with fail
          refine (unhide CB).mono ?_
          rintro e u2 ⟨rfl, rfl⟩
          go_wp2_with fail
          go_ret2
          exact ⟨⟨none, 0, [], 3, rfl, nilI _, .inr (.inr (.inl ⟨unhide EA, unhide EB, unhide HNO, rfl, rfl⟩))⟩, unhide HBL⟩
      · have hni : ¬ (n : Int) + 1 ≤ (R : Int) := by omega
        have hfit : fits a b := fun i hi => unhide HF i (by rw [unhide HRR] at hi; omega)
        have hxl : xs.length = R := (unhide HM).1
        have hbc : xs = bcL a b := bcL_eq (by rw [hxl, unhide HRR]) (fun i hi => by rw [unhide HRR] at hi ⊢; exact unhide HX i (by omega))
        obtain ⟨s, c, hv, hI⟩ := (unhide HM).own.form
        simp only [Value.slice.injEq] at hv
        obtain ⟨e1, e2, e3⟩ := hv
        rw [← e1, ← e3] at hI
        clear e1 e2 e3
        have SO := hide (csize_any (some ⟨w2.heap.size, 0, none⟩) R xs wr hI)
        rw [hxl] at SO
        have HXL := hide hxl
        have HI := hide hI
        have HFIT := hide hfit
        have HBC := hide hbc
        have HBL := hide (unhide HM).2.2.1
        clear hxl hI hfit hbc HM HF HX hlt2
        obtain ⟨S, hS⟩ : ∃ S, (sizeV xs).1 = S := ⟨_, rfl⟩
        obtain ⟨E, hE⟩ : ∃ E, (sizeV xs).2 = E := ⟨_, rfl⟩
        rw [hS, hE] at SO
        have HE : Hid ((sizeV (bcL a b)).2 = E) := hide (by rw [← unhide HBC]; exact hE)
        clear hS hE
        by_cases he : E = 0
        · subst he
          go_wp2_with fail
          refine (unhide SO).mono ?_
          rintro e w4 ⟨rfl, rfl⟩
          go_wp2_with fail
          go_ret2
          refine ⟨⟨_, _, xs, 0, ?_, unhide HI, .inr (.inr (.inr (.inr ⟨unhide EA, unhide EB, unhide HFIT, unhide HE, unhide HBC, rfl⟩)))⟩, unhide HBL⟩
          rw [unhide HXL]
          rfl
        · have hen : (E != 0) = true := by simp [he]
          have HNE := hide he
          clear he
          go_wp2_with fail
          refine (unhide SO).mono ?_
          rintro e w4 ⟨rfl, rfl⟩
          go_wp2_with fail
          go_ret2
          exact ⟨⟨none, 0, [], E, rfl, nilI _, .inr (.inr (.inr (.inl ⟨unhide EA, unhide EB, unhide HFIT, by rw [unhide HE]; exact unhide HNE, rfl, (unhide HE).symm⟩)))⟩, unhide HBL⟩
  · have HRE := hide hRe
    have hlx : (b.length : Int) ≤ (a.length : Int) := by omega
    have HLT := hide hlt
    clear hRe hlt
    go_enter Try.func19, Try.ntmps19
    go_wp2_with fail
    refine (unhide SA).mono ?_
    rintro e w1 ⟨rfl, rfl⟩
    go_wp2_with fail
    refine (unhide SB).mono ?_
    rintro e w2 ⟨rfl, rfl⟩
    go_wp2_with (at_make; refine wpList_make_full _ rfl _ _ 22 rfl w2.heap.size 3 i0 (.int .i64 0) 1 Try.underlying22 hi hz0 hz1 _ _ _ _ R rfl rfl (by have := unhide HRE; omega) (by have := unhide HRE; omega) (by rw [hz2]; omega) (by unfold maxLen; omega) (Nat.le_refl _) ?_; intro w3 hown hgrow)
    have HM0 := hide (MadeI.first hown hgrow)
    clear hown hgrow hlx
    go_loopw [11] (fun iv wr => ∃ n : Nat, ∃ xs : List Int, iv = .int .i64 ((n : Int) + 1) ∧ n ≤ R ∧ MadeI w2 wr w2.heap.size R xs ∧ Hid (∀ i, i < n → dimV a i = dimV b i ∨ dimV a i = 1 ∨ dimV b i = 1) ∧ Hid (∀ i, i < n → xs.getD (R - 1 - i) 0 = bcD a b i)) (fun iv _ => R + 1 - (intOf iv).toNat)
    case atStart => exact ⟨0, List.replicate R 0, rfl, by omega, unhide HM0, hide (fun i hi => by omega), hide (fun i hi => by omega)⟩
    case round =>
      obtain ⟨n, xs, rfl, hn, hM, HF, HX⟩ := hrel
      have HM := hide hM
      clear hM
      by_cases hlt2 : n < R
      · have hni : (n : Int) + 1 ≤ (R : Int) := by omega
        have CA := hide (cend_any p cap a n (by omega) wr ((unhide H1).below (unhide HM).2.2.1))
        have CB := hide (cend_any q cap' b n (by omega) wr ((unhide H2).below (unhide HM).2.2.1))
        obtain ⟨x0, x1⟩ := dimV_range (unhide HA) n
        obtain ⟨y0, y1⟩ := dimV_range (unhide HB) n
        have HBC : Hid (bcD a b n = if dimV a n = 1 then dimV b n else dimV a n) := hide rfl
        have HNF : Hid (¬ (dimV a n = dimV b n ∨ dimV a n = 1 ∨ dimV b n = 1) → ¬ fits a b) := hide (fun h k => h (k n (by rw [unhide HRR]; exact hlt2)))
        have HF2 : Hid ((dimV a n = dimV b n ∨ dimV a n = 1 ∨ dimV b n = 1) → ∀ i, i < n + 1 → dimV a i = dimV b i ∨ dimV a i = 1 ∨ dimV b i = 1) := hide (fun h i hi => by
          rcases Nat.lt_or_ge i n with g | g
          · exact unhide HF i g
          · have : i = n := by omega
            subst this; exact h)
        obtain ⟨j, hj⟩ : ∃ j, R - 1 - n = j := ⟨_, rfl⟩
        have hjl : j < R := by omega
        have c3 := (unhide HM).cell j hjl
        have z3 : wr.frozen? ⟨w2.heap.size, j, none⟩ = false := (unhide HM).2.1.frozenAt j
        have hji : (R : Int) - ((n : Int) + 1) = (j : Int) := by omega
        have hjri : (j : Int) < (R : Int) := by omega
        have HX2 : ∀ d, d = bcD a b n → ∀ i, i < n + 1 → (xs.set j d).getD (R - 1 - i) 0 = bcD a b i := fun d hd i hi => by
          rw [getD_set xs j (R - 1 - i) d (by rw [(unhide HM).1]; exact hjl)]
          by_cases e : i = n
          · subst e; rw [if_pos hj, hd]
          · rw [if_neg (by omega)]; exact unhide HX i (by omega)
        have HXX := hide HX2
        have HWF : ∀ d : Int, 0 ≤ d → d ≤ 4096 → (Lit.int .i64 d).wf = true := fun d h1 h2 => WalkArith.wf_i64 (by omega)
        have HST := hide (fun d (h1 : 0 ≤ d) (h2 : d ≤ 4096) => (unhide HM).stored j d (HWF d h1 h2))
        clear HX2 HWF hj HF HX
        generalize dimV a n = x at CA x0 x1 HBC HNF HF2
        generalize dimV b n = y at CB y0 y1 HBC HNF HF2
        rcases (show x = y ∨ (x ≠ y ∧ y = 1) ∨ (x ≠ y ∧ y ≠ 1 ∧ x = 1) ∨ (x ≠ y ∧ x ≠ 1 ∧ y ≠ 1) by omega) with g1 | ⟨g1, g2⟩ | ⟨g1, g2, g3⟩ | ⟨g1, g2, g3⟩
        · subst g1
          have HF3 := hide (unhide HF2 (.inl rfl))
          have HB2 := hide (unhide HXX (x) (by rw [unhide HBC]; split <;> rfl))
          have HM2 := hide (unhide HST (x) (by omega) (by omega))
          clear HNF HF2 HXX HST HBC HM
          go_wp2_with fail
          refine (unhide CA).mono ?_
          rintro e u1 ⟨rfl, rfl⟩
          go_wp2_with fail
          refine (unhide CB).mono ?_
          rintro e u2 ⟨rfl, rfl⟩
          go_wp2_with fail
          go_roundw
          case rel => exact ⟨n + 1, xs.set j (x), by go_num, by omega, unhide HM2, HF3, HB2⟩
          case measure => simp [intOf]; omega
        · have e1 : (x == y) = false := by simp [g1]
          subst g2
          have HF3 := hide (unhide HF2 (.inr (.inr rfl)))
          have HB2 := hide (unhide HXX (x) (by rw [unhide HBC]; rw [if_neg g1]))
          have HM2 := hide (unhide HST (x) (by omega) (by omega))
          clear HNF HF2 HXX HST HBC HM
          go_wp2_with fail
          refine (unhide CA).mono ?_
          rintro e u1 ⟨rfl, rfl⟩
          go_wp2_with fail
          refine (unhide CB).mono ?_
          rintro e u2 ⟨rfl, rfl⟩
          go_wp2_with fail
          go_roundw
          case rel => exact ⟨n + 1, xs.set j (x), by go_num, by omega, unhide HM2, HF3, HB2⟩
          case measure => simp [intOf]; omega
        · have e1 : (x == y) = false := by simp [g1]
          have e2 : (y == 1) = false := by simp [g2]
          subst g3
          have HF3 := hide (unhide HF2 (.inr (.inl rfl)))
          have HB2 := hide (unhide HXX (y) (by rw [unhide HBC]; rw [if_pos rfl]))
          have HM2 := hide (unhide HST (y) (by omega) (by omega))
          clear HNF HF2 HXX HST HBC HM
          go_wp2_with fail
          refine (unhide CA).mono ?_
          rintro e u1 ⟨rfl, rfl⟩
          go_wp2_with fail
          refine (unhide CB).mono ?_
          rintro e u2 ⟨rfl, rfl⟩
          go_wp2_with fail
          go_roundw
          case rel => exact ⟨n + 1, xs.set j (y), by go_num, by omega, unhide HM2, HF3, HB2⟩
          case measure => simp [intOf]; omega
        · have e1 : (x == y) = false := by simp [g1]
          have e2 : (x == 1) = false := by simp [g2]
          have e3 : (y == 1) = false := by simp [g3]
          have HNO := hide (unhide HNF (by rintro (h | h | h); exact g1 h; exact g2 h; exact g3 h))
          have HBL := hide (unhide HM).2.2.1
          clear HNF HF2 HXX HST HBC g1 g2 g3 HM
          go_wp2_with fail
          refine (unhide CA).mono ?_
          rintro e u1 ⟨rfl, rfl⟩
          go_wp2_with fail
          refine (unhide CB).mono ?_
          rintro e u2 ⟨rfl, rfl⟩
          go_wp2_with fail
          go_ret2
          exact ⟨⟨none, 0, [], 3, rfl, nilI _, .inr (.inr (.inl ⟨unhide EA, unhide EB, unhide HNO, rfl, rfl⟩))⟩, unhide HBL⟩
      · have hni : ¬ (n : Int) + 1 ≤ (R : Int) := by omega
        have hfit : fits a b := fun i hi => unhide HF i (by rw [unhide HRR] at hi; omega)
        have hxl : xs.length = R := (unhide HM).1
        have hbc : xs = bcL a b := bcL_eq (by rw [hxl, unhide HRR]) (fun i hi => by rw [unhide HRR] at hi ⊢; exact unhide HX i (by omega))
        obtain ⟨s, c, hv, hI⟩ := (unhide HM).own.form
        simp only [Value.slice.injEq] at hv
        obtain ⟨e1, e2, e3⟩ := hv
        rw [← e1, ← e3] at hI
        clear e1 e2 e3
        have SO := hide (csize_any (some ⟨w2.heap.size, 0, none⟩) R xs wr hI)
        rw [hxl] at SO
        have HXL := hide hxl
        have HI := hide hI
        have HFIT := hide hfit
        have HBC := hide hbc
        have HBL := hide (unhide HM).2.2.1
        clear hxl hI hfit hbc HM HF HX hlt2
        obtain ⟨S, hS⟩ : ∃ S, (sizeV xs).1 = S := ⟨_, rfl⟩
        obtain ⟨E, hE⟩ : ∃ E, (sizeV xs).2 = E := ⟨_, rfl⟩
        rw [hS, hE] at SO
        have HE : Hid ((sizeV (bcL a b)).2 = E) := hide (by rw [← unhide HBC]; exact hE)
        clear hS hE
        by_cases he : E = 0
        · subst he
          go_wp2_with fail
          refine (unhide SO).mono ?_
          rintro e w4 ⟨rfl, rfl⟩
          go_wp2_with fail
          go_ret2
          refine ⟨⟨_, _, xs, 0, ?_, unhide HI, .inr (.inr (.inr (.inr ⟨unhide EA, unhide EB, unhide HFIT, unhide HE, unhide HBC, rfl⟩)))⟩, unhide HBL⟩
          rw [unhide HXL]
          rfl
        · have hen : (E != 0) = true := by simp [he]
          have HNE := hide he
          clear he
          go_wp2_with fail
          refine (unhide SO).mono ?_
          rintro e w4 ⟨rfl, rfl⟩
          go_wp2_with fail
          go_ret2
          exact ⟨⟨none, 0, [], E, rfl, nilI _, .inr (.inr (.inr (.inl ⟨unhide EA, unhide EB, unhide HFIT, by rw [unhide HE]; exact unhide HNE, rfl, (unhide HE).symm⟩)))⟩, unhide HBL⟩

set_option maxRecDepth 100000 in
set_option maxHeartbeats 4000000 in
theorem cbroad_any (p q : Option Addr) (cap cap' : Nat) (a b : List Int) (w : World) (h1 : Ints .i64 w p cap a) (h2 : Ints .i64 w q cap' b) :
    Calls Try.prog 19 #[.slice p a.length cap, .slice q b.length cap'] w fun e w' => (∃ s c xs er, e = .returned (.tuple #[.slice s xs.length c, .int .i64 er]) ∧ Ints .i64 w' s c xs ∧ BroadR a b xs er) ∧ Below w.heap.size w w' := by
  by_cases ea : (sizeV a).2 = 0
  · by_cases eb : (sizeV b).2 = 0
    · exact cbroad_ok p q cap cap' (max a.length b.length) a b w h1 h2 ea eb (by omega)
    · have SA := hide (csize_any p cap a w h1)
      have SB := hide (csize_any q cap' b w h2)
      rw [ea] at SA
      have EA := hide ea
      have EB := hide eb
      clear ea eb h1 h2
      obtain ⟨Na, hNa⟩ : ∃ S, (sizeV a).1 = S := ⟨_, rfl⟩
      rw [hNa] at SA
      obtain ⟨Nb, hNb⟩ : ∃ S, (sizeV b).1 = S := ⟨_, rfl⟩
      obtain ⟨E, hE⟩ : ∃ E, (sizeV b).2 = E := ⟨_, rfl⟩
      rw [hNb, hE] at SB
      have hne : (E != 0) = true := by have := unhide EB; rw [hE] at this; simp [this]
      have HE := hide hE
      clear hE hNa hNb
      go_enter Try.func19, Try.ntmps19
      go_wp2_with fail
      refine (unhide SA).mono ?_
      rintro e w1 ⟨rfl, rfl⟩
      go_wp2_with fail
      refine (unhide SB).mono ?_
      rintro e w2 ⟨rfl, rfl⟩
      go_wp2_with fail
      go_ret2
      exact ⟨⟨none, 0, [], E, rfl, nilI _, .inr (.inl ⟨unhide EA, unhide EB, rfl, (unhide HE).symm⟩)⟩, Below.refl _ _⟩
  · have SA := hide (csize_any p cap a w h1)
    have EA := hide ea
    clear ea h1 h2
    obtain ⟨Na, hNa⟩ : ∃ S, (sizeV a).1 = S := ⟨_, rfl⟩
    obtain ⟨E, hE⟩ : ∃ E, (sizeV a).2 = E := ⟨_, rfl⟩
    rw [hNa, hE] at SA
    have hne : (E != 0) = true := by have := unhide EA; rw [hE] at this; simp [this]
    have HE := hide hE
    clear hE hNa
    go_enter Try.func19, Try.ntmps19
    go_wp2_with fail
    refine (unhide SA).mono ?_
    rintro e w1 ⟨rfl, rfl⟩
    go_wp2_with fail
    go_ret2
    exact ⟨⟨none, 0, [], E, rfl, nilI _, .inl ⟨unhide EA, rfl, (unhide HE).symm⟩⟩, Below.refl _ _⟩

set_option maxRecDepth 100000 in
set_option maxHeartbeats 4000000 in
theorem rbroad_any (p q : Option Addr) (cap cap' : Nat) (a b : List Int) (w : World) (h1 : Ints .i64 w p cap a) (h2 : Ints .i64 w q cap' b) :
    Calls Try.prog 20 #[.slice p a.length cap, .slice q b.length cap'] w fun e w' => (∃ s c xs er, e = .returned (.tuple #[.slice s xs.length c, .int .i64 er]) ∧ Ints .i64 w' s c xs ∧ BroadR a b xs er) ∧ Below w.heap.size w w' := by
  by_cases ea : (sizeV a).2 = 0
  · by_cases eb : (sizeV b).2 = 0
    · exact rbroad_ok p q cap cap' (max a.length b.length) a b w h1 h2 ea eb (by omega)
    · have SA := hide (rsize_any p cap a w h1)
      have SB := hide (rsize_any q cap' b w h2)
      rw [ea] at SA
      have EA := hide ea
      have EB := hide eb
      clear ea eb h1 h2
      obtain ⟨Na, hNa⟩ : ∃ S, (sizeV a).1 = S := ⟨_, rfl⟩
      rw [hNa] at SA
      obtain ⟨Nb, hNb⟩ : ∃ S, (sizeV b).1 = S := ⟨_, rfl⟩
      obtain ⟨E, hE⟩ : ∃ E, (sizeV b).2 = E := ⟨_, rfl⟩
      rw [hNb, hE] at SB
      have hne : (E != 0) = true := by have := unhide EB; rw [hE] at this; simp [this]
      have HE := hide hE
      clear hE hNa hNb
      go_enter Try.func20, Try.ntmps20
      go_wp2_with fail
      refine (unhide SA).mono ?_
      rintro e w1 ⟨rfl, rfl⟩
      go_wp2_with fail
      refine (unhide SB).mono ?_
      rintro e w2 ⟨rfl, rfl⟩
      go_wp2_with fail
      go_ret2
      exact ⟨⟨none, 0, [], E, rfl, nilI _, .inr (.inl ⟨unhide EA, unhide EB, rfl, (unhide HE).symm⟩)⟩, Below.refl _ _⟩
  · have SA := hide (rsize_any p cap a w h1)
    have EA := hide ea
    clear ea h1 h2
    obtain ⟨Na, hNa⟩ : ∃ S, (sizeV a).1 = S := ⟨_, rfl⟩
    obtain ⟨E, hE⟩ : ∃ E, (sizeV a).2 = E := ⟨_, rfl⟩
    rw [hNa, hE] at SA
    have hne : (E != 0) = true := by have := unhide EA; rw [hE] at this; simp [this]
    have HE := hide hE
    clear hE hNa
    go_enter Try.func20, Try.ntmps20
    go_wp2_with fail
    refine (unhide SA).mono ?_
    rintro e w1 ⟨rfl, rfl⟩
    go_wp2_with fail
    go_ret2
    exact ⟨⟨none, 0, [], E, rfl, nilI _, .inl ⟨unhide EA, rfl, (unhide HE).symm⟩⟩, Below.refl _ _⟩
end Go.Proofs.Ytgobpoaalnpagaa
