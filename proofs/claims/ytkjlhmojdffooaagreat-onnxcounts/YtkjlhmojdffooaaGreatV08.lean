import Derived.Test.YtkjlhmojdffooaaGreatV07

/-
  Layer 7: the code's Count, and whether tensors and values may be.
-/
namespace Go.Proofs.YtkjlhmojdffooaaGreat
open Go.RowKit
set_option linter.unusedVariables false

theorem quo_gt {N x : Int} (h0 : 0 < N) (h1 : N ≤ 4096) (hx : 0 ≤ x) : (4096 / N < x) ↔ 4096 < N * x := by
  constructor
  · intro h
    rcases Int.lt_or_le 4096 (N * x) with g | g
    · exact g
    · have := Int.le_ediv_of_mul_le h0 (a := x) (b := 4096) (by rw [Int.mul_comm]; exact g)
      omega
  · intro h
    rcases Int.lt_or_le (4096 / N) x with g | g
    · exact g
    · have h2 : N * x ≤ N * (4096 / N) := Int.mul_le_mul_of_nonneg_left g (by omega)
      have h3 : N * (4096 / N) ≤ 4096 := Int.mul_ediv_self_le (by omega)
      omega
theorem countF_step {N x : Int} {r : List Int} (h0 : 0 < N) (hx : 0 < x) : countF N (x :: r) = if 4096 < N * x then (0, 8) else countF (N * x) r := by
  rw [countF]
  by_cases h : 4096 < x
  · rw [if_pos h]
    have : x ≤ N * x := by
      have := Int.mul_le_mul_of_nonneg_right (show (1 : Int) ≤ N by omega) (show 0 ≤ x by omega)
      omega
    rw [if_pos (by omega)]
  · rw [if_neg h]
theorem wq4096 {N : Int} (h0 : 0 < N) (h1 : N ≤ 4096) : IntKind.i64.wrap (Int.tdiv 4096 N) = 4096 / N := by
  rw [Int.tdiv_eq_ediv_of_nonneg (by omega), IntKind.wrap_i64]
  have a1 : 0 ≤ 4096 / N := Int.ediv_nonneg (by omega) (by omega)
  have a2 : 4096 / N ≤ 4096 := Int.ediv_le_self _ (by omega)
  omega

set_option maxRecDepth 100000 in
set_option maxHeartbeats 2000000 in
theorem ccount_any (p : Option Addr) (c : Nat) (ds : List Int) (w : World) (h : Ints .i64 w p c ds) :
    Calls Tryz.prog 21 #[.slice p ds.length c] w fun e w' => e = .returned (.tuple #[.int .i64 (countV ds).1, .int .i64 (countV ds).2]) ∧ w' = w := by
  have A1 := hide h
  have nl := h.len
  have HR : Hid (∀ R, countV ds = R → R = if ds.any (fun x => decide (x < 0)) = true then (0, 1) else if 8 < ds.length then (0, 8) else if ds.any (fun x => x == 0) = true then (0, 0) else countF 1 ds) := hide (fun R hR => by rw [← hR]; rfl)
  generalize hR : countV ds = R
  replace HR := hide (unhide HR R hR)
  clear hR h
  obtain ⟨R1, R2⟩ := R
  simp only
  go_enter Tryz.func21, Tryz.ntmps21
  go_wp2_with fail
  go_loop [4, 12] (fun zv iv => ∃ n : Nat, ∃ z : Bool, iv = .int .i64 n ∧ zv = .bool z ∧ n ≤ ds.length ∧ Hid (z = (ds.take n).any (fun x => x == 0)) ∧ Hid ((ds.take n).any (fun x => decide (x < 0)) = false)) (fun _ iv => ds.length - (intOf iv).toNat)
  case atStart => exact ⟨0, false, rfl, rfl, by omega, hide rfl, hide rfl⟩
  case round =>
    obtain ⟨n, z, rfl, rfl, hn, HZ, HN⟩ := hrel
    by_cases hlt : n < ds.length
    · have hi : (n : Int) < (ds.length : Int) := by omega
      obtain ⟨b, o, rfl, hb, hc⟩ := (unhide A1).lies (by omega)
      have k1 : w.cell? ⟨b, o + n, none⟩ = some (.int .i64 (ds.getD n 0)) := hc n hlt
      have HT0 := hide (any_takeI (fun x => x == 0) ds n hlt)
      have HT1 := hide (any_takeI (fun x => decide (x < 0)) ds n hlt)
      have HM : Hid (ds.getD n 0 < 0 → ds.any (fun x => decide (x < 0)) = true) := hide (fun hh => any_memI (P := fun x => decide (x < 0)) hlt (by simpa using hh))
      generalize ds.getD n 0 = x at k1 HT0 HT1 HM
      clear hc
      by_cases hx : x < 0
      · have HE : Hid (R1 = 0 ∧ R2 = 1) := hide (by have := unhide HR; rw [if_pos (unhide HM hx)] at this; simpa using this)
        clear HT0 HT1 HM HZ HN HR
        go_wp2_with fail
        go_ret2
        exact ⟨by rw [(unhide HE).1, (unhide HE).2]; rfl, rfl⟩
      · have HN2 : Hid ((ds.take (n + 1)).any (fun x => decide (x < 0)) = false) := hide (by rw [unhide HT1, unhide HN]; simp; omega)
        cases z with
        | true =>
          have HZ2 : Hid (true = (ds.take (n + 1)).any (fun x => x == 0)) := hide (by rw [unhide HT0, ← unhide HZ]; rfl)
          clear HT0 HT1 HM HZ HN
          go_wp2_with fail
          go_round
          case rel => exact ⟨n + 1, true, by go_num, rfl, by omega, HZ2, HN2⟩
          case measure => simp [intOf]; omega
        | false =>
          have HZ2 : Hid ((x == 0) = (ds.take (n + 1)).any (fun x => x == 0)) := hide (by rw [unhide HT0, ← unhide HZ]; simp)
          clear HT0 HT1 HM HZ HN
          by_cases hx0 : x = 0
          · have tx : (x == 0) = true := by simp [hx0]
            go_wp2_with fail
            go_round
            case rel => exact ⟨n + 1, true, by go_num, rfl, by omega, hide (by rw [← unhide HZ2, tx]), HN2⟩
            case measure => simp [intOf]; omega
          · have tx : (x == 0) = false := by simp [hx0]
            go_wp2_with fail
            go_round
            case rel => exact ⟨n + 1, false, by go_num, rfl, by omega, hide (by rw [← unhide HZ2, tx]), HN2⟩
            case measure => simp [intOf]; omega
    · have hi : ¬ (n : Int) < (ds.length : Int) := by omega
      have HN3 : Hid (ds.any (fun x => decide (x < 0)) = false) := hide (by have := unhide HN; rw [List.take_of_length_le (by omega)] at this; exact this)
      have HZ3 : Hid (z = ds.any (fun x => x == 0)) := hide (by have := unhide HZ; rw [List.take_of_length_le (by omega)] at this; exact this)
      have HR2 : Hid ((R1, R2) = if 8 < ds.length then ((0, 8) : Int × Int) else if ds.any (fun x => x == 0) = true then (0, 0) else countF 1 ds) := hide (by have := unhide HR; rw [unhide HN3, if_neg (by decide)] at this; exact this)
      clear HZ HN HR
      by_cases h8 : 8 < ds.length
      · have t8 : (8 : Int) < (ds.length : Int) := by omega
        have HE : Hid (R1 = 0 ∧ R2 = 8) := hide (by have := unhide HR2; rw [if_pos h8] at this; simpa using this)
        go_wp2_with fail
        go_ret2
        exact ⟨by rw [(unhide HE).1, (unhide HE).2]; rfl, rfl⟩
      · have t8 : ¬ (8 : Int) < (ds.length : Int) := by omega
        cases z with
        | true =>
          have HE : Hid (R1 = 0 ∧ R2 = 0) := hide (by have := unhide HR2; rw [if_neg h8, ← unhide HZ3, if_pos rfl] at this; simpa using this)
          clear HR2
          go_wp2_with fail
          go_ret2
          exact ⟨by rw [(unhide HE).1, (unhide HE).2]; rfl, rfl⟩
        | false =>
          have HC : Hid (countF 1 ds = (R1, R2)) := hide (by have := unhide HR2; rw [if_neg h8, ← unhide HZ3, if_neg (by decide)] at this; exact this.symm)
          have HP : Hid (∀ x ∈ ds, 0 < x) := hide (fun x hx => by
            have h1 := unhide HN3
            rw [List.any_eq_false] at h1
            have h1 := h1 x hx
            have h2 := (unhide HZ3).symm
            rw [List.any_eq_false] at h2
            have h2 := h2 x hx
            simp at h1 h2
            omega)
          clear HR2
          go_wp2_with fail
          go_loop [7, 30] (fun mv iv => ∃ j : Nat, ∃ N : Int, iv = .int .i64 j ∧ mv = .int .i64 N ∧ j ≤ ds.length ∧ 0 < N ∧ N ≤ 4096 ∧ Hid (countF N (ds.drop j) = (R1, R2))) (fun _ iv => ds.length - (intOf iv).toNat)
          case atStart => exact ⟨0, 1, rfl, rfl, by omega, by omega, by omega, hide (by rw [List.drop_zero]; exact unhide HC)⟩
          case round =>
            obtain ⟨j, N, rfl, rfl, hj, N0, N1, HJ⟩ := hrel
            by_cases hjl : j < ds.length
            · have hji : (j : Int) < (ds.length : Int) := by omega
              obtain ⟨b, o, rfl, hb, hc⟩ := (unhide A1).lies (by omega)
              have k1 : w.cell? ⟨b, o + j, none⟩ = some (.int .i64 (ds.getD j 0)) := hc j hjl
              have x0 := unhide HP _ (getD_mem6 hjl)
              have HD : Hid (countF N (ds.getD j 0 :: ds.drop (j + 1)) = (R1, R2)) := hide (by rw [← drop_cons6 hjl]; exact unhide HJ)
              generalize ds.getD j 0 = x at k1 x0 HD
              clear hc HJ
              have nz : (N == 0) = false := by rw [beq_eq_false_iff_ne]; omega
              have nz2 : N ≠ 0 := by omega
              have hq := wq4096 N0 N1
              have hqq := quo_gt N0 N1 (Int.le_of_lt x0)
              have a1 : 0 ≤ 4096 / N := Int.ediv_nonneg (by omega) (by omega)
              have a2 : 4096 / N ≤ 4096 := Int.ediv_le_self _ (by omega)
              have HS := hide (countF_step (r := ds.drop (j + 1)) N0 x0)
              have hm0 : 0 < N * x := Int.mul_pos N0 x0
              obtain ⟨M, hM⟩ : ∃ M, N * x = M := ⟨_, rfl⟩
              obtain ⟨Q, hQ⟩ : ∃ Q, 4096 / N = Q := ⟨_, rfl⟩
              rw [hQ] at hq hqq a1 a2
              rw [hM] at hqq hm0
              rw [unhide HS, hM] at HD
              have HM := hide hM
              have HQ := hide hQ
              clear HS hQ hM
              by_cases hbig : 4096 < M
              · have HE : Hid (R1 = 0 ∧ R2 = 8) := hide (by have := unhide HD; rw [if_pos hbig] at this; simp only [Prod.mk.injEq] at this; exact ⟨this.1.symm, this.2.symm⟩)
                have hxq : Q < x := hqq.2 hbig
                clear HD hqq
                go_wp2_with fail
                go_ret2
                exact ⟨by rw [(unhide HE).1, (unhide HE).2]; rfl, rfl⟩
              · have HD2 : Hid (countF M (ds.drop (j + 1)) = (R1, R2)) := hide (by have := unhide HD; rw [if_neg hbig] at this; exact this)
                have hxq : ¬ Q < x := fun h => hbig (hqq.1 h)
                have hwr : IntKind.i64.wrap (N * x) = M := by rw [unhide HM, IntKind.wrap_i64]; omega
                clear HD hqq
                go_wp2_with fail
                go_round
                case rel => exact ⟨j + 1, M, by go_num, by first | rfl | (rw [unhide HM]) | (rw [hwr]), by omega, hm0, by omega, HD2⟩
                case measure => simp [intOf]; omega
            · have hji : ¬ (j : Int) < (ds.length : Int) := by omega
              have HE : Hid (R1 = N ∧ R2 = 0) := hide (by have := unhide HJ; rw [List.drop_of_length_le (by omega), countF] at this; simp only [Prod.mk.injEq] at this; exact ⟨this.1.symm, this.2.symm⟩)
              clear HJ
              go_wp2_with fail
              go_ret2
              exact ⟨by rw [(unhide HE).1, (unhide HE).2]; rfl, rfl⟩

set_option maxRecDepth 100000 in
theorem cwidth_any (k : Int) (w : World) : Calls Tryz.prog 138 #[.int .i64 k] w fun e w' => e = .returned (.int .i64 (widthV k)) ∧ w' = w := by
  unfold widthV
  by_cases h1 : k = 1
  · subst h1
    go_enter Tryz.func138, Tryz.ntmps138
    go_wp2_with fail
    go_ret
    exact ⟨rfl, rfl⟩
  · have e1 : (k == 1) = false := by simp [h1]
    rw [if_neg h1]
    by_cases h7 : k = 7
    · subst h7
      go_enter Tryz.func138, Tryz.ntmps138
      go_wp2_with fail
      go_ret
      exact ⟨rfl, rfl⟩
    · have e7 : (k == 7) = false := by simp [h7]
      rw [if_neg h7]
      by_cases h9 : k = 9
      · subst h9
        go_enter Tryz.func138, Tryz.ntmps138
        go_wp2_with fail
        go_ret
        exact ⟨rfl, rfl⟩
      · have e9 : (k == 9) = false := by simp [h9]
        rw [if_neg h9]
        clear h1 h7 h9
        go_enter Tryz.func138, Tryz.ntmps138
        go_wp2_with fail
        go_ret
        exact ⟨rfl, rfl⟩
theorem width_knownB (k : Int) : (widthV k == 0) = !knownB k := by
  unfold widthV knownB
  by_cases h1 : k = 1
  · subst h1; decide
  · by_cases h7 : k = 7
    · subst h7; decide
    · by_cases h9 : k = 9
      · subst h9; decide
      · simp [h1, h7, h9]
/-- How many elements there are in the list of a tensor's type, and in all. -/
def ownN (t : TenD) : Int := if t.1 = 1 then (t.2.2.1.length : Int) else if t.1 = 7 then (t.2.2.2.1.length : Int) else (t.2.2.2.2.length : Int)
def elemsN (t : TenD) : Int := (t.2.2.1.length : Int) + t.2.2.2.1.length + t.2.2.2.2.length
def mayT (t : TenD) : Bool := knownB t.1 && ((countV t.2.1).2 != 1 && ((countV t.2.1).2 != 0 || (ownN t == (countV t.2.1).1 && elemsN t == (countV t.2.1).1)))
theorem mayT_W (t : TenD) : mayT t = !(tensW t).1 := by
  obtain ⟨ty, ds, fs, is, bs⟩ := t
  unfold mayT tensW
  simp only
  by_cases hk : knownB ty = false
  · rw [if_pos hk, hk]; rfl
  · rw [if_neg hk]
    have hk' : knownB ty = true := by simpa using hk
    rw [hk']
    have hs : (hasT (ty, ds, fs, is, bs)).1 = ownN (ty, ds, fs, is, bs) ∧ ((0 < (hasT (ty, ds, fs, is, bs)).2) ↔ elemsN (ty, ds, fs, is, bs) ≠ ownN (ty, ds, fs, is, bs)) := by
      unfold hasT ownN elemsN
      simp only
      by_cases h1 : ty = 1
      · simp only [if_pos h1]; constructor
        · trivial
        · omega
      · simp only [if_neg h1]
        by_cases h7 : ty = 7
        · simp only [if_pos h7]; constructor
          · trivial
          · omega
        · simp only [if_neg h7]; constructor
          · trivial
          · omega
    unfold dimsW f3 bad3 big3
    simp only
    obtain ⟨s1, s2⟩ := hs
    generalize countV ds = C
    obtain ⟨C1, C2⟩ := C
    rw [s1]
    have s3 : (decide (ownN (ty, ds, fs, is, bs) ≠ C1 ∨ 0 < (hasT (ty, ds, fs, is, bs)).2)) = !(ownN (ty, ds, fs, is, bs) == C1 && elemsN (ty, ds, fs, is, bs) == C1) := by
      rw [Bool.eq_iff_iff]
      simp only [decide_eq_true_eq, Bool.not_eq_true', Bool.and_eq_false_iff, beq_eq_false_iff_ne, s2]
      omega
    rw [s3]
    simp only [bne]
    generalize (C2 == 1) = a
    generalize (C2 == 0) = b
    generalize (ownN (ty, ds, fs, is, bs) == C1 && elemsN (ty, ds, fs, is, bs) == C1) = d
    cases a <;> cases b <;> cases d <;> rfl
set_option maxRecDepth 100000 in
theorem cown_any (T : Ten) (A : TA) (w : World) : Calls Tryz.prog 139 #[tenV T A] w fun e w' => e = .returned (.int .i64 (ownN T)) ∧ Below w.heap.size w w' := by
  obtain ⟨ty, ds, fs, is, bs⟩ := T
  obtain ⟨pd, cd, pf, cf, pi, ci, pb, cb⟩ := A
  unfold tenV tenCells ownN
  simp only
  have HB := hide (fun o => al1p w o)
  by_cases h1 : ty = 1
  · subst h1
    go_enter Tryz.func139, Tryz.ntmps139
    go_wp2_with fail
    go_ret
    exact ⟨rfl, unhide HB _⟩
  · have e1 : (ty == 1) = false := by simp [h1]
    rw [if_neg h1]
    by_cases h7 : ty = 7
    · subst h7
      go_enter Tryz.func139, Tryz.ntmps139
      go_wp2_with fail
      go_ret
      exact ⟨rfl, unhide HB _⟩
    · have e7 : (ty == 7) = false := by simp [h7]
      rw [if_neg h7]
      clear h1 h7
      go_enter Tryz.func139, Tryz.ntmps139
      go_wp2_with fail
      go_ret
      exact ⟨rfl, unhide HB _⟩
set_option maxRecDepth 100000 in
theorem celems_any (T : Ten) (A : TA) (w : World) (h : TenSm T) : Calls Tryz.prog 140 #[tenV T A] w fun e w' => e = .returned (.int .i64 (elemsN T)) ∧ Below w.heap.size w w' := by
  obtain ⟨ty, ds, fs, is, bs⟩ := T
  obtain ⟨pd, cd, pf, cf, pi, ci, pb, cb⟩ := A
  obtain ⟨h1, h2, h3, h4⟩ := h
  simp only at h1 h2 h3 h4
  unfold tenV tenCells elemsN
  simp only
  have HB := hide (fun o => al1p w o)
  go_enter Tryz.func140, Tryz.ntmps140
  go_wp2_with fail
  go_ret
  exact ⟨rfl, unhide HB _⟩
theorem count_cases (d : List Int) : (countV d).2 = 0 ∨ (countV d).2 = 1 ∨ (countV d).2 = 8 := by
  have hF : ∀ (l : List Int) (n : Int), (countF n l).2 = 0 ∨ (countF n l).2 = 8 := fun l => by
    induction l with
    | nil => intro n; exact .inl rfl
    | cons x r ih =>
      intro n
      rw [countF]
      split
      · exact .inr rfl
      · split
        · exact .inr rfl
        · exact ih _
  unfold countV
  split
  · exact .inr (.inl rfl)
  · split
    · exact .inr (.inr rfl)
    · split
      · exact .inl rfl
      · rcases hF d 1 with h | h
        · exact .inl h
        · exact .inr (.inr h)
set_option maxRecDepth 100000 in
set_option maxHeartbeats 2000000 in
theorem ctenMay_any (T : Ten) (A : TA) (w : World) (h : TenIn w T A) (hs : TenSm T) :
    Calls Tryz.prog 84 #[tenV T A] w fun e w' => e = .returned (.bool (mayT T)) ∧ Below w.heap.size w w' := by
  obtain ⟨ty, ds, fs, is, bs⟩ := T
  obtain ⟨pd, cd, pf, cf, pi, ci, pb, cb⟩ := A
  have C1 := hide (fun v (hv : Below w.heap.size w v) => ccount_any pd cd ds v (h.2.1.below hv))
  have C2 := hide (fun v => cwidth_any ty v)
  have C3 := hide (fun v => cown_any (ty, ds, fs, is, bs) ⟨pd, cd, pf, cf, pi, ci, pb, cb⟩ v)
  have C4 := hide (fun v => celems_any (ty, ds, fs, is, bs) ⟨pd, cd, pf, cf, pi, ci, pb, cb⟩ v hs)
  obtain ⟨R, hR⟩ : ∃ R, mayT (ty, ds, fs, is, bs) = R := ⟨_, rfl⟩
  have HR : Hid (R = (!(widthV ty == 0) && ((countV ds).2 != 1 && ((countV ds).2 != 0 || (ownN (ty, ds, fs, is, bs) == (countV ds).1 && elemsN (ty, ds, fs, is, bs) == (countV ds).1))))) := hide (by rw [← hR, width_knownB, Bool.not_not]; rfl)
  rw [hR]
  clear hR h hs
  generalize widthV ty = WD at C2 HR
  generalize countV ds = C at C1 HR
  obtain ⟨N, E⟩ := C
  simp only at C1 HR
  generalize ownN (ty, ds, fs, is, bs) = ON at C3 HR
  generalize elemsN (ty, ds, fs, is, bs) = EN at C4 HR
  unfold tenV tenCells at C3 C4 ⊢
  simp only at C3 C4 ⊢
  go_enter Tryz.func84, Tryz.ntmps84
  go_wp2_with fail
  refine (unhide C1 _ (al1p _ _)).mono ?_
  rintro e v ⟨rfl, hv⟩
  replace hv := hv.symm
  subst hv
  go_wp2_with fail
  refine (unhide C2 _).mono ?_
  rintro e v ⟨rfl, hv⟩
  replace hv := hv.symm
  subst hv
  by_cases c1 : WD = 0
  · have t1 : (WD == 0) = true := by simp [c1]
    have HE : Hid (false = R) := hide (by rw [unhide HR, t1]; rfl)
    clear HR c1
    go_wp2_with fail
    go_ret
    exact ⟨ret_bool (unhide HE), al1p _ _⟩
  · have t1 : (WD == 0) = false := by simp [c1]
    by_cases c2 : E = 1
    · have t2 : (E == 1) = true := by simp [c2]
      have HE : Hid (false = R) := hide (by rw [unhide HR, c2]; simp)
      clear HR c1 c2
      go_wp2_with fail
      go_ret
      exact ⟨ret_bool (unhide HE), al1p _ _⟩
    · have t2 : (E == 1) = false := by simp [c2]
      by_cases c3 : E = 0
      · have t3 : (E != 0) = false := by simp [c3]
        by_cases c4 : ON = N
        · have t4 : (ON == N) = true := by simp [c4]
          have HE : Hid ((EN == N) = R) := hide (by rw [unhide HR, t1, c3, t4]; simp)
          clear HR c1 c2 c3 c4
          go_wp2_with fail
          refine (unhide C3 _).mono ?_
          rintro e v ⟨rfl, hv⟩
          have B1 := hide (bl_tr (al1p w (Obj.cells #[.int .i64 ty, .slice pd ds.length cd, .slice pf fs.length cf, .slice pi is.length ci, .slice pb bs.length cb] 80)) hv)
          have x1 := (Box.below (Box.new w #[.int .i64 ty, .slice pd ds.length cd, .slice pf fs.length cf, .slice pi is.length ci, .slice pb bs.length cb] 80) hv).cell
          clear hv
          go_wp2_with fail
          refine (unhide C4 _).mono ?_
          rintro e v2 ⟨rfl, hv⟩
          have B2 := hide (bl_tr (unhide B1) hv)
          clear hv
          go_wp2_with fail
          go_ret
          exact ⟨ret_bool (unhide HE), unhide B2⟩
        · have t4 : (ON == N) = false := by simp [c4]
          have HE : Hid (false = R) := hide (by rw [unhide HR, t1, c3, t4]; simp)
          clear HR c1 c2 c3 c4
          go_wp2_with fail
          refine (unhide C3 _).mono ?_
          rintro e v ⟨rfl, hv⟩
          have B1 := hide (bl_tr (al1p w (Obj.cells #[.int .i64 ty, .slice pd ds.length cd, .slice pf fs.length cf, .slice pi is.length ci, .slice pb bs.length cb] 80)) hv)
          clear hv
          go_wp2_with fail
          go_ret
          exact ⟨ret_bool (unhide HE), unhide B1⟩
      · have t3 : (E != 0) = true := by simp [c3]
        have HE : Hid (true = R) := hide (by rw [unhide HR, t1, t3]; simp [c2])
        clear HR c1 c2 c3
        go_wp2_with fail
        go_ret
        exact ⟨ret_bool (unhide HE), al1p _ _⟩
/-- May a value be? -/
def mayV (v : ValD) : Bool := knownB v.2.1 && (countV v.2.2).2 != 1
set_option maxRecDepth 100000 in
set_option maxHeartbeats 1000000 in
theorem cvalMay_any (a : VaA) {B : Nat} (w : World) (h : VaIn B w a) :
    Calls Tryz.prog 86 #[.agg (vaCells a).toArray] w fun e w' => e = .returned (.bool (mayV a.d)) ∧ Below w.heap.size w w' := by
  obtain ⟨nm, ty, ds, q, c⟩ := a
  have C1 := hide (fun v (hv : Below w.heap.size w v) => ccount_any q c ds v (h.2.2.1.below hv))
  have C2 := hide (fun v => cwidth_any ty v)
  obtain ⟨R, hR⟩ : ∃ R, mayV (VaA.d ⟨nm, ty, ds, q, c⟩) = R := ⟨_, rfl⟩
  have HR : Hid (R = (!(widthV ty == 0) && (countV ds).2 != 1)) := hide (by rw [← hR, width_knownB, Bool.not_not]; rfl)
  have hw0 : 0 ≤ widthV ty := by unfold widthV; split <;> (try split) <;> (try split) <;> omega
  rw [hR]
  clear hR h
  generalize widthV ty = WD at C2 HR hw0
  generalize countV ds = C at C1 HR
  obtain ⟨N, E⟩ := C
  simp only at C1 HR
  unfold vaCells strV
  simp only
  go_enter Tryz.func86, Tryz.ntmps86
  go_wp2_with fail
  refine (unhide C1 _ (al1p _ _)).mono ?_
  rintro e v ⟨rfl, hv⟩
  replace hv := hv.symm
  subst hv
  go_wp2_with fail
  refine (unhide C2 _).mono ?_
  rintro e v ⟨rfl, hv⟩
  replace hv := hv.symm
  subst hv
  by_cases c1 : WD = 0
  · have t1 : ¬ 0 < WD := by omega
    have HE : Hid (false = R) := hide (by rw [unhide HR, c1]; rfl)
    clear HR c1
    go_wp2_with fail
    go_ret
    exact ⟨ret_bool (unhide HE), al1p _ _⟩
  · have t1 : 0 < WD := by omega
    have HE : Hid ((E != 1) = R) := hide (by rw [unhide HR]; simp [c1])
    clear HR c1
    go_wp2_with fail
    go_ret
    exact ⟨ret_bool (unhide HE), al1p _ _⟩
/-- Are dims too much? -/
def muchD (d : List Int) : Bool := (countV d).2 == 8
set_option maxRecDepth 100000 in
theorem cdimsMuch_any (p : Option Addr) (c : Nat) (ds : List Int) (w : World) (h : Ints .i64 w p c ds) :
    Calls Tryz.prog 147 #[.slice p ds.length c] w fun e w' => e = .returned (.bool (muchD ds)) ∧ w' = w := by
  have C1 := hide (ccount_any p c ds w h)
  unfold muchD
  generalize countV ds = C at C1 ⊢
  obtain ⟨N, E⟩ := C
  simp only at C1 ⊢
  clear h
  go_enter Tryz.func147, Tryz.ntmps147
  go_wp2_with fail
  refine (unhide C1).mono ?_
  rintro e v ⟨rfl, hv⟩
  replace hv := hv.symm
  subst hv
  go_wp2_with fail
  go_ret
  exact ⟨rfl, rfl⟩
/-- Is a name too long? -/
def muchN (s : Str) : Bool := decide ((256 : Int) < s.length)
set_option maxRecDepth 100000 in
theorem cnameMuch_any (s : Str) (w : World) : Calls Tryz.prog 87 #[strV s] w fun e w' => e = .returned (.bool (muchN s)) ∧ w' = w := by
  unfold muchN strV
  have hl := str_len s
  go_enter Tryz.func87, Tryz.ntmps87
  go_wp2_with fail
  go_ret
  exact ⟨rfl, rfl⟩
end Go.Proofs.YtkjlhmojdffooaaGreat
