import Derived.Test.YtbepkmehnghmcaaJG

/-
  Layer 5: the code's places and the elements at them.
-/
namespace Go.Proofs.Ytbepkmehnghmcaa
open Go.RowKit
set_option linter.unusedVariables false

set_option maxRecDepth 100000 in
set_option maxHeartbeats 2000000 in
theorem twithin_any (p : Option Addr) (c : Nat) (at' : List Int) (N : Nat) (w : World) (h : Ints .i64 w p c at') :
    Calls Try.prog 49 #[.slice p at'.length c, .int .i64 N] w fun e w' => e = .returned (.bool (decide (¬ ∃ a ∈ at', a < -1 ∨ (N : Int) ≤ a))) ∧ w' = w := by
  have A1 := hide h
  have nx := h.len
  clear h
  obtain ⟨D, hD⟩ : ∃ D, decide (¬ ∃ a ∈ at', a < -1 ∨ (N : Int) ≤ a) = D := ⟨_, rfl⟩
  have HD := hide hD
  rw [hD]
  clear hD
  go_enter Try.func49, Try.ntmps49
  go_wp2_with fail
  go_loopw [9] (fun iv wr => ∃ n : Nat, iv = .int .i64 n ∧ n ≤ at'.length ∧ Hid (∀ a ∈ at'.take n, ¬ (a < -1 ∨ (N : Int) ≤ a)) ∧ wr = w) (fun iv _ => at'.length - (intOf iv).toNat)
  case atStart => exact ⟨0, rfl, by omega, hide (by simp), rfl⟩
  case round =>
    obtain ⟨n, rfl, hn, HN, rfl⟩ := hrel
    by_cases hlt : n < at'.length
    · have hi : (n : Int) < (at'.length : Int) := by omega
      obtain ⟨b3, o3, rfl, hb3, hc3⟩ := (unhide A1).lies (by omega)
      have k3 : wr.cell? ⟨b3, o3 + n, none⟩ = some (.int .i64 (at'.getD n 0)) := hc3 n hlt
      obtain ⟨r0, r1⟩ := (unhide A1).i64 n hlt
      have HT := hide (take_succ at' n hlt)
      have HM := hide (getD_mem5 hlt)
      clear hc3
      generalize at'.getD n 0 = a at k3 r0 r1 HT HM
      by_cases hlo : a < -1
      · have t1 : decide (a < -1) = true := by simp [hlo]
        have HE : Hid (D = false) := hide (by rw [← unhide HD]; exact decide_eq_false (fun hh => hh ⟨a, unhide HM, .inl hlo⟩))
        clear hlo
        go_wp2_with fail
        go_ret
        exact ⟨ret_bool (unhide HE).symm, rfl⟩
      · have t1 : decide (a < -1) = false := by simp; omega
        by_cases hhi : (N : Int) ≤ a
        · have t2 : decide ((N : Int) ≤ a) = true := by simp [hhi]
          have HE : Hid (D = false) := hide (by rw [← unhide HD]; exact decide_eq_false (fun hh => hh ⟨a, unhide HM, .inr hhi⟩))
          go_wp2_with fail
          go_ret
          exact ⟨ret_bool (unhide HE).symm, rfl⟩
        · have t2 : decide ((N : Int) ≤ a) = false := by simp; omega
          have HN2 : Hid (∀ a ∈ at'.take (n + 1), ¬ (a < -1 ∨ (N : Int) ≤ a)) := hide (by
            rw [unhide HT]; intro y hy
            rcases List.mem_append.1 hy with g | g
            · exact unhide HN y g
            · simp at g; subst g; omega)
          clear HN HT HM
          go_wp2_with fail
          go_roundw
          case rel => exact ⟨n + 1, by go_num, by omega, HN2, by trivial⟩
          case measure => simp [intOf]; omega
    · have hi : ¬ (n : Int) < (at'.length : Int) := by omega
      have HE : Hid (D = true) := hide (by
        rw [← unhide HD]
        refine decide_eq_true (fun hh => ?_)
        obtain ⟨a, ha, hb⟩ := hh
        have := unhide HN a (by rw [List.take_of_length_le (by omega)]; exact ha)
        exact this hb)
      clear HN
      go_wp2_with fail
      go_ret
      exact ⟨ret_bool (unhide HE).symm, rfl⟩
set_option maxRecDepth 100000 in
set_option maxHeartbeats 4000000 in
theorem picked_uint32 (p p3 : Option Addr) (c c3 : Nat) (xs : List Int) (at' : List Int) (w : World) (h : Ls (Value.int .u32) w p c xs) (h3 : Ints .i64 w p3 c3 at') (hin : ∀ a ∈ at', ¬ (a < -1 ∨ (xs.length : Int) ≤ a)) (hs : at'.length ≤ 4096) :
    Calls Try.prog 50 #[.slice p xs.length c, .slice p3 at'.length c3] w fun e w' => (∃ q d, e = .returned (.slice q (at'.map (pkI xs)).length d) ∧ Ls (Value.int .u32) w' q d (at'.map (pkI xs)) ∧ Fresh w.heap.size w' q (at'.map (pkI xs)).length) ∧ Below w.heap.size w w' := by
  rw [List.length_map]
  obtain ⟨i1, hi1, y1, z1, b1⟩ := info_parts Try.infoU32
  have A1 := hide h
  have A3 := hide h3
  have HIN := hide hin
  have nx := h.len
  clear h h3 hin
  go_enter Try.func50, Try.ntmps50
  go_wp2_with (at_make; (refine wpList_make_full _ rfl _ _ 23 rfl w.heap.size 52 i1 (.int .u32 0) 1 Try.underlying23 hi1 y1 z1 _ _ _ _ at'.length rfl rfl (by omega) (by omega) (by rw [b1]; omega) (by unfold maxLen; omega) (Nat.le_refl _) ?_; intro w1 hown hgrow; have Q := OwnG.made (f := Value.int .u32) (z := (0 : Int)) (Below.refl _ _) rfl hown hgrow; obtain ⟨q, d, hv, L1, F1⟩ := Q.form; rw [List.length_replicate] at hv F1; rw [hv]; have HL1 := hide L1; have HF1 := hide F1; have B1 := hide Q.2; clear hown hgrow Q L1 F1 hv))
  go_loopw [13] (fun iv wr => ∃ n : Nat, iv = .int .i64 n ∧ n ≤ at'.length ∧ Hid (Ls (Value.int .u32) wr q d (partL (pkI xs) 0 at' n)) ∧ Hid (Fresh w.heap.size wr q at'.length) ∧ Hid (Below w.heap.size w wr)) (fun iv _ => at'.length - (intOf iv).toNat)
  case atStart => exact ⟨0, rfl, by omega, hide (by rw [partL_zero]; exact unhide HL1), HF1, B1⟩
  case round =>
    obtain ⟨n, rfl, hn, HL, HF, HB⟩ := hrel
    by_cases hlt : n < at'.length
    · have hi : (n : Int) < (at'.length : Int) := by omega
      obtain ⟨b3, o3, rfl, hb3, hc3⟩ := ((unhide A3).below (unhide HB)).lies (by omega)
      have k3 : wr.cell? ⟨b3, o3 + n, none⟩ = some (.int .i64 (at'.getD n 0)) := hc3 n hlt
      obtain ⟨r0, r1⟩ := (unhide A3).i64 n hlt
      have hia := unhide HIN _ (getD_mem5 hlt)
      have HPS : Hid (∀ x, x = pkI xs (at'.getD n 0) → (partL (pkI xs) 0 at' n).set n x = partL (pkI xs) 0 at' (n + 1)) := hide (fun x hx => partL_set _ _ at' n hlt x hx)
      have HPK : Hid (pkI xs (at'.getD n 0) = 0 → partL (pkI xs) 0 at' n = partL (pkI xs) 0 at' (n + 1)) := hide (fun hx => partL_skip _ _ at' n hlt hx)
      have hpl : (partL (pkI xs) 0 at' n).length = at'.length := partL_length _ _ _ _ (by omega)
      obtain ⟨b4, o4, rfl, hb4, hc4⟩ := (unhide HL).lies (by omega)
      have z4 : wr.frozen? ⟨b4, o4 + n, none⟩ = false := (unhide HF b4 o4 rfl (by omega)).2 n hlt
      have hb4b : w.heap.size ≤ b4 := (unhide HF b4 o4 rfl (by omega)).1
      have k4 := hc4 n (by omega)
      have STO := hide (fun x => (unhide HL).store n (by omega) x)
      clear hc3 hc4 hpl
      generalize at'.getD n 0 = a at k3 r0 r1 HPS HPK hia
      generalize (partL (pkI xs) 0 at' n).getD n default = old at k4
      by_cases ha : 0 ≤ a
      · obtain ⟨j, hj⟩ : ∃ j : Nat, a = (j : Int) := ⟨a.toNat, by omega⟩
        subst hj
        have hjl : j < xs.length := by omega
        obtain ⟨b1', o1, rfl, hb1, hc1⟩ := ((unhide A1).below (unhide HB)).lies (by omega)
        have hj2 : (j : Int) < (xs.length : Int) := by omega
        have k1 := hc1 j hjl
        have HX : Hid (xs.getD j default = pkI xs (j : Int)) := hide (by unfold pkI; rw [if_neg (by omega)]; rfl)
        clear hc1
        have HL2 := hide (unhide STO (xs.getD j default))
        rw [unhide HPS _ (unhide HX)] at HL2
        clear HX HPS HPK STO
        generalize xs.getD j default = x at k1 HL2
        go_wp2_with fail
        go_roundw
        case rel => exact ⟨n + 1, by go_num, by omega, HL2, hide ((unhide HF).set _ _), hide ((unhide HB).setCell hb4b _)⟩
        case measure => simp [intOf]; omega
      · have HX : Hid (pkI xs a = 0) := hide (by unfold pkI; rw [if_pos (by omega)])
        have hl2 := unhide HL
        rw [unhide HPK (unhide HX)] at hl2
        have HL2 := hide hl2
        clear HX HPS HPK STO hl2
        go_wp2_with fail
        go_roundw
        case rel => exact ⟨n + 1, by go_num, by omega, HL2, HF, HB⟩
        case measure => simp [intOf]; omega
    · have hi : ¬ (n : Int) < (at'.length : Int) := by omega
      have hl2 := unhide HL
      rw [partL_all _ _ at' n (by omega)] at hl2
      have HL2 := hide hl2
      clear hl2 HL
      go_wp2_with fail
      go_ret
      exact ⟨⟨_, _, rfl, unhide HL2, unhide HF⟩, unhide HB⟩
set_option maxRecDepth 100000 in
set_option maxHeartbeats 4000000 in
theorem picked_int64 (p p3 : Option Addr) (c c3 : Nat) (xs : List Int) (at' : List Int) (w : World) (h : Ls (Value.int .i64) w p c xs) (h3 : Ints .i64 w p3 c3 at') (hin : ∀ a ∈ at', ¬ (a < -1 ∨ (xs.length : Int) ≤ a)) (hs : at'.length ≤ 4096) :
    Calls Try.prog 51 #[.slice p xs.length c, .slice p3 at'.length c3] w fun e w' => (∃ q d, e = .returned (.slice q (at'.map (pkI xs)).length d) ∧ Ls (Value.int .i64) w' q d (at'.map (pkI xs)) ∧ Fresh w.heap.size w' q (at'.map (pkI xs)).length) ∧ Below w.heap.size w w' := by
  rw [List.length_map]
  obtain ⟨i1, hi1, y1, z1, b1⟩ := info_parts Try.infoI64
  have A1 := hide h
  have A3 := hide h3
  have HIN := hide hin
  have nx := h.len
  clear h h3 hin
  go_enter Try.func51, Try.ntmps51
  go_wp2_with (at_make; (refine wpList_make_full _ rfl _ _ 24 rfl w.heap.size 2 i1 (.int .i64 0) 1 Try.underlying24 hi1 y1 z1 _ _ _ _ at'.length rfl rfl (by omega) (by omega) (by rw [b1]; omega) (by unfold maxLen; omega) (Nat.le_refl _) ?_; intro w1 hown hgrow; have Q := OwnG.made (f := Value.int .i64) (z := (0 : Int)) (Below.refl _ _) rfl hown hgrow; obtain ⟨q, d, hv, L1, F1⟩ := Q.form; rw [List.length_replicate] at hv F1; rw [hv]; have HL1 := hide L1; have HF1 := hide F1; have B1 := hide Q.2; clear hown hgrow Q L1 F1 hv))
  go_loopw [13] (fun iv wr => ∃ n : Nat, iv = .int .i64 n ∧ n ≤ at'.length ∧ Hid (Ls (Value.int .i64) wr q d (partL (pkI xs) 0 at' n)) ∧ Hid (Fresh w.heap.size wr q at'.length) ∧ Hid (Below w.heap.size w wr)) (fun iv _ => at'.length - (intOf iv).toNat)
  case atStart => exact ⟨0, rfl, by omega, hide (by rw [partL_zero]; exact unhide HL1), HF1, B1⟩
  case round =>
    obtain ⟨n, rfl, hn, HL, HF, HB⟩ := hrel
    by_cases hlt : n < at'.length
    · have hi : (n : Int) < (at'.length : Int) := by omega
      obtain ⟨b3, o3, rfl, hb3, hc3⟩ := ((unhide A3).below (unhide HB)).lies (by omega)
      have k3 : wr.cell? ⟨b3, o3 + n, none⟩ = some (.int .i64 (at'.getD n 0)) := hc3 n hlt
      obtain ⟨r0, r1⟩ := (unhide A3).i64 n hlt
      have hia := unhide HIN _ (getD_mem5 hlt)
      have HPS : Hid (∀ x, x = pkI xs (at'.getD n 0) → (partL (pkI xs) 0 at' n).set n x = partL (pkI xs) 0 at' (n + 1)) := hide (fun x hx => partL_set _ _ at' n hlt x hx)
      have HPK : Hid (pkI xs (at'.getD n 0) = 0 → partL (pkI xs) 0 at' n = partL (pkI xs) 0 at' (n + 1)) := hide (fun hx => partL_skip _ _ at' n hlt hx)
      have hpl : (partL (pkI xs) 0 at' n).length = at'.length := partL_length _ _ _ _ (by omega)
      obtain ⟨b4, o4, rfl, hb4, hc4⟩ := (unhide HL).lies (by omega)
      have z4 : wr.frozen? ⟨b4, o4 + n, none⟩ = false := (unhide HF b4 o4 rfl (by omega)).2 n hlt
      have hb4b : w.heap.size ≤ b4 := (unhide HF b4 o4 rfl (by omega)).1
      have k4 := hc4 n (by omega)
      have STO := hide (fun x => (unhide HL).store n (by omega) x)
      clear hc3 hc4 hpl
      generalize at'.getD n 0 = a at k3 r0 r1 HPS HPK hia
      generalize (partL (pkI xs) 0 at' n).getD n default = old at k4
      by_cases ha : 0 ≤ a
      · obtain ⟨j, hj⟩ : ∃ j : Nat, a = (j : Int) := ⟨a.toNat, by omega⟩
        subst hj
        have hjl : j < xs.length := by omega
        obtain ⟨b1', o1, rfl, hb1, hc1⟩ := ((unhide A1).below (unhide HB)).lies (by omega)
        have hj2 : (j : Int) < (xs.length : Int) := by omega
        have k1 := hc1 j hjl
        have HX : Hid (xs.getD j default = pkI xs (j : Int)) := hide (by unfold pkI; rw [if_neg (by omega)]; rfl)
        clear hc1
        have HL2 := hide (unhide STO (xs.getD j default))
        rw [unhide HPS _ (unhide HX)] at HL2
        clear HX HPS HPK STO
        generalize xs.getD j default = x at k1 HL2
        go_wp2_with fail
        go_roundw
        case rel => exact ⟨n + 1, by go_num, by omega, HL2, hide ((unhide HF).set _ _), hide ((unhide HB).setCell hb4b _)⟩
        case measure => simp [intOf]; omega
      · have HX : Hid (pkI xs a = 0) := hide (by unfold pkI; rw [if_pos (by omega)])
        have hl2 := unhide HL
        rw [unhide HPK (unhide HX)] at hl2
        have HL2 := hide hl2
        clear HX HPS HPK STO hl2
        go_wp2_with fail
        go_roundw
        case rel => exact ⟨n + 1, by go_num, by omega, HL2, HF, HB⟩
        case measure => simp [intOf]; omega
    · have hi : ¬ (n : Int) < (at'.length : Int) := by omega
      have hl2 := unhide HL
      rw [partL_all _ _ at' n (by omega)] at hl2
      have HL2 := hide hl2
      clear hl2 HL
      go_wp2_with fail
      go_ret
      exact ⟨⟨_, _, rfl, unhide HL2, unhide HF⟩, unhide HB⟩
set_option maxRecDepth 100000 in
set_option maxHeartbeats 4000000 in
theorem picked_bool (p p3 : Option Addr) (c c3 : Nat) (xs : List Bool) (at' : List Int) (w : World) (h : Ls (Value.bool) w p c xs) (h3 : Ints .i64 w p3 c3 at') (hin : ∀ a ∈ at', ¬ (a < -1 ∨ (xs.length : Int) ≤ a)) (hs : at'.length ≤ 4096) :
    Calls Try.prog 52 #[.slice p xs.length c, .slice p3 at'.length c3] w fun e w' => (∃ q d, e = .returned (.slice q (at'.map (pkB xs)).length d) ∧ Ls (Value.bool) w' q d (at'.map (pkB xs)) ∧ Fresh w.heap.size w' q (at'.map (pkB xs)).length) ∧ Below w.heap.size w w' := by
  rw [List.length_map]
  obtain ⟨i1, hi1, y1, z1, b1⟩ := info_parts Try.infoB
  have A1 := hide h
  have A3 := hide h3
  have HIN := hide hin
  have nx := h.len
  clear h h3 hin
  go_enter Try.func52, Try.ntmps52
  go_wp2_with (at_make; (refine wpList_make_full _ rfl _ _ 25 rfl w.heap.size 4 i1 (.bool false) 1 Try.underlying25 hi1 y1 z1 _ _ _ _ at'.length rfl rfl (by omega) (by omega) (by rw [b1]; omega) (by unfold maxLen; omega) (Nat.le_refl _) ?_; intro w1 hown hgrow; have Q := OwnG.made (f := Value.bool) (z := false) (Below.refl _ _) rfl hown hgrow; obtain ⟨q, d, hv, L1, F1⟩ := Q.form; rw [List.length_replicate] at hv F1; rw [hv]; have HL1 := hide L1; have HF1 := hide F1; have B1 := hide Q.2; clear hown hgrow Q L1 F1 hv))
  go_loopw [13] (fun iv wr => ∃ n : Nat, iv = .int .i64 n ∧ n ≤ at'.length ∧ Hid (Ls (Value.bool) wr q d (partL (pkB xs) false at' n)) ∧ Hid (Fresh w.heap.size wr q at'.length) ∧ Hid (Below w.heap.size w wr)) (fun iv _ => at'.length - (intOf iv).toNat)
  case atStart => exact ⟨0, rfl, by omega, hide (by rw [partL_zero]; exact unhide HL1), HF1, B1⟩
  case round =>
    obtain ⟨n, rfl, hn, HL, HF, HB⟩ := hrel
    by_cases hlt : n < at'.length
    · have hi : (n : Int) < (at'.length : Int) := by omega
      obtain ⟨b3, o3, rfl, hb3, hc3⟩ := ((unhide A3).below (unhide HB)).lies (by omega)
      have k3 : wr.cell? ⟨b3, o3 + n, none⟩ = some (.int .i64 (at'.getD n 0)) := hc3 n hlt
      obtain ⟨r0, r1⟩ := (unhide A3).i64 n hlt
      have hia := unhide HIN _ (getD_mem5 hlt)
      have HPS : Hid (∀ x, x = pkB xs (at'.getD n 0) → (partL (pkB xs) false at' n).set n x = partL (pkB xs) false at' (n + 1)) := hide (fun x hx => partL_set _ _ at' n hlt x hx)
      have HPK : Hid (pkB xs (at'.getD n 0) = false → partL (pkB xs) false at' n = partL (pkB xs) false at' (n + 1)) := hide (fun hx => partL_skip _ _ at' n hlt hx)
      have hpl : (partL (pkB xs) false at' n).length = at'.length := partL_length _ _ _ _ (by omega)
      obtain ⟨b4, o4, rfl, hb4, hc4⟩ := (unhide HL).lies (by omega)
      have z4 : wr.frozen? ⟨b4, o4 + n, none⟩ = false := (unhide HF b4 o4 rfl (by omega)).2 n hlt
      have hb4b : w.heap.size ≤ b4 := (unhide HF b4 o4 rfl (by omega)).1
      have k4 := hc4 n (by omega)
      have STO := hide (fun x => (unhide HL).store n (by omega) x)
      clear hc3 hc4 hpl
      generalize at'.getD n 0 = a at k3 r0 r1 HPS HPK hia
      generalize (partL (pkB xs) false at' n).getD n default = old at k4
      by_cases ha : 0 ≤ a
      · obtain ⟨j, hj⟩ : ∃ j : Nat, a = (j : Int) := ⟨a.toNat, by omega⟩
        subst hj
        have hjl : j < xs.length := by omega
        obtain ⟨b1', o1, rfl, hb1, hc1⟩ := ((unhide A1).below (unhide HB)).lies (by omega)
        have hj2 : (j : Int) < (xs.length : Int) := by omega
        have k1 := hc1 j hjl
        have HX : Hid (xs.getD j default = pkB xs (j : Int)) := hide (by unfold pkB; rw [if_neg (by omega)]; rfl)
        clear hc1
        have HL2 := hide (unhide STO (xs.getD j default))
        rw [unhide HPS _ (unhide HX)] at HL2
        clear HX HPS HPK STO
        generalize xs.getD j default = x at k1 HL2
        go_wp2_with fail
        go_roundw
        case rel => exact ⟨n + 1, by go_num, by omega, HL2, hide ((unhide HF).set _ _), hide ((unhide HB).setCell hb4b _)⟩
        case measure => simp [intOf]; omega
      · have HX : Hid (pkB xs a = false) := hide (by unfold pkB; rw [if_pos (by omega)])
        have hl2 := unhide HL
        rw [unhide HPK (unhide HX)] at hl2
        have HL2 := hide hl2
        clear HX HPS HPK STO hl2
        go_wp2_with fail
        go_roundw
        case rel => exact ⟨n + 1, by go_num, by omega, HL2, HF, HB⟩
        case measure => simp [intOf]; omega
    · have hi : ¬ (n : Int) < (at'.length : Int) := by omega
      have hl2 := unhide HL
      rw [partL_all _ _ at' n (by omega)] at hl2
      have HL2 := hide hl2
      clear hl2 HL
      go_wp2_with fail
      go_ret
      exact ⟨⟨_, _, rfl, unhide HL2, unhide HF⟩, unhide HB⟩
end Go.Proofs.Ytbepkmehnghmcaa
