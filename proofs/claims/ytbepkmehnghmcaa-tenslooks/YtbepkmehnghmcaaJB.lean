import Derived.Test.YtbepkmehnghmcaaJA

/-
  Layer 5: the code's lists that are the same.
-/
namespace Go.Proofs.Ytbepkmehnghmcaa
open Go.RowKit
set_option linter.unusedVariables false

set_option maxRecDepth 100000 in
set_option maxHeartbeats 2000000 in
theorem equal_int (p p' : Option Addr) (c c' : Nat) (xs ys : List Int) (w : World) (h : Ls (Value.int .i64) w p c xs) (k : Ls (Value.int .i64) w p' c' ys) :
    Calls Try.prog 44 #[.slice p xs.length c, .slice p' ys.length c'] w fun e w' => e = .returned (.bool (decide (xs = ys))) ∧ Below w.heap.size w w' := by
  have A1 := hide h
  have A2 := hide k
  have nx := h.len
  have ny := k.len
  clear h k
  obtain ⟨D, hD⟩ : ∃ D, decide (xs = ys) = D := ⟨_, rfl⟩
  have HD := hide hD
  rw [hD]
  clear hD
  by_cases hl : xs.length = ys.length
  · have tl : ((xs.length : Int) != (ys.length : Int)) = false := bneF (by omega)
    have HL := hide hl
    clear hl
    go_enter Try.func44, Try.ntmps44
    go_wp2_with fail
    clear tl
    go_loopw [13] (fun iv wr => ∃ n : Nat, iv = .int .i64 n ∧ n ≤ xs.length ∧ Hid (xs.take n = ys.take n) ∧ ∃ m, wr = w.drewN m) (fun iv _ => xs.length - (intOf iv).toNat)
    case atStart => exact ⟨0, rfl, by omega, hide (by simp), 0, rfl⟩
    case round =>
      obtain ⟨n0, rfl, hn0, HT0, m0, rfl⟩ := hrel
      by_cases hlt : n0 < xs.length
      · have hlt2 : n0 < ys.length := by rw [← unhide HL]; exact hlt
        obtain ⟨b, o, rfl, hb, hc⟩ := (unhide A1).lies (by omega)
        obtain ⟨b', o', rfl, hb', hc'⟩ := (unhide A2).lies (by omega)
        have hi : (n0 : Int) < (xs.length : Int) := by omega
        have hi2 : (n0 : Int) < (ys.length : Int) := by omega
        have k1 := hc n0 hlt
        have k2 := hc' n0 hlt2
        have TE := hide (fun e => take_eq hlt hlt2 (unhide HT0) e)
        have TN := hide (take_ne (xs := xs) (ys := ys) (n := n0))
        have e0 : ∀ (l : List Int), l.getD n0 default = l.getD n0 0 := fun _ => rfl
        simp only [e0] at TE TN k1 k2
        clear hc hc' hlt2 HT0 e0
        generalize xs.getD n0 0 = x at k1 TE TN
        generalize ys.getD n0 0 = y at k2 TE TN
        by_cases hxy : x = y
        · have HT2 := hide (unhide TE hxy)
          subst hxy
          clear TE TN
          go_wp2_with fail
          go_quiet (fail)
          go_wp2_with fail
          go_roundw
          case rel => exact ⟨n0 + 1, by go_num, by omega, HT2, _, rfl⟩
          case measure => simp [intOf]; omega
        · have hne : (x == y) = false := by simp [hxy]
          have HNE : Hid (¬ xs = ys) := hide (fun h => unhide TN hxy h)
          clear TE TN hxy
          go_wp2_with fail
          go_quiet (fail)
          go_wp2_with fail
          go_ret
          exact ⟨ret_bool (by rw [← unhide HD]; exact (decide_eq_false (unhide HNE)).symm), bw_drew (bw_drew (Below.refl _ _) _) _⟩
      · have hi : ¬ (n0 : Int) < (xs.length : Int) := by omega
        have Q0 := hide (take_all (unhide HL) (show n0 = xs.length by omega) (unhide HT0))
        clear HT0
        go_wp2_with fail
        go_ret
        exact ⟨ret_bool (by rw [← unhide HD]; exact (decide_eq_true (unhide Q0)).symm), bw_drew (Below.refl _ _) _⟩
  · have tl : ((xs.length : Int) != (ys.length : Int)) = true := bneT (by omega)
    have HNE : Hid (¬ xs = ys) := hide (fun h => hl (by rw [h]))
    clear hl
    go_enter Try.func44, Try.ntmps44
    go_wp2_with fail
    go_ret
    exact ⟨ret_bool (by rw [← unhide HD]; exact (decide_eq_false (unhide HNE)).symm), Below.refl _ _⟩

set_option maxRecDepth 100000 in
set_option maxHeartbeats 2000000 in
theorem equal_uint32 (p p' : Option Addr) (c c' : Nat) (xs ys : List Int) (w : World) (h : Ls (Value.int .u32) w p c xs) (k : Ls (Value.int .u32) w p' c' ys) :
    Calls Try.prog 45 #[.slice p xs.length c, .slice p' ys.length c'] w fun e w' => e = .returned (.bool (decide (xs = ys))) ∧ Below w.heap.size w w' := by
  have A1 := hide h
  have A2 := hide k
  have nx := h.len
  have ny := k.len
  clear h k
  obtain ⟨D, hD⟩ : ∃ D, decide (xs = ys) = D := ⟨_, rfl⟩
  have HD := hide hD
  rw [hD]
  clear hD
  by_cases hl : xs.length = ys.length
  · have tl : ((xs.length : Int) != (ys.length : Int)) = false := bneF (by omega)
    have HL := hide hl
    clear hl
    go_enter Try.func45, Try.ntmps45
    go_wp2_with fail
    clear tl
    go_loopw [13] (fun iv wr => ∃ n : Nat, iv = .int .i64 n ∧ n ≤ xs.length ∧ Hid (xs.take n = ys.take n) ∧ ∃ m, wr = w.drewN m) (fun iv _ => xs.length - (intOf iv).toNat)
    case atStart => exact ⟨0, rfl, by omega, hide (by simp), 0, rfl⟩
    case round =>
      obtain ⟨n0, rfl, hn0, HT0, m0, rfl⟩ := hrel
      by_cases hlt : n0 < xs.length
      · have hlt2 : n0 < ys.length := by rw [← unhide HL]; exact hlt
        obtain ⟨b, o, rfl, hb, hc⟩ := (unhide A1).lies (by omega)
        obtain ⟨b', o', rfl, hb', hc'⟩ := (unhide A2).lies (by omega)
        have hi : (n0 : Int) < (xs.length : Int) := by omega
        have hi2 : (n0 : Int) < (ys.length : Int) := by omega
        have k1 := hc n0 hlt
        have k2 := hc' n0 hlt2
        have TE := hide (fun e => take_eq hlt hlt2 (unhide HT0) e)
        have TN := hide (take_ne (xs := xs) (ys := ys) (n := n0))
        have e0 : ∀ (l : List Int), l.getD n0 default = l.getD n0 0 := fun _ => rfl
        simp only [e0] at TE TN k1 k2
        clear hc hc' hlt2 HT0 e0
        generalize xs.getD n0 0 = x at k1 TE TN
        generalize ys.getD n0 0 = y at k2 TE TN
        by_cases hxy : x = y
        · have HT2 := hide (unhide TE hxy)
          subst hxy
          clear TE TN
          go_wp2_with fail
          go_quiet (fail)
          go_wp2_with fail
          go_roundw
          case rel => exact ⟨n0 + 1, by go_num, by omega, HT2, _, rfl⟩
          case measure => simp [intOf]; omega
        · have hne : (x == y) = false := by simp [hxy]
          have HNE : Hid (¬ xs = ys) := hide (fun h => unhide TN hxy h)
          clear TE TN hxy
          go_wp2_with fail
          go_quiet (fail)
          go_wp2_with fail
          go_ret
          exact ⟨ret_bool (by rw [← unhide HD]; exact (decide_eq_false (unhide HNE)).symm), bw_drew (bw_drew (Below.refl _ _) _) _⟩
      · have hi : ¬ (n0 : Int) < (xs.length : Int) := by omega
        have Q0 := hide (take_all (unhide HL) (show n0 = xs.length by omega) (unhide HT0))
        clear HT0
        go_wp2_with fail
        go_ret
        exact ⟨ret_bool (by rw [← unhide HD]; exact (decide_eq_true (unhide Q0)).symm), bw_drew (Below.refl _ _) _⟩
  · have tl : ((xs.length : Int) != (ys.length : Int)) = true := bneT (by omega)
    have HNE : Hid (¬ xs = ys) := hide (fun h => hl (by rw [h]))
    clear hl
    go_enter Try.func45, Try.ntmps45
    go_wp2_with fail
    go_ret
    exact ⟨ret_bool (by rw [← unhide HD]; exact (decide_eq_false (unhide HNE)).symm), Below.refl _ _⟩

set_option maxRecDepth 100000 in
set_option maxHeartbeats 2000000 in
theorem equal_int64 (p p' : Option Addr) (c c' : Nat) (xs ys : List Int) (w : World) (h : Ls (Value.int .i64) w p c xs) (k : Ls (Value.int .i64) w p' c' ys) :
    Calls Try.prog 46 #[.slice p xs.length c, .slice p' ys.length c'] w fun e w' => e = .returned (.bool (decide (xs = ys))) ∧ Below w.heap.size w w' := by
  have A1 := hide h
  have A2 := hide k
  have nx := h.len
  have ny := k.len
  clear h k
  obtain ⟨D, hD⟩ : ∃ D, decide (xs = ys) = D := ⟨_, rfl⟩
  have HD := hide hD
  rw [hD]
  clear hD
  by_cases hl : xs.length = ys.length
  · have tl : ((xs.length : Int) != (ys.length : Int)) = false := bneF (by omega)
    have HL := hide hl
    clear hl
    go_enter Try.func46, Try.ntmps46
    go_wp2_with fail
    clear tl
    go_loopw [13] (fun iv wr => ∃ n : Nat, iv = .int .i64 n ∧ n ≤ xs.length ∧ Hid (xs.take n = ys.take n) ∧ ∃ m, wr = w.drewN m) (fun iv _ => xs.length - (intOf iv).toNat)
    case atStart => exact ⟨0, rfl, by omega, hide (by simp), 0, rfl⟩
    case round =>
      obtain ⟨n0, rfl, hn0, HT0, m0, rfl⟩ := hrel
      by_cases hlt : n0 < xs.length
      · have hlt2 : n0 < ys.length := by rw [← unhide HL]; exact hlt
        obtain ⟨b, o, rfl, hb, hc⟩ := (unhide A1).lies (by omega)
        obtain ⟨b', o', rfl, hb', hc'⟩ := (unhide A2).lies (by omega)
        have hi : (n0 : Int) < (xs.length : Int) := by omega
        have hi2 : (n0 : Int) < (ys.length : Int) := by omega
        have k1 := hc n0 hlt
        have k2 := hc' n0 hlt2
        have TE := hide (fun e => take_eq hlt hlt2 (unhide HT0) e)
        have TN := hide (take_ne (xs := xs) (ys := ys) (n := n0))
        have e0 : ∀ (l : List Int), l.getD n0 default = l.getD n0 0 := fun _ => rfl
        simp only [e0] at TE TN k1 k2
        clear hc hc' hlt2 HT0 e0
        generalize xs.getD n0 0 = x at k1 TE TN
        generalize ys.getD n0 0 = y at k2 TE TN
        by_cases hxy : x = y
        · have HT2 := hide (unhide TE hxy)
          subst hxy
          clear TE TN
          go_wp2_with fail
          go_quiet (fail)
          go_wp2_with fail
          go_roundw
          case rel => exact ⟨n0 + 1, by go_num, by omega, HT2, _, rfl⟩
          case measure => simp [intOf]; omega
        · have hne : (x == y) = false := by simp [hxy]
          have HNE : Hid (¬ xs = ys) := hide (fun h => unhide TN hxy h)
          clear TE TN hxy
          go_wp2_with fail
          go_quiet (fail)
          go_wp2_with fail
          go_ret
          exact ⟨ret_bool (by rw [← unhide HD]; exact (decide_eq_false (unhide HNE)).symm), bw_drew (bw_drew (Below.refl _ _) _) _⟩
      · have hi : ¬ (n0 : Int) < (xs.length : Int) := by omega
        have Q0 := hide (take_all (unhide HL) (show n0 = xs.length by omega) (unhide HT0))
        clear HT0
        go_wp2_with fail
        go_ret
        exact ⟨ret_bool (by rw [← unhide HD]; exact (decide_eq_true (unhide Q0)).symm), bw_drew (Below.refl _ _) _⟩
  · have tl : ((xs.length : Int) != (ys.length : Int)) = true := bneT (by omega)
    have HNE : Hid (¬ xs = ys) := hide (fun h => hl (by rw [h]))
    clear hl
    go_enter Try.func46, Try.ntmps46
    go_wp2_with fail
    go_ret
    exact ⟨ret_bool (by rw [← unhide HD]; exact (decide_eq_false (unhide HNE)).symm), Below.refl _ _⟩

set_option maxRecDepth 100000 in
set_option maxHeartbeats 2000000 in
theorem equal_bool (p p' : Option Addr) (c c' : Nat) (xs ys : List Bool) (w : World) (h : Ls (Value.bool) w p c xs) (k : Ls (Value.bool) w p' c' ys) :
    Calls Try.prog 47 #[.slice p xs.length c, .slice p' ys.length c'] w fun e w' => e = .returned (.bool (decide (xs = ys))) ∧ Below w.heap.size w w' := by
  have A1 := hide h
  have A2 := hide k
  have nx := h.len
  have ny := k.len
  clear h k
  obtain ⟨D, hD⟩ : ∃ D, decide (xs = ys) = D := ⟨_, rfl⟩
  have HD := hide hD
  rw [hD]
  clear hD
  by_cases hl : xs.length = ys.length
  · have tl : ((xs.length : Int) != (ys.length : Int)) = false := bneF (by omega)
    have HL := hide hl
    clear hl
    go_enter Try.func47, Try.ntmps47
    go_wp2_with fail
    clear tl
    go_loopw [13] (fun iv wr => ∃ n : Nat, iv = .int .i64 n ∧ n ≤ xs.length ∧ Hid (xs.take n = ys.take n) ∧ ∃ m, wr = w.drewN m) (fun iv _ => xs.length - (intOf iv).toNat)
    case atStart => exact ⟨0, rfl, by omega, hide (by simp), 0, rfl⟩
    case round =>
      obtain ⟨n0, rfl, hn0, HT0, m0, rfl⟩ := hrel
      by_cases hlt : n0 < xs.length
      · have hlt2 : n0 < ys.length := by rw [← unhide HL]; exact hlt
        obtain ⟨b, o, rfl, hb, hc⟩ := (unhide A1).lies (by omega)
        obtain ⟨b', o', rfl, hb', hc'⟩ := (unhide A2).lies (by omega)
        have hi : (n0 : Int) < (xs.length : Int) := by omega
        have hi2 : (n0 : Int) < (ys.length : Int) := by omega
        have k1 := hc n0 hlt
        have k2 := hc' n0 hlt2
        have TE := hide (fun e => take_eq hlt hlt2 (unhide HT0) e)
        have TN := hide (take_ne (xs := xs) (ys := ys) (n := n0))
        have e0 : ∀ (l : List Bool), l.getD n0 default = l.getD n0 false := fun _ => rfl
        simp only [e0] at TE TN k1 k2
        clear hc hc' hlt2 HT0 e0
        generalize xs.getD n0 false = x at k1 TE TN
        generalize ys.getD n0 false = y at k2 TE TN
        by_cases hxy : x = y
        · have HT2 := hide (unhide TE hxy)
          subst hxy
          clear TE TN
          go_wp2_with fail
          go_quiet (fail)
          go_wp2_with fail
          go_roundw
          case rel => exact ⟨n0 + 1, by go_num, by omega, HT2, _, rfl⟩
          case measure => simp [intOf]; omega
        · have hne : (x == y) = false := by simp [hxy]
          have HNE : Hid (¬ xs = ys) := hide (fun h => unhide TN hxy h)
          clear TE TN hxy
          go_wp2_with fail
          go_quiet (fail)
          go_wp2_with fail
          go_ret
          exact ⟨ret_bool (by rw [← unhide HD]; exact (decide_eq_false (unhide HNE)).symm), bw_drew (bw_drew (Below.refl _ _) _) _⟩
      · have hi : ¬ (n0 : Int) < (xs.length : Int) := by omega
        have Q0 := hide (take_all (unhide HL) (show n0 = xs.length by omega) (unhide HT0))
        clear HT0
        go_wp2_with fail
        go_ret
        exact ⟨ret_bool (by rw [← unhide HD]; exact (decide_eq_true (unhide Q0)).symm), bw_drew (Below.refl _ _) _⟩
  · have tl : ((xs.length : Int) != (ys.length : Int)) = true := bneT (by omega)
    have HNE : Hid (¬ xs = ys) := hide (fun h => hl (by rw [h]))
    clear hl
    go_enter Try.func47, Try.ntmps47
    go_wp2_with fail
    go_ret
    exact ⟨ret_bool (by rw [← unhide HD]; exact (decide_eq_false (unhide HNE)).symm), Below.refl _ _⟩

end Go.Proofs.Ytbepkmehnghmcaa
