import Derived.Test.YtbepkmehnghmcaaJJ
import Derived.Test.YtbepkmehnghmcaaIT

/-
  Layer 5: the code's bytes of a list.
-/
namespace Go.Proofs.Ytbepkmehnghmcaa
open Go.RowKit
set_option linter.unusedVariables false

set_option maxRecDepth 100000 in
theorem bits_uint32 (x : Int) (r0 : 0 ≤ x) (r1 : x < 4294967296) (w : World) : Calls Try.prog 55 #[.int .u32 x] w fun e w' => e = .returned (.int .u64 (id x)) ∧ w' = w := by
  have e0 : id x = x := rfl
  rw [e0]
  clear e0
  go_enter Try.func55, Try.ntmps55
  go_wp2_with fail
  go_ret
  exact ⟨rfl, rfl⟩
set_option maxRecDepth 100000 in
theorem bits_int64 (x : Int) (r0 : -9223372036854775808 ≤ x) (r1 : x < 9223372036854775808) (w : World) : Calls Try.prog 57 #[.int .i64 x] w fun e w' => e = .returned (.int .u64 (toU x)) ∧ w' = w := by
  have hcv : x % 18446744073709551616 = toU x := rfl
  rw [← hcv]
  clear hcv
  go_enter Try.func57, Try.ntmps57
  go_wp2_with fail
  go_ret
  exact ⟨ret_int (by first | rfl | omega), rfl⟩
set_option maxRecDepth 100000 in
theorem bits_bool (x : Bool) (w : World) : Calls Try.prog 59 #[.bool x] w fun e w' => e = .returned (.int .u64 (b01 x)) ∧ w' = w := by
  cases x
  · have e0 : b01 false = 0 := rfl
    rw [e0]
    clear e0
    go_enter Try.func59, Try.ntmps59
    go_wp2_with fail
    go_ret
    exact ⟨rfl, rfl⟩
  · have e0 : b01 true = 1 := rfl
    rw [e0]
    clear e0
    go_enter Try.func59, Try.ntmps59
    go_wp2_with fail
    go_ret
    exact ⟨rfl, rfl⟩
set_option maxRecDepth 100000 in
set_option maxHeartbeats 2000000 in
theorem laid_uint32 (p : Option Addr) (c : Nat) (xs : List Int) (w0 w : World) (v : Value) (pre : List Int) (h : Ints .u32 w0 p c xs) (hO : OwnG 5 (Value.int .u8) w0 w v pre) (hs : pre.length + xs.length * 4 ≤ 1000000) :
    Calls Try.prog 54 #[v, .slice p xs.length c, .int .i64 4, .func (.func 55) #[] #[]] w fun e w' => ∃ v', e = .returned v' ∧ OwnG 5 (Value.int .u8) w0 w' v' (pre ++ bytesOf id 4 xs) := by
  obtain ⟨i1, hi1, y1, z1, b1⟩ := info_parts Try.infoU8
  have A1 := hide h
  have O0 := hide hO
  clear h hO
  go_enter Try.func54, Try.ntmps54
  go_wp2_with fail
  go_loopw [0, 14] (fun v iv wr => ∃ n : Nat, iv = .int .i64 n ∧ n ≤ xs.length ∧ OwnG 5 (Value.int .u8) w0 wr v (pre ++ bytesOf id 4 (xs.take n))) (fun _ iv _ => xs.length - (intOf iv).toNat)
  case atStart => exact ⟨0, rfl, by omega, by simpa [bytesOf] using unhide O0⟩
  case round =>
    obtain ⟨n, rfl, hn, hO⟩ := hrel
    have O := hide hO
    clear hO
    by_cases hlt : n < xs.length
    · have hi : (n : Int) < (xs.length : Int) := by omega
      obtain ⟨b, o, rfl, hb, hc⟩ := (unhide A1).ls.lies (show 0 < xs.length by omega)
      have k1 : wr.cell? ⟨b, o + n, none⟩ = some (.int .u32 (xs.getD n 0)) := ((unhide O).2.cell (p := ⟨b, o + n, none⟩) hb).trans (hc n hlt)
      have HT : Hid (xs.take (n + 1) = xs.take n ++ [xs.getD n 0]) := hide (take_succ xs n hlt)
      obtain ⟨r0, r1⟩ := wf_u32_iff ((unhide A1).wf n hlt)
      have hl : (pre ++ bytesOf id 4 (xs.take n)).length = pre.length + n * 4 := by rw [List.length_append, bytesOf_length, List.length_take]; congr 2; omega
      have BT := hide (fun w => bits_uint32 (xs.getD n 0) r0 r1 w)
      have u0 : 0 ≤ id (xs.getD n 0) := by show 0 ≤ xs.getD n 0; exact r0
      have u1 : id (xs.getD n 0) < 18446744073709551616 := by show xs.getD n 0 < _; omega
      have hnk : n * 4 + 4 ≤ xs.length * 4 := by omega
      clear hc r0 r1
      generalize xs.getD n 0 = x at k1 HT BT u0 u1
      obtain ⟨X, hX⟩ : ∃ X, id x = X := ⟨_, rfl⟩
      rw [hX] at BT u0 u1
      have HX := hide hX
      clear hX
      go_wp2_with fail
      refine (unhide BT _).mono ?_
      rintro e w5 ⟨rfl, hv⟩
      replace hv := hv.symm
      subst hv
      clear BT
      go_wp2_with fail
      go_loopw [0, 11, 22] (fun v yv kv wq => ∃ j : Nat, ∃ y : Int, kv = .int .i64 j ∧ yv = .int .u64 y ∧ j ≤ 4 ∧ 0 ≤ y ∧ y < 18446744073709551616 ∧ Hid (y = X / 256 ^ j) ∧ OwnG 5 (Value.int .u8) w0 wq v (pre ++ bytesOf id 4 (xs.take n) ++ leL X j)) (fun _ _ kv _ => 4 - (intOf kv).toNat)
      case atStart => exact ⟨0, X, rfl, rfl, by omega, u0, u1, hide (by simp), by simpa [leL] using unhide O⟩
      case round =>
        obtain ⟨j, y, rfl, rfl, hj, v0, v1, HY, hQ⟩ := hrel
        have Q := hide hQ
        clear hQ
        by_cases hjl : j < 4
        · have hji : (j : Int) < 4 := by omega
          have d0 : 0 ≤ y / 256 := by omega
          have d1 : y / 256 < 18446744073709551616 := by omega
          have m0 : 0 ≤ y % 256 := by omega
          have m1 : y % 256 < 256 := by omega
          have hl2 : (pre ++ bytesOf id 4 (xs.take n) ++ leL X j).length = pre.length + n * 4 + j := by rw [List.length_append, hl, leL_length]
          have HS : Hid (leL X (j + 1) = leL X j ++ [y % 256]) := hide (by rw [unhide HY]; rfl)
          have HY2 : Hid (y / 256 = X / 256 ^ (j + 1)) := hide (by rw [unhide HY]; exact div_step _ _)
          obtain ⟨m, hm⟩ : ∃ m, y % 256 = m := ⟨_, rfl⟩
          rw [hm] at m0 m1 HS
          have hwr : IntKind.u8.wrap m = m := by rw [IntKind.wrap_u8]; omega
          clear HY
          go_wp2_with (at_builtin; (refine wpList_append_ls rfl _ _ 43 rfl w0 5 i1 (.int .u8 0) 1 Try.underlying43 hi1 y1 z1 b1 rfl (int_one .u8) _ (pre ++ bytesOf id 4 (xs.take n) ++ leL X j) rfl ((unhide Q).below (al1 _ _)) (some ⟨_, 0, none⟩) 1 [m] rfl (ls_one _ _ _) (by unfold maxLen; rw [hl2]; simp <;> omega) (by rw [hl2]; simp <;> omega) ?_; intro v2 w2 O2; have HO2 := hide O2; clear O2))
          go_roundw
          case rel => exact ⟨j + 1, y / 256, by go_num, rfl, by omega, d0, d1, HY2, by rw [unhide HS, ← List.append_assoc]; exact unhide HO2⟩
          case measure => simp [intOf]; omega
        · have hji : ¬ (j : Int) < 4 := by omega
          have ej : j = 4 := by omega
          subst ej
          have O3 := hide (own_eq (unhide Q) (show _ = pre ++ bytesOf id 4 (xs.take (n + 1)) by rw [unhide HT, bytesOf_snoc, unhide HX, List.append_assoc]))
          clear Q HY
          go_wp2_with fail
          go_roundw
          case rel => exact ⟨n + 1, by go_num, by omega, unhide O3⟩
          case measure => simp [intOf]; omega
    · have hi : ¬ (n : Int) < (xs.length : Int) := by omega
      have O3 := hide (own_eq (unhide O) (show _ = pre ++ bytesOf id 4 xs by rw [List.take_of_length_le (by omega)]))
      clear O
      go_wp2_with fail
      go_ret
      exact ⟨_, rfl, unhide O3⟩
set_option maxRecDepth 100000 in
set_option maxHeartbeats 2000000 in
theorem laid_int64 (p : Option Addr) (c : Nat) (xs : List Int) (w0 w : World) (v : Value) (pre : List Int) (h : Ints .i64 w0 p c xs) (hO : OwnG 5 (Value.int .u8) w0 w v pre) (hs : pre.length + xs.length * 8 ≤ 1000000) :
    Calls Try.prog 56 #[v, .slice p xs.length c, .int .i64 8, .func (.func 57) #[] #[]] w fun e w' => ∃ v', e = .returned v' ∧ OwnG 5 (Value.int .u8) w0 w' v' (pre ++ bytesOf toU 8 xs) := by
  obtain ⟨i1, hi1, y1, z1, b1⟩ := info_parts Try.infoU8
  have A1 := hide h
  have O0 := hide hO
  clear h hO
  go_enter Try.func56, Try.ntmps56
  go_wp2_with fail
  go_loopw [0, 14] (fun v iv wr => ∃ n : Nat, iv = .int .i64 n ∧ n ≤ xs.length ∧ OwnG 5 (Value.int .u8) w0 wr v (pre ++ bytesOf toU 8 (xs.take n))) (fun _ iv _ => xs.length - (intOf iv).toNat)
  case atStart => exact ⟨0, rfl, by omega, by simpa [bytesOf] using unhide O0⟩
  case round =>
    obtain ⟨n, rfl, hn, hO⟩ := hrel
    have O := hide hO
    clear hO
    by_cases hlt : n < xs.length
    · have hi : (n : Int) < (xs.length : Int) := by omega
      obtain ⟨b, o, rfl, hb, hc⟩ := (unhide A1).ls.lies (show 0 < xs.length by omega)
      have k1 : wr.cell? ⟨b, o + n, none⟩ = some (.int .i64 (xs.getD n 0)) := ((unhide O).2.cell (p := ⟨b, o + n, none⟩) hb).trans (hc n hlt)
      have HT : Hid (xs.take (n + 1) = xs.take n ++ [xs.getD n 0]) := hide (take_succ xs n hlt)
      obtain ⟨r0, r1⟩ := (unhide A1).i64 n hlt
      have hl : (pre ++ bytesOf toU 8 (xs.take n)).length = pre.length + n * 8 := by rw [List.length_append, bytesOf_length, List.length_take]; congr 2; omega
      have BT := hide (fun w => bits_int64 (xs.getD n 0) r0 r1 w)
      have u0 : 0 ≤ toU (xs.getD n 0) := by unfold toU; omega
      have u1 : toU (xs.getD n 0) < 18446744073709551616 := by unfold toU; omega
      have hnk : n * 8 + 8 ≤ xs.length * 8 := by omega
      clear hc r0 r1
      generalize xs.getD n 0 = x at k1 HT BT u0 u1
      obtain ⟨X, hX⟩ : ∃ X, toU x = X := ⟨_, rfl⟩
      rw [hX] at BT u0 u1
      have HX := hide hX
      clear hX
      go_wp2_with fail
      refine (unhide BT _).mono ?_
      rintro e w5 ⟨rfl, hv⟩
      replace hv := hv.symm
      subst hv
      clear BT
      go_wp2_with fail
      go_loopw [0, 11, 22] (fun v yv kv wq => ∃ j : Nat, ∃ y : Int, kv = .int .i64 j ∧ yv = .int .u64 y ∧ j ≤ 8 ∧ 0 ≤ y ∧ y < 18446744073709551616 ∧ Hid (y = X / 256 ^ j) ∧ OwnG 5 (Value.int .u8) w0 wq v (pre ++ bytesOf toU 8 (xs.take n) ++ leL X j)) (fun _ _ kv _ => 8 - (intOf kv).toNat)
      case atStart => exact ⟨0, X, rfl, rfl, by omega, u0, u1, hide (by simp), by simpa [leL] using unhide O⟩
      case round =>
        obtain ⟨j, y, rfl, rfl, hj, v0, v1, HY, hQ⟩ := hrel
        have Q := hide hQ
        clear hQ
        by_cases hjl : j < 8
        · have hji : (j : Int) < 8 := by omega
          have d0 : 0 ≤ y / 256 := by omega
          have d1 : y / 256 < 18446744073709551616 := by omega
          have m0 : 0 ≤ y % 256 := by omega
          have m1 : y % 256 < 256 := by omega
          have hl2 : (pre ++ bytesOf toU 8 (xs.take n) ++ leL X j).length = pre.length + n * 8 + j := by rw [List.length_append, hl, leL_length]
          have HS : Hid (leL X (j + 1) = leL X j ++ [y % 256]) := hide (by rw [unhide HY]; rfl)
          have HY2 : Hid (y / 256 = X / 256 ^ (j + 1)) := hide (by rw [unhide HY]; exact div_step _ _)
          obtain ⟨m, hm⟩ : ∃ m, y % 256 = m := ⟨_, rfl⟩
          rw [hm] at m0 m1 HS
          have hwr : IntKind.u8.wrap m = m := by rw [IntKind.wrap_u8]; omega
          clear HY
          go_wp2_with (at_builtin; (refine wpList_append_ls rfl _ _ 43 rfl w0 5 i1 (.int .u8 0) 1 Try.underlying43 hi1 y1 z1 b1 rfl (int_one .u8) _ (pre ++ bytesOf toU 8 (xs.take n) ++ leL X j) rfl ((unhide Q).below (al1 _ _)) (some ⟨_, 0, none⟩) 1 [m] rfl (ls_one _ _ _) (by unfold maxLen; rw [hl2]; simp <;> omega) (by rw [hl2]; simp <;> omega) ?_; intro v2 w2 O2; have HO2 := hide O2; clear O2))
          go_roundw
          case rel => exact ⟨j + 1, y / 256, by go_num, rfl, by omega, d0, d1, HY2, by rw [unhide HS, ← List.append_assoc]; exact unhide HO2⟩
          case measure => simp [intOf]; omega
        · have hji : ¬ (j : Int) < 8 := by omega
          have ej : j = 8 := by omega
          subst ej
          have O3 := hide (own_eq (unhide Q) (show _ = pre ++ bytesOf toU 8 (xs.take (n + 1)) by rw [unhide HT, bytesOf_snoc, unhide HX, List.append_assoc]))
          clear Q HY
          go_wp2_with fail
          go_roundw
          case rel => exact ⟨n + 1, by go_num, by omega, unhide O3⟩
          case measure => simp [intOf]; omega
    · have hi : ¬ (n : Int) < (xs.length : Int) := by omega
      have O3 := hide (own_eq (unhide O) (show _ = pre ++ bytesOf toU 8 xs by rw [List.take_of_length_le (by omega)]))
      clear O
      go_wp2_with fail
      go_ret
      exact ⟨_, rfl, unhide O3⟩
set_option maxRecDepth 100000 in
set_option maxHeartbeats 2000000 in
theorem laid_bool (p : Option Addr) (c : Nat) (xs : List Bool) (w0 w : World) (v : Value) (pre : List Int) (h : Ls Value.bool w0 p c xs) (hO : OwnG 5 (Value.int .u8) w0 w v pre) (hs : pre.length + xs.length * 1 ≤ 1000000) :
    Calls Try.prog 58 #[v, .slice p xs.length c, .int .i64 1, .func (.func 59) #[] #[]] w fun e w' => ∃ v', e = .returned v' ∧ OwnG 5 (Value.int .u8) w0 w' v' (pre ++ bytesOf b01 1 xs) := by
  obtain ⟨i1, hi1, y1, z1, b1⟩ := info_parts Try.infoU8
  have A1 := hide h
  have O0 := hide hO
  clear h hO
  go_enter Try.func58, Try.ntmps58
  go_wp2_with fail
  go_loopw [0, 14] (fun v iv wr => ∃ n : Nat, iv = .int .i64 n ∧ n ≤ xs.length ∧ OwnG 5 (Value.int .u8) w0 wr v (pre ++ bytesOf b01 1 (xs.take n))) (fun _ iv _ => xs.length - (intOf iv).toNat)
  case atStart => exact ⟨0, rfl, by omega, by simpa [bytesOf] using unhide O0⟩
  case round =>
    obtain ⟨n, rfl, hn, hO⟩ := hrel
    have O := hide hO
    clear hO
    by_cases hlt : n < xs.length
    · have hi : (n : Int) < (xs.length : Int) := by omega
      obtain ⟨b, o, rfl, hb, hc⟩ := (unhide A1).lies (show 0 < xs.length by omega)
      have k1 : wr.cell? ⟨b, o + n, none⟩ = some (.bool (xs.getD n false)) := ((unhide O).2.cell (p := ⟨b, o + n, none⟩) hb).trans (hc n hlt)
      have HT : Hid (xs.take (n + 1) = xs.take n ++ [xs.getD n false]) := hide (take_getD xs n hlt)
      have hl : (pre ++ bytesOf b01 1 (xs.take n)).length = pre.length + n * 1 := by rw [List.length_append, bytesOf_length, List.length_take]; congr 2; omega
      have BT := hide (fun w => bits_bool (xs.getD n false) w)
      have u0 : 0 ≤ b01 (xs.getD n false) := by unfold b01; split <;> decide
      have u1 : b01 (xs.getD n false) < 18446744073709551616 := by unfold b01; split <;> decide
      have hnk : n * 1 + 1 ≤ xs.length * 1 := by omega
      clear hc 
      generalize xs.getD n false = x at k1 HT BT u0 u1
      obtain ⟨X, hX⟩ : ∃ X, b01 x = X := ⟨_, rfl⟩
      rw [hX] at BT u0 u1
      have HX := hide hX
      clear hX
      go_wp2_with fail
      refine (unhide BT _).mono ?_
      rintro e w5 ⟨rfl, hv⟩
      replace hv := hv.symm
      subst hv
      clear BT
      go_wp2_with fail
      go_loopw [0, 11, 22] (fun v yv kv wq => ∃ j : Nat, ∃ y : Int, kv = .int .i64 j ∧ yv = .int .u64 y ∧ j ≤ 1 ∧ 0 ≤ y ∧ y < 18446744073709551616 ∧ Hid (y = X / 256 ^ j) ∧ OwnG 5 (Value.int .u8) w0 wq v (pre ++ bytesOf b01 1 (xs.take n) ++ leL X j)) (fun _ _ kv _ => 1 - (intOf kv).toNat)
      case atStart => exact ⟨0, X, rfl, rfl, by omega, u0, u1, hide (by simp), by simpa [leL] using unhide O⟩
      case round =>
        obtain ⟨j, y, rfl, rfl, hj, v0, v1, HY, hQ⟩ := hrel
        have Q := hide hQ
        clear hQ
        by_cases hjl : j < 1
        · have hji : (j : Int) < 1 := by omega
          have d0 : 0 ≤ y / 256 := by omega
          have d1 : y / 256 < 18446744073709551616 := by omega
          have m0 : 0 ≤ y % 256 := by omega
          have m1 : y % 256 < 256 := by omega
          have hl2 : (pre ++ bytesOf b01 1 (xs.take n) ++ leL X j).length = pre.length + n * 1 + j := by rw [List.length_append, hl, leL_length]
          have HS : Hid (leL X (j + 1) = leL X j ++ [y % 256]) := hide (by rw [unhide HY]; rfl)
          have HY2 : Hid (y / 256 = X / 256 ^ (j + 1)) := hide (by rw [unhide HY]; exact div_step _ _)
          obtain ⟨m, hm⟩ : ∃ m, y % 256 = m := ⟨_, rfl⟩
          rw [hm] at m0 m1 HS
          have hwr : IntKind.u8.wrap m = m := by rw [IntKind.wrap_u8]; omega
          clear HY
          go_wp2_with (at_builtin; (refine wpList_append_ls rfl _ _ 43 rfl w0 5 i1 (.int .u8 0) 1 Try.underlying43 hi1 y1 z1 b1 rfl (int_one .u8) _ (pre ++ bytesOf b01 1 (xs.take n) ++ leL X j) rfl ((unhide Q).below (al1 _ _)) (some ⟨_, 0, none⟩) 1 [m] rfl (ls_one _ _ _) (by unfold maxLen; rw [hl2]; simp <;> omega) (by rw [hl2]; simp <;> omega) ?_; intro v2 w2 O2; have HO2 := hide O2; clear O2))
          go_roundw
          case rel => exact ⟨j + 1, y / 256, by go_num, rfl, by omega, d0, d1, HY2, by rw [unhide HS, ← List.append_assoc]; exact unhide HO2⟩
          case measure => simp [intOf]; omega
        · have hji : ¬ (j : Int) < 1 := by omega
          have ej : j = 1 := by omega
          subst ej
          have O3 := hide (own_eq (unhide Q) (show _ = pre ++ bytesOf b01 1 (xs.take (n + 1)) by rw [unhide HT, bytesOf_snoc, unhide HX, List.append_assoc]))
          clear Q HY
          go_wp2_with fail
          go_roundw
          case rel => exact ⟨n + 1, by go_num, by omega, unhide O3⟩
          case measure => simp [intOf]; omega
    · have hi : ¬ (n : Int) < (xs.length : Int) := by omega
      have O3 := hide (own_eq (unhide O) (show _ = pre ++ bytesOf b01 1 xs by rw [List.take_of_length_le (by omega)]))
      clear O
      go_wp2_with fail
      go_ret
      exact ⟨_, rfl, unhide O3⟩
end Go.Proofs.Ytbepkmehnghmcaa
