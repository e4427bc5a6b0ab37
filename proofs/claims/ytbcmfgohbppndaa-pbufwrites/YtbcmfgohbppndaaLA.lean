/-
  Layer 6: the code's varints.
-/
import Derived.Test.YtbcmfgohbppndaaKD
namespace Go.Proofs.Ytbcmfgohbppndaa
open Go.RowKit
set_option linter.unusedVariables false

theorem or128f : ∀ z : Fin 256, bits .or .u8 (z.val : Int) 128 = (z.val : Int) % 128 + 128 := by decide +kernel
theorem or128 (y : Int) (h0 : 0 ≤ y) (h1 : y < 256) : bits .or .u8 y 128 = y % 128 + 128 := by
  have := or128f ⟨y.toNat, by omega⟩
  simp only [Int.toNat_of_nonneg h0] at this
  exact this
theorem not128f : ∀ z : Fin 256, bits .andNot .u8 (z.val : Int) 128 = (z.val : Int) % 128 := by decide +kernel
theorem not128 (y : Int) (h0 : 0 ≤ y) (h1 : y < 256) : bits .andNot .u8 y 128 = y % 128 := by
  have := not128f ⟨y.toNat, by omega⟩
  simp only [Int.toNat_of_nonneg h0] at this
  exact this
set_option maxRecDepth 100000 in
set_option maxHeartbeats 1000000 in
/-- A number's shortest form, behind a row of the call's own. -/
theorem cwithv_any (v0 : Value) (os : List Int) (x : Int) (w0 w : World) (ho : OwnG 5 (Value.int .u8) w0 w v0 os) (hn : os.length ≤ 1000) (h0 : 0 ≤ x) (h1 : x < 18446744073709551616) :
    Calls Try.prog 33 #[v0, .int .u64 x] w fun e w' => ∃ v, e = .returned v ∧ OwnG 5 (Value.int .u8) w0 w' v (os ++ varV x) := by
  obtain ⟨i1, hi1, y1, z1, b1⟩ := info_parts Try.infoU8
  have HO0 := hide ho
  clear ho
  go_enter Try.func33, Try.ntmps33
  go_wp2_with fail
  go_loopw [0, 1] (fun v xv wr => ∃ y : Int, ∃ pre : List Int, xv = .int .u64 y ∧ 0 ≤ y ∧ y < 18446744073709551616 ∧ Hid (pre ++ varV y = varV x) ∧ Hid (OwnG 5 (Value.int .u8) w0 wr v (os ++ pre))) (fun _ xv _ => (intOf xv).toNat)
  case atStart => exact ⟨x, [], rfl, h0, h1, hide (by simp), hide (by rw [List.append_nil]; exact unhide HO0)⟩
  case round =>
    obtain ⟨y, pre, rfl, g0, g1, HV, O⟩ := hrel
    have hpl : pre.length ≤ 9 := by
      have e := congrArg List.length (unhide HV)
      rw [List.length_append] at e
      have := varV_len x
      have := varV_len y
      omega
    have hol : (os ++ pre).length ≤ 1009 := by rw [List.length_append]; omega
    by_cases hy : y < 128
    · have hge : ¬ (128 : Int) ≤ y := by omega
      have HE := hide ((congrArg (pre ++ ·) (varV_small hy)).symm.trans (unhide HV))
      have hwr : IntKind.u8.wrap y = y := by rw [IntKind.wrap_u8]; omega
      clear HV
      go_wp2_with (at_builtin; (refine wpList_append_ls rfl _ _ 24 rfl w0 5 i1 (.int .u8 0) 1 Try.underlying24 hi1 y1 z1 b1 rfl (int_one .u8) _ (os ++ pre) rfl ((unhide O).below (al1p _ _)) (some ⟨_, 0, none⟩) 1 [y] rfl (ls_one6 _ _ _) (by unfold maxLen; simp only [List.length_singleton]; omega) (by simp only [List.length_singleton]; omega) ?_; intro v2 w2 O2; have HO2 := hide O2; clear O2))
      go_ret
      exact ⟨_, rfl, own_eq6 (unhide HO2) (by rw [List.append_assoc]; exact congrArg (os ++ ·) (unhide HE))⟩
    · have hge : (128 : Int) ≤ y := by omega
      have HE : Hid ((pre ++ [y % 128 + 128]) ++ varV (y / 128) = varV x) := hide (by rw [← unhide HV, varV_step hy g1, List.append_assoc]; rfl)
      obtain ⟨m, hm⟩ : ∃ m, y % 128 = m := ⟨_, rfl⟩
      have m0 : 0 ≤ m := by omega
      have m1 : m < 128 := by omega
      have hor : bits .or .u8 (y % 256) 128 = m + 128 := by rw [or128 _ (by omega) (by omega)]; omega
      rw [hm] at HE
      have d0 : 0 ≤ y / 128 := by omega
      have d1 : y / 128 < 18446744073709551616 := by omega
      clear HV
      go_wp2_with (at_builtin; (refine wpList_append_ls rfl _ _ 24 rfl w0 5 i1 (.int .u8 0) 1 Try.underlying24 hi1 y1 z1 b1 rfl (int_one .u8) _ (os ++ pre) rfl ((unhide O).below (al1p _ _)) (some ⟨_, 0, none⟩) 1 [m + 128] rfl (ls_one6 _ _ _) (by unfold maxLen; simp only [List.length_singleton]; omega) (by simp only [List.length_singleton]; omega) ?_; intro v2 w2 O2; have HO2 := hide O2; clear O2))
      go_roundw
      case rel => exact ⟨y / 128, pre ++ [m + 128], rfl, d0, d1, HE, hide (by rw [← List.append_assoc]; exact unhide HO2)⟩
      case measure => simp [intOf]; omega
set_option maxRecDepth 100000 in
theorem cvarint_any (x : Int) (w : World) (h0 : 0 ≤ x) (h1 : x < 18446744073709551616) :
    Calls Try.prog 10 #[.int .u64 x] w fun e w' => ∃ v, e = .returned v ∧ OwnG 5 (Value.int .u8) w w' v (varV x) := by
  have WV := hide (cwithv_any (.slice none 0 0) [] x w w (OwnG.nil _ _ _ (Below.refl _ _)) (by simp) h0 h1)
  go_enter Try.func10, Try.ntmps10
  go_wp2_with fail
  refine (unhide WV).mono ?_
  rintro e w1 ⟨v1, rfl, hO⟩
  have HO := hide hO
  clear hO WV
  go_wp2_with fail
  go_ret
  exact ⟨_, rfl, unhide HO⟩
/-- What a shifted byte adds. -/
theorem or_shl (x m : Int) (i : Nat) (hi : i ≤ 9) (x0 : 0 ≤ x) (x1 : x < 128 ^ i) (m0 : 0 ≤ m) (hs : x + 128 ^ i * m < 18446744073709551616) : bits .or .u64 x (IntKind.u64.wrap (m * 2 ^ (7 * i))) = x + 128 ^ i * m := by
  have ep : (128 : Int) ^ i = ((2 ^ (7 * i) : Nat) : Int) := by
    rw [Nat.pow_mul, show (2 : Nat) ^ 7 = 128 by decide]; simp
  have ep2 : (2 : Int) ^ (7 * i) = ((2 ^ (7 * i) : Nat) : Int) := by simp
  rw [ep] at x1 hs ⊢
  rw [ep2]
  obtain ⟨X, rfl⟩ := Int.eq_ofNat_of_zero_le x0
  obtain ⟨M, rfl⟩ := Int.eq_ofNat_of_zero_le m0
  have hX : X < 2 ^ (7 * i) := Int.ofNat_lt.1 x1
  have key := Nat.two_pow_add_eq_or_of_lt hX M
  generalize 2 ^ (7 * i) = P at *
  have e1 : (P : Int) * (M : Int) = ((P * M : Nat) : Int) := by simp
  have e2 : (M : Int) * (P : Int) = ((P * M : Nat) : Int) := by rw [Int.mul_comm]; exact e1
  rw [e1] at hs ⊢
  rw [e2]
  generalize P * M = Q at *
  have hw : IntKind.u64.wrap (Q : Int) = (Q : Int) := by rw [IntKind.wrap_u64]; omega
  rw [hw]
  have kk : (BitVec.ofInt 64 (X : Int) ||| BitVec.ofInt 64 (Q : Int)).toNat = X + Q := by
    rw [BitVec.toNat_or, BitVec.toNat_ofInt, BitVec.toNat_ofInt]
    have e1 : ((X : Int) % ((2 ^ 64 : Nat) : Int)).toNat = X := by omega
    have e2 : ((Q : Int) % ((2 ^ 64 : Nat) : Int)).toNat = Q := by omega
    rw [e1, e2, Nat.or_comm, ← key]
    omega
  show IntKind.u64.wrap ((BitVec.ofInt 64 (X : Int) ||| BitVec.ofInt 64 (Q : Int)).toNat : Nat) = (X : Int) + (Q : Int)
  rw [kk, IntKind.wrap_u64]
  omega
set_option maxRecDepth 100000 in
set_option maxHeartbeats 2000000 in
theorem crdv_any (p : Option Addr) (c : Nat) (b : List Int) (at' : Int) (w : World) (h : Ints .u8 w p c b) (hs : b.length ≤ 4611686018427387904) :
    Calls Try.prog 12 #[.slice p b.length c, .int .i64 at'] w fun e w' => e = .returned (.tuple #[.int .u64 (rdV b at').1, .int .i64 (rdV b at').2.1, .int .i64 (rdV b at').2.2]) ∧ w' = w := by
  have A1 := hide h
  have bl := h.len
  have hB := wf_isB h.2.2.1
  have hcb := h.1
  have hcm := h.2.1
  have hpn := h.2.2.2.2
  clear h
  by_cases hlo : at' < 0
  · have e : rdV b at' = (0, 0, 2) := by unfold rdV; rw [if_pos (.inl hlo)]
    rw [e]
    clear e
    have t1 : decide (at' < 0) = true := by simp [hlo]
    go_enter Try.func12, Try.ntmps12
    go_wp2_with fail
    go_ret3
    exact ⟨rfl, rfl⟩
  · have t1 : decide (at' < 0) = false := by simp; omega
    by_cases hhi : (b.length : Int) < at'
    · have e : rdV b at' = (0, 0, 2) := by unfold rdV; rw [if_pos (.inr hhi)]
      rw [e]
      clear e
      have t2 : decide ((b.length : Int) < at') = true := by simp [hhi]
      go_enter Try.func12, Try.ntmps12
      go_wp2_with fail
      go_ret3
      exact ⟨rfl, rfl⟩
    · have t2 : decide ((b.length : Int) < at') = false := by simp; omega
      obtain ⟨n, hn⟩ : ∃ n : Nat, at' = (n : Int) := ⟨at'.toNat, by omega⟩
      subst hn
      have hnb : n ≤ b.length := by omega
      have HR : Hid (rdV b (n : Int) = match rdG 10 (b.drop n) with
          | none => (0, 0, 6)
          | some y => (y.1, ((n + y.2 : Nat) : Int), 0)) := hide (by
        unfold rdV rdN
        rw [if_neg (by omega), Int.toNat_natCast]
        cases rdG 10 (b.drop n) <;> rfl)
      obtain ⟨R, hR⟩ : ∃ R, rdV b (n : Int) = R := ⟨_, rfl⟩
      rw [hR] at HR ⊢
      obtain ⟨R1, R2, R3⟩ := R
      simp only
      clear hR
      by_cases hend : n = b.length
      · have HE : Hid (R1 = 0 ∧ R2 = 0 ∧ R3 = 6) := hide (by
          have hr := unhide HR
          rw [List.drop_of_length_le (by omega), rdG] at hr
          simpa using hr)
        clear HR hB A1
        have t3 : ¬ (0 : Int) < ((b.length - n : Nat) : Int) := by omega
        have key : ∀ q : Option Addr, q = p → Calls Try.prog 12 #[.slice q b.length c, .int .i64 n] w fun e w' => e = .returned (.tuple #[.int .u64 R1, .int .i64 R2, .int .i64 R3]) ∧ w' = w := by
          intro q hq
          cases q with
          | none =>
            have hc0 : c = 0 := hpn hq.symm
            have hb0 : b.length = 0 := by omega
            have hn0 : n = 0 := by omega
            subst hc0 hn0
            rw [hb0]
            clear hq hpn hcb hcm hend t3 t1 t2 hlo hhi hs bl hnb hb0
            go_enter Try.func12, Try.ntmps12
            go_wp2_with fail
            go_loop [22] (fun iv => iv = .int .i64 0) (fun iv => 0)
            case atStart => rfl
            case round =>
              subst hrel
              go_wp2_with fail
              go_ret3
              exact ⟨Try.f_int3 (unhide HE).1.symm (unhide HE).2.1.symm (unhide HE).2.2.symm, rfl⟩
          | some ad =>
            clear hq hpn
            obtain ⟨B, hBl⟩ : ∃ B, b.length = B := ⟨_, rfl⟩
            rw [hBl] at hend t3 hcb hs bl hnb hhi t2 ⊢
            subst hend
            clear hBl
            by_cases hcn : c = n
            · subst hcn
              go_enter Try.func12, Try.ntmps12
              go_wp2_with fail
              go_loop [22] (fun iv => iv = .int .i64 0) (fun iv => 0)
              case atStart => rfl
              case round =>
                subst hrel
                go_wp2_with fail
                go_ret3
                exact ⟨Try.f_int3 (unhide HE).1.symm (unhide HE).2.1.symm (unhide HE).2.2.symm, rfl⟩
            · go_enter Try.func12, Try.ntmps12
              go_wp2_with fail
              go_loop [22] (fun iv => iv = .int .i64 0) (fun iv => 0)
              case atStart => rfl
              case round =>
                subst hrel
                go_wp2_with fail
                go_ret3
                exact ⟨Try.f_int3 (unhide HE).1.symm (unhide HE).2.1.symm (unhide HE).2.2.symm, rfl⟩
        exact key p rfl
      · obtain ⟨b3, o3, e3, hb3, hc3⟩ := (unhide A1).lies (show 0 < b.length by omega)
        subst e3
        have HC3 := hide hc3
        have hnl : n < b.length := by omega
        clear hpn A1 hc3 hend
        go_enter Try.func12, Try.ntmps12
        go_wp2_with fail
        go_loop [7, 22] (fun xv iv => ∃ i : Nat, ∃ x : Int, iv = .int .i64 i ∧ xv = .int .u64 x ∧ i ≤ 9 ∧ i ≤ b.length - n ∧ 0 ≤ x ∧ x < 18446744073709551616 ∧ Hid (x < 128 ^ i) ∧ Hid (rdG 10 (b.drop n) = comb i x (rdG (10 - i) (b.drop (n + i))))) (fun _ iv => 10 - (intOf iv).toNat)
        case atStart => exact ⟨0, 0, rfl, rfl, by omega, by omega, by omega, by omega, hide (by decide), hide (by rw [comb_zero]; rfl)⟩
        case round =>
          obtain ⟨i, x, rfl, rfl, hi, hil, x0, x1, HU, HC⟩ := hrel
          by_cases hin : n + i < b.length
          · have tn : (i : Int) < ((b.length - n : Nat) : Int) := by omega
            have k3 : w.cell? ⟨b3, o3 + n + i, none⟩ = some (.int .u8 (b.getD (n + i) 0)) := by rw [Nat.add_assoc]; exact unhide HC3 (n + i) hin
            obtain ⟨c0, c1⟩ := hB _ (getD_mem6 hin)
            have HD := hide (drop_cons6 hin)
            generalize b.getD (n + i) 0 = cc at k3 c0 c1 HD
            have HK : Hid (rdG 10 (b.drop n) = comb i x (rdG ((9 - i) + 1) (cc :: b.drop (n + i + 1)))) := hide (by
              rw [unhide HC, unhide HD, show 10 - i = (9 - i) + 1 by omega])
            clear HC HD
            obtain ⟨m7, hm7⟩ : ∃ m7, cc % 128 = m7 := ⟨_, rfl⟩
            have g0 : 0 ≤ m7 := by omega
            have g1 : m7 ≤ 127 := by omega
            by_cases hbad : i = 9 ∧ 1 < cc
            · obtain ⟨hb1, hb2⟩ := hbad
              subst hb1
              have HE : Hid (R1 = 0 ∧ R2 = 0 ∧ R3 = 6) := hide (by
                have hr := unhide HR
                rw [unhide HK, rdG, if_pos ⟨by omega, hb2⟩] at hr
                simpa [comb] using hr)
              clear HK HR HU
              go_wp2_with fail
              go_ret3
              exact ⟨Try.f_int3 (unhide HE).1.symm (unhide HE).2.1.symm (unhide HE).2.2.symm, rfl⟩
            · have hmul : x + 128 ^ i * m7 < 18446744073709551616 := by
                obtain ⟨P0, P1⟩ := pow128_le i hi
                have q1 := unhide HU
                by_cases h9 : i = 9
                · have hc1 : cc ≤ 1 := by omega
                  have h1 : m7 ≤ 1 := by omega
                  have h2 : 128 ^ i * m7 ≤ 128 ^ i * 1 := Int.mul_le_mul_of_nonneg_left h1 (by omega)
                  omega
                · have h2 : 128 ^ i * m7 ≤ 128 ^ i * 127 := Int.mul_le_mul_of_nonneg_left g1 (by omega)
                  obtain ⟨Q0, Q1⟩ := pow128_le (i + 1) (by omega)
                  rw [Int.pow_succ] at Q1
                  omega
              have HOR := hide (or_shl x m7 i hi x0 (unhide HU) g0 hmul)
              have hnot : bits .andNot .u8 cc 128 = m7 := by rw [not128 _ c0 c1, hm7]
              have HBD : Hid (¬ (9 - i = 0 ∧ 1 < cc)) := hide (fun h => hbad ⟨by omega, h.2⟩)
              obtain ⟨X, hX⟩ : ∃ X, x + 128 ^ i * m7 = X := ⟨_, rfl⟩
              have hor := unhide HOR
              rw [hX] at hor
              have X0 : 0 ≤ X := by
                have : 0 ≤ (128 : Int) ^ i * m7 := Int.mul_nonneg (by have := (pow128_le i hi).1; omega) g0
                omega
              have X1 : X < 18446744073709551616 := by omega
              have HX := hide hX
              clear HOR hmul hX
              by_cases hc : cc < 128
              · have HE : Hid (R1 = X ∧ R2 = (n : Int) + (i : Int) + 1 ∧ R3 = 0) := hide (by
                  have hr := unhide HR
                  rw [unhide HK, comb_end i x cc (9 - i) _ (unhide HBD) hc, hm7, unhide HX] at hr
                  simp only [Prod.mk.injEq] at hr
                  refine ⟨hr.1, ?_, hr.2.2⟩
                  rw [hr.2.1]
                  omega)
                by_cases h9 : i = 9
                · subst h9
                  have tc : ¬ 1 < cc := by omega
                  have hor9 : bits .or .u64 x (m7 * 9223372036854775808) = X := by
                    rw [← hor, show (2 : Int) ^ (7 * 9) = 9223372036854775808 by decide, show IntKind.u64.wrap (m7 * 9223372036854775808) = m7 * 9223372036854775808 by rw [IntKind.wrap_u64]; omega]
                  clear HK HR HU HX HBD hbad hor
                  go_wp2_with fail
                  go_ret3
                  exact ⟨Try.f_int3 (unhide HE).1.symm (unhide HE).2.1.symm (unhide HE).2.2.symm, rfl⟩
                · have ti9 : ((i : Int) == 9) = false := by simp; omega
                  clear HK HR HU HX HBD hbad
                  go_wp2_with fail
                  go_ret3
                  exact ⟨Try.f_int3 (unhide HE).1.symm (unhide HE).2.1.symm (unhide HE).2.2.symm, rfl⟩
              · have h9 : ¬ i = 9 := fun e => hbad ⟨e, by omega⟩
                have ti9 : ((i : Int) == 9) = false := by simp; omega
                have HK2 : Hid (rdG 10 (b.drop n) = comb (i + 1) X (rdG (10 - (i + 1)) (b.drop (n + (i + 1))))) := hide (by
                  rw [unhide HK, comb_step i x cc (9 - i) _ (unhide HBD) hc, hm7, unhide HX, show 9 - i = 10 - (i + 1) by omega]
                  rfl)
                have HU2 : Hid (X < 128 ^ (i + 1)) := hide (by
                  have h2 : 128 ^ i * m7 ≤ 128 ^ i * 127 := Int.mul_le_mul_of_nonneg_left g1 (by have := (pow128_le i hi).1; omega)
                  have q1 := unhide HU
                  have q2 := unhide HX
                  rw [Int.pow_succ]
                  omega)
                clear HK HR HU HX HBD hbad
                go_wp2_with fail
                go_round
                case rel => exact ⟨i + 1, X, by go_num, rfl, by omega, by omega, X0, X1, HU2, HK2⟩
                case measure => simp [intOf]; omega
          · have tn : ¬ (i : Int) < ((b.length - n : Nat) : Int) := by omega
            have HE : Hid (R1 = 0 ∧ R2 = 0 ∧ R3 = 6) := hide (by
              have hr := unhide HR
              rw [unhide HC, List.drop_of_length_le (by omega), show 10 - i = (9 - i) + 1 by omega, rdG] at hr
              simpa [comb] using hr)
            clear HC HR HU
            go_wp2_with fail
            go_ret3
            exact ⟨Try.f_int3 (unhide HE).1.symm (unhide HE).2.1.symm (unhide HE).2.2.symm, rfl⟩
end Go.Proofs.Ytbcmfgohbppndaa
