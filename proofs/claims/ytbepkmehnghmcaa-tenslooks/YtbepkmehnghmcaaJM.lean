import Derived.Test.YtbepkmehnghmcaaJI
import Derived.Test.YtbepkmehnghmcaaJK

/-
  Layer 5: the code's lists of bytes.
-/
namespace Go.Proofs.Ytbepkmehnghmcaa
open Go.RowKit
set_option linter.unusedVariables false

theorem or_256 (y x : Int) (h0 : 0 ≤ y) (x0 : 0 ≤ x) (x1 : x < 256) (hs : y * 256 + x < 18446744073709551616) : bits .or .u64 (y * 256) x = y * 256 + x := by
  have key : (BitVec.ofInt 64 (y * 256) ||| BitVec.ofInt 64 x).toNat = y.toNat * 256 + x.toNat := by
    rw [BitVec.toNat_or, BitVec.toNat_ofInt, BitVec.toNat_ofInt]
    have e1 : ((y * 256) % ((2 ^ 64 : Nat) : Int)).toNat = 2 ^ 8 * y.toNat := by omega
    have e2 : (x % ((2 ^ 64 : Nat) : Int)).toNat = x.toNat := by omega
    rw [e1, e2, ← Nat.two_pow_add_eq_or_of_lt (by omega)]
    omega
  show IntKind.u64.wrap ((BitVec.ofInt 64 (y * 256) ||| BitVec.ofInt 64 x).toNat : Nat) = y * 256 + x
  rw [key, IntKind.wrap_u64]
  omega
set_option maxRecDepth 100000 in
theorem made_uint32 (y : Int) (r0 : 0 ≤ y) (r1 : y < 4294967296) (w : World) : Calls Try.prog 62 #[.int .u64 y] w fun e w' => e = .returned (.int .u32 y) ∧ w' = w := by
  have hwr : IntKind.u32.wrap y = y := by rw [IntKind.wrap_u32]; omega
  go_enter Try.func62, Try.ntmps62
  go_wp2_with fail
  go_ret
  exact ⟨rfl, rfl⟩
set_option maxRecDepth 100000 in
theorem made_int64 (y : Int) (r0 : 0 ≤ y) (r1 : y < 18446744073709551616) (w : World) : Calls Try.prog 64 #[.int .u64 y] w fun e w' => e = .returned (.int .i64 (wrap64 y)) ∧ w' = w := by
  go_enter Try.func64, Try.ntmps64
  go_wp2_with fail
  go_ret
  exact ⟨rfl, rfl⟩
set_option maxRecDepth 100000 in
theorem made_bool (y : Int) (w : World) : Calls Try.prog 66 #[.int .u64 y] w fun e w' => e = .returned (.bool (y == 1)) ∧ w' = w := by
  go_enter Try.func66, Try.ntmps66
  go_wp2_with fail
  go_ret
  exact ⟨rfl, rfl⟩
theorem u8_range {x : Int} (h : (Lit.int .u8 x).wf = true) : 0 ≤ x ∧ x < 256 := by
  simp [Lit.wf, IntKind.min, IntKind.max, IntKind.signed, IntKind.bits] at h
  omega
set_option maxRecDepth 100000 in
set_option maxHeartbeats 2000000 in
theorem truths_any (p : Option Addr) (c : Nat) (b : List Int) (w : World) (h : Ints .u8 w p c b) :
    Calls Try.prog 60 #[.slice p b.length c] w fun e w' => e = .returned (.bool (decide (¬ ∃ i : Nat, i < b.length ∧ 1 < hv b i 1 1))) ∧ w' = w := by
  have A1 := hide h
  have nx := h.len
  clear h
  obtain ⟨D, hD⟩ : ∃ D, decide (¬ ∃ i : Nat, i < b.length ∧ 1 < hv b i 1 1) = D := ⟨_, rfl⟩
  have HD := hide hD
  have HV : Hid (∀ i, hv b i 1 1 = b.getD i 0) := hide (fun i => by simp [hv])
  rw [hD]
  clear hD
  go_enter Try.func60, Try.ntmps60
  go_wp2_with fail
  go_loopw [7] (fun iv wr => ∃ n : Nat, iv = .int .i64 n ∧ n ≤ b.length ∧ Hid (∀ i, i < n → ¬ 1 < hv b i 1 1) ∧ wr = w) (fun iv _ => b.length - (intOf iv).toNat)
  case atStart => exact ⟨0, rfl, by omega, hide (fun i hi => by omega), rfl⟩
  case round =>
    obtain ⟨n, rfl, hn, HN, rfl⟩ := hrel
    by_cases hlt : n < b.length
    · have hi : (n : Int) < (b.length : Int) := by omega
      obtain ⟨b3, o3, rfl, hb3, hc3⟩ := (unhide A1).lies (by omega)
      have k3 : wr.cell? ⟨b3, o3 + n, none⟩ = some (.int .u8 (b.getD n 0)) := hc3 n hlt
      obtain ⟨r0, r1⟩ := u8_range ((unhide A1).2.2.1 _ (getD_mem5 hlt))
      have HX := hide (unhide HV n)
      clear hc3
      generalize b.getD n 0 = a at k3 r0 r1 HX
      by_cases hhi : 1 < a
      · have HE : Hid (D = false) := hide (by rw [← unhide HD]; exact decide_eq_false (fun hh => hh ⟨n, hlt, by rw [unhide HX]; exact hhi⟩))
        go_wp2_with fail
        go_ret
        exact ⟨ret_bool (unhide HE).symm, rfl⟩
      · have HN2 : Hid (∀ i, i < n + 1 → ¬ 1 < hv b i 1 1) := hide (fun i hi => by
          by_cases e : i = n
          · subst e; rw [unhide HX]; exact hhi
          · exact unhide HN i (by omega))
        clear HN HX
        go_wp2_with fail
        go_roundw
        case rel => exact ⟨n + 1, by go_num, by omega, HN2, by trivial⟩
        case measure => simp [intOf]; omega
    · have hi : ¬ (n : Int) < (b.length : Int) := by omega
      have HE : Hid (D = true) := hide (by
        rw [← unhide HD]
        refine decide_eq_true (fun hh => ?_)
        obtain ⟨i, hi, hb⟩ := hh
        exact unhide HN i (by omega) hb)
      clear HN
      go_wp2_with fail
      go_ret
      exact ⟨ret_bool (unhide HE).symm, rfl⟩
set_option maxRecDepth 100000 in
set_option maxHeartbeats 4000000 in
theorem read_uint32 (p : Option Addr) (c N : Nat) (b : List Int) (w : World) (h : Ints .u8 w p c b) (hN : b.length = N * 4) (hs : N ≤ 4096) :
    Calls Try.prog 61 #[.slice p b.length c, .int .i64 4, .func (.func 62) #[] #[]] w fun e w' => (∃ q d, e = .returned (.slice q N d) ∧ Ls (Value.int .u32) w' q d ((upL N).map (elF b)) ∧ Fresh w.heap.size w' q N) ∧ Below w.heap.size w w' := by
  obtain ⟨i1, hi1, y1, z1, b1⟩ := info_parts Try.infoU32
  have A1 := hide h
  have HBN := hide hN
  have hq : (b.length : Int) / 4 = (N : Int) := by omega
  have bl : b.length ≤ 32768 := by omega
  clear h hN
  go_enter Try.func61, Try.ntmps61
  go_wp2_with (at_make; (refine wpList_make_full _ rfl _ _ 23 rfl w.heap.size 52 i1 (.int .u32 0) 1 Try.underlying23 hi1 y1 z1 _ _ _ _ N rfl rfl (by omega) (by omega) (by rw [b1]; omega) (by unfold maxLen; omega) (Nat.le_refl _) ?_; intro w1 hown hgrow; have Q := OwnG.made (f := Value.int .u32) (z := (0 : Int)) (Below.refl _ _) rfl hown hgrow; obtain ⟨q, d, hv, L1, F1⟩ := Q.form; rw [List.length_replicate] at hv F1; rw [hv]; have HL1 := hide L1; have HF1 := hide F1; have B1 := hide Q.2; clear hown hgrow Q L1 F1 hv hq))
  go_loopw [18] (fun iv wr => ∃ n : Nat, iv = .int .i64 n ∧ n ≤ N ∧ Hid (Ls (Value.int .u32) wr q d (partL (elF b) 0 (upL N) n)) ∧ Hid (Fresh w.heap.size wr q N) ∧ Hid (Below w.heap.size w wr)) (fun iv _ => N - (intOf iv).toNat)
  case atStart => exact ⟨0, rfl, by omega, hide (by rw [partL_zero, upL_length]; exact unhide HL1), HF1, B1⟩
  case round =>
    obtain ⟨n, rfl, hn, HL, HF, HB⟩ := hrel
    by_cases hlt : n < N
    · have hi : (n : Int) < (N : Int) := by omega
      have hbl2 : n * 4 + 4 ≤ b.length := by rw [unhide HBN]; omega
      obtain ⟨b3, o3, rfl, hb3, hc3⟩ := ((unhide A1).below (unhide HB)).lies (show 0 < b.length by omega)
      have HC : Hid (∀ i, i < b.length → wr.cell? ⟨b3, o3 + i, none⟩ = some (.int .u8 (b.getD i 0))) := hide (fun i hi => hc3 i hi)
      have HHR := hide (hv_range (unhide A1).2.2.1 (n * 4) 4 (by omega) hbl2)
      have HPS : Hid (∀ x, x = elF b (n : Int) → (partL (elF b) 0 (upL N) n).set n x = partL (elF b) 0 (upL N) (n + 1)) := hide (fun x hx => partL_set _ _ (upL N) n (by rw [upL_length]; exact hlt) x (by rw [upL_getD N n hlt]; exact hx))
      have hpl : (partL (elF b) 0 (upL N) n).length = N := by rw [partL_length _ _ _ _ (by rw [upL_length]; omega), upL_length]
      obtain ⟨b4, o4, rfl, hb4, hc4⟩ := (unhide HL).lies (by omega)
      have z4 : wr.frozen? ⟨b4, o4 + n, none⟩ = false := (unhide HF b4 o4 rfl (by omega)).2 n hlt
      have hb4b : w.heap.size ≤ b4 := (unhide HF b4 o4 rfl (by omega)).1
      have k4 := hc4 n (by omega)
      have STO := hide (fun x => (unhide HL).store n (by omega) x)
      clear hc3 hc4 hpl
      generalize (partL (elF b) 0 (upL N) n).getD n default = old at k4
      go_wp2_with fail
      go_loop [9, 10] (fun xv kv => ∃ m : Nat, ∃ y : Int, kv = .int .i64 (4 - 1 - (m : Int)) ∧ xv = .int .u64 y ∧ m ≤ 4 ∧ 0 ≤ y ∧ y < 18446744073709551616 ∧ Hid (y = hv b (n * 4) 4 m)) (fun _ kv => (intOf kv + 1).toNat)
      case atStart => exact ⟨0, 0, by go_num, rfl, by omega, by omega, by omega, hide rfl⟩
      case round =>
        obtain ⟨m, y, rfl, rfl, hm, v0, v1, HY⟩ := hrel
        by_cases hml : m < 4
        · have hge : (0 : Int) ≤ 4 - 1 - (m : Int) := by omega
          obtain ⟨j, hj⟩ : ∃ j : Nat, 4 - 1 - m = j := ⟨_, rfl⟩
          have hji : (4 : Int) - 1 - (m : Int) = (j : Int) := by omega
          have hoff : (n : Int) * 4 + (j : Int) = ((n * 4 + j : Nat) : Int) := by omega
          have hof2 : n * 4 + j < b.length := by omega
          have hof3 : ((n * 4 + j : Nat) : Int) < (b.length : Int) := by omega
          have k3 := unhide HC (n * 4 + j) hof2
          have HS : Hid (hv b (n * 4) 4 (m + 1) = hv b (n * 4) 4 m * 256 + b.getD (n * 4 + j) 0) := hide (by rw [← hj]; rfl)
          obtain ⟨s0, s1⟩ := unhide HHR (m + 1) (by omega)
          have s2 := pow_le (m + 1) (by omega)
          rw [unhide HS, ← unhide HY] at s0 s1
          obtain ⟨t0, t1⟩ := u8_range ((unhide A1).2.2.1 _ (getD_mem5 hof2))
          have s3 : y * 256 + b.getD (n * 4 + j) 0 < 18446744073709551616 := by omega
          obtain ⟨jj, hjj⟩ : ∃ jj : Nat, n * 4 + j = jj := ⟨_, rfl⟩
          rw [hjj] at hoff hof2 hof3 k3 HS s0 s3 t0 t1
          generalize b.getD jj 0 = xb at k3 HS s0 s3 t0 t1
          have hjw : (j : Int) - 1 = 4 - 1 - ((m + 1 : Nat) : Int) := by omega
          have HJW := hide hjw
          have s4 : y * 256 < 18446744073709551616 := by omega
          have hor := or_256 y xb v0 t0 t1 s3
          clear s1 s2 hj hjj hjw
          rw [hji]
          go_wp2_with fail
          go_round
          case rel => exact ⟨m + 1, y * 256 + xb, by rw [← unhide HJW], rfl, by omega, s0, s3, hide (by rw [unhide HS, unhide HY])⟩
          case measure => simp [intOf]
        · have hge : ¬ (0 : Int) ≤ 4 - 1 - (m : Int) := by omega
          have em : m = 4 := by omega
          subst em
          obtain ⟨s0, s1⟩ := unhide HHR 4 (by omega)
          rw [← unhide HY] at s0 s1
          have s2 : y < 4294967296 := by have : (256 : Int) ^ 4 = 4294967296 := by decide
                                         omega
          have MD := hide (fun w => made_uint32 y s0 s2 w)
          have HL2 := hide (unhide STO y)
          rw [unhide HPS _ (by unfold elF; rw [Int.toNat_natCast, unhide HY])] at HL2
          clear s1 HPS STO
          go_wp2_with fail
          refine (unhide MD _).mono ?_
          rintro e w5 ⟨rfl, hv⟩
          replace hv := hv.symm
          subst hv
          clear MD
          go_wp2_with fail
          go_roundw
          case rel => exact ⟨n + 1, by go_num, by omega, HL2, hide ((unhide HF).set _ _), hide ((unhide HB).setCell hb4b _)⟩
          case measure => simp [intOf]; omega
    · have hi : ¬ (n : Int) < (N : Int) := by omega
      have hl2 := unhide HL
      rw [partL_all _ _ (upL N) n (by rw [upL_length]; omega)] at hl2
      have HL2 := hide hl2
      clear hl2 HL
      go_wp2_with fail
      go_ret
      exact ⟨⟨_, _, rfl, unhide HL2, unhide HF⟩, unhide HB⟩
set_option maxRecDepth 100000 in
set_option maxHeartbeats 4000000 in
theorem read_int64 (p : Option Addr) (c N : Nat) (b : List Int) (w : World) (h : Ints .u8 w p c b) (hN : b.length = N * 8) (hs : N ≤ 4096) :
    Calls Try.prog 63 #[.slice p b.length c, .int .i64 8, .func (.func 64) #[] #[]] w fun e w' => (∃ q d, e = .returned (.slice q N d) ∧ Ls (Value.int .i64) w' q d ((upL N).map (elI b)) ∧ Fresh w.heap.size w' q N) ∧ Below w.heap.size w w' := by
  obtain ⟨i1, hi1, y1, z1, b1⟩ := info_parts Try.infoI64
  have A1 := hide h
  have HBN := hide hN
  have hq : (b.length : Int) / 8 = (N : Int) := by omega
  have bl : b.length ≤ 32768 := by omega
  clear h hN
  go_enter Try.func63, Try.ntmps63
  go_wp2_with (at_make; (refine wpList_make_full _ rfl _ _ 24 rfl w.heap.size 2 i1 (.int .i64 0) 1 Try.underlying24 hi1 y1 z1 _ _ _ _ N rfl rfl (by omega) (by omega) (by rw [b1]; omega) (by unfold maxLen; omega) (Nat.le_refl _) ?_; intro w1 hown hgrow; have Q := OwnG.made (f := Value.int .i64) (z := (0 : Int)) (Below.refl _ _) rfl hown hgrow; obtain ⟨q, d, hv, L1, F1⟩ := Q.form; rw [List.length_replicate] at hv F1; rw [hv]; have HL1 := hide L1; have HF1 := hide F1; have B1 := hide Q.2; clear hown hgrow Q L1 F1 hv hq))
  go_loopw [18] (fun iv wr => ∃ n : Nat, iv = .int .i64 n ∧ n ≤ N ∧ Hid (Ls (Value.int .i64) wr q d (partL (elI b) 0 (upL N) n)) ∧ Hid (Fresh w.heap.size wr q N) ∧ Hid (Below w.heap.size w wr)) (fun iv _ => N - (intOf iv).toNat)
  case atStart => exact ⟨0, rfl, by omega, hide (by rw [partL_zero, upL_length]; exact unhide HL1), HF1, B1⟩
  case round =>
    obtain ⟨n, rfl, hn, HL, HF, HB⟩ := hrel
    by_cases hlt : n < N
    · have hi : (n : Int) < (N : Int) := by omega
      have hbl2 : n * 8 + 8 ≤ b.length := by rw [unhide HBN]; omega
      obtain ⟨b3, o3, rfl, hb3, hc3⟩ := ((unhide A1).below (unhide HB)).lies (show 0 < b.length by omega)
      have HC : Hid (∀ i, i < b.length → wr.cell? ⟨b3, o3 + i, none⟩ = some (.int .u8 (b.getD i 0))) := hide (fun i hi => hc3 i hi)
      have HHR := hide (hv_range (unhide A1).2.2.1 (n * 8) 8 (by omega) hbl2)
      have HPS : Hid (∀ x, x = elI b (n : Int) → (partL (elI b) 0 (upL N) n).set n x = partL (elI b) 0 (upL N) (n + 1)) := hide (fun x hx => partL_set _ _ (upL N) n (by rw [upL_length]; exact hlt) x (by rw [upL_getD N n hlt]; exact hx))
      have hpl : (partL (elI b) 0 (upL N) n).length = N := by rw [partL_length _ _ _ _ (by rw [upL_length]; omega), upL_length]
      obtain ⟨b4, o4, rfl, hb4, hc4⟩ := (unhide HL).lies (by omega)
      have z4 : wr.frozen? ⟨b4, o4 + n, none⟩ = false := (unhide HF b4 o4 rfl (by omega)).2 n hlt
      have hb4b : w.heap.size ≤ b4 := (unhide HF b4 o4 rfl (by omega)).1
      have k4 := hc4 n (by omega)
      have STO := hide (fun x => (unhide HL).store n (by omega) x)
      clear hc3 hc4 hpl
      generalize (partL (elI b) 0 (upL N) n).getD n default = old at k4
      go_wp2_with fail
      go_loop [9, 10] (fun xv kv => ∃ m : Nat, ∃ y : Int, kv = .int .i64 (8 - 1 - (m : Int)) ∧ xv = .int .u64 y ∧ m ≤ 8 ∧ 0 ≤ y ∧ y < 18446744073709551616 ∧ Hid (y = hv b (n * 8) 8 m)) (fun _ kv => (intOf kv + 1).toNat)
      case atStart => exact ⟨0, 0, by go_num, rfl, by omega, by omega, by omega, hide rfl⟩
      case round =>
        obtain ⟨m, y, rfl, rfl, hm, v0, v1, HY⟩ := hrel
        by_cases hml : m < 8
        · have hge : (0 : Int) ≤ 8 - 1 - (m : Int) := by omega
          obtain ⟨j, hj⟩ : ∃ j : Nat, 8 - 1 - m = j := ⟨_, rfl⟩
          have hji : (8 : Int) - 1 - (m : Int) = (j : Int) := by omega
          have hoff : (n : Int) * 8 + (j : Int) = ((n * 8 + j : Nat) : Int) := by omega
          have hof2 : n * 8 + j < b.length := by omega
          have hof3 : ((n * 8 + j : Nat) : Int) < (b.length : Int) := by omega
          have k3 := unhide HC (n * 8 + j) hof2
          have HS : Hid (hv b (n * 8) 8 (m + 1) = hv b (n * 8) 8 m * 256 + b.getD (n * 8 + j) 0) := hide (by rw [← hj]; rfl)
          obtain ⟨s0, s1⟩ := unhide HHR (m + 1) (by omega)
          have s2 := pow_le (m + 1) (by omega)
          rw [unhide HS, ← unhide HY] at s0 s1
          obtain ⟨t0, t1⟩ := u8_range ((unhide A1).2.2.1 _ (getD_mem5 hof2))
          have s3 : y * 256 + b.getD (n * 8 + j) 0 < 18446744073709551616 := by omega
          obtain ⟨jj, hjj⟩ : ∃ jj : Nat, n * 8 + j = jj := ⟨_, rfl⟩
          rw [hjj] at hoff hof2 hof3 k3 HS s0 s3 t0 t1
          generalize b.getD jj 0 = xb at k3 HS s0 s3 t0 t1
          have hjw : (j : Int) - 1 = 8 - 1 - ((m + 1 : Nat) : Int) := by omega
          have HJW := hide hjw
          have s4 : y * 256 < 18446744073709551616 := by omega
          have hor := or_256 y xb v0 t0 t1 s3
          clear s1 s2 hj hjj hjw
          rw [hji]
          go_wp2_with fail
          go_round
          case rel => exact ⟨m + 1, y * 256 + xb, by rw [← unhide HJW], rfl, by omega, s0, s3, hide (by rw [unhide HS, unhide HY])⟩
          case measure => simp [intOf]
        · have hge : ¬ (0 : Int) ≤ 8 - 1 - (m : Int) := by omega
          have em : m = 8 := by omega
          subst em
          obtain ⟨s0, s1⟩ := unhide HHR 8 (by omega)
          rw [← unhide HY] at s0 s1
          have MD := hide (fun w => made_int64 y v0 v1 w)
          have HL2 := hide (unhide STO (wrap64 y))
          rw [unhide HPS _ (by unfold elI; rw [Int.toNat_natCast, unhide HY])] at HL2
          clear s1 HPS STO
          generalize (wrap64 y) = x at HL2 MD
          go_wp2_with fail
          refine (unhide MD _).mono ?_
          rintro e w5 ⟨rfl, hv⟩
          replace hv := hv.symm
          subst hv
          clear MD
          go_wp2_with fail
          go_roundw
          case rel => exact ⟨n + 1, by go_num, by omega, HL2, hide ((unhide HF).set _ _), hide ((unhide HB).setCell hb4b _)⟩
          case measure => simp [intOf]; omega
    · have hi : ¬ (n : Int) < (N : Int) := by omega
      have hl2 := unhide HL
      rw [partL_all _ _ (upL N) n (by rw [upL_length]; omega)] at hl2
      have HL2 := hide hl2
      clear hl2 HL
      go_wp2_with fail
      go_ret
      exact ⟨⟨_, _, rfl, unhide HL2, unhide HF⟩, unhide HB⟩
set_option maxRecDepth 100000 in
set_option maxHeartbeats 4000000 in
theorem read_bool (p : Option Addr) (c N : Nat) (b : List Int) (w : World) (h : Ints .u8 w p c b) (hN : b.length = N * 1) (hs : N ≤ 4096) :
    Calls Try.prog 65 #[.slice p b.length c, .int .i64 1, .func (.func 66) #[] #[]] w fun e w' => (∃ q d, e = .returned (.slice q N d) ∧ Ls (Value.bool) w' q d ((upL N).map (elB b)) ∧ Fresh w.heap.size w' q N) ∧ Below w.heap.size w w' := by
  obtain ⟨i1, hi1, y1, z1, b1⟩ := info_parts Try.infoB
  have A1 := hide h
  have HBN := hide hN
  have hq : (b.length : Int) / 1 = (N : Int) := by omega
  have bl : b.length ≤ 32768 := by omega
  clear h hN
  go_enter Try.func65, Try.ntmps65
  go_wp2_with (at_make; (refine wpList_make_full _ rfl _ _ 25 rfl w.heap.size 4 i1 (.bool false) 1 Try.underlying25 hi1 y1 z1 _ _ _ _ N rfl rfl (by omega) (by omega) (by rw [b1]; omega) (by unfold maxLen; omega) (Nat.le_refl _) ?_; intro w1 hown hgrow; have Q := OwnG.made (f := Value.bool) (z := false) (Below.refl _ _) rfl hown hgrow; obtain ⟨q, d, hv, L1, F1⟩ := Q.form; rw [List.length_replicate] at hv F1; rw [hv]; have HL1 := hide L1; have HF1 := hide F1; have B1 := hide Q.2; clear hown hgrow Q L1 F1 hv hq))
  go_loopw [18] (fun iv wr => ∃ n : Nat, iv = .int .i64 n ∧ n ≤ N ∧ Hid (Ls (Value.bool) wr q d (partL (elB b) false (upL N) n)) ∧ Hid (Fresh w.heap.size wr q N) ∧ Hid (Below w.heap.size w wr)) (fun iv _ => N - (intOf iv).toNat)
  case atStart => exact ⟨0, rfl, by omega, hide (by rw [partL_zero, upL_length]; exact unhide HL1), HF1, B1⟩
  case round =>
    obtain ⟨n, rfl, hn, HL, HF, HB⟩ := hrel
    by_cases hlt : n < N
    · have hi : (n : Int) < (N : Int) := by omega
      have hbl2 : n * 1 + 1 ≤ b.length := by rw [unhide HBN]; omega
      obtain ⟨b3, o3, rfl, hb3, hc3⟩ := ((unhide A1).below (unhide HB)).lies (show 0 < b.length by omega)
      have HC : Hid (∀ i, i < b.length → wr.cell? ⟨b3, o3 + i, none⟩ = some (.int .u8 (b.getD i 0))) := hide (fun i hi => hc3 i hi)
      have HHR := hide (hv_range (unhide A1).2.2.1 (n * 1) 1 (by omega) hbl2)
      have HPS : Hid (∀ x, x = elB b (n : Int) → (partL (elB b) false (upL N) n).set n x = partL (elB b) false (upL N) (n + 1)) := hide (fun x hx => partL_set _ _ (upL N) n (by rw [upL_length]; exact hlt) x (by rw [upL_getD N n hlt]; exact hx))
      have hpl : (partL (elB b) false (upL N) n).length = N := by rw [partL_length _ _ _ _ (by rw [upL_length]; omega), upL_length]
      obtain ⟨b4, o4, rfl, hb4, hc4⟩ := (unhide HL).lies (by omega)
      have z4 : wr.frozen? ⟨b4, o4 + n, none⟩ = false := (unhide HF b4 o4 rfl (by omega)).2 n hlt
      have hb4b : w.heap.size ≤ b4 := (unhide HF b4 o4 rfl (by omega)).1
      have k4 := hc4 n (by omega)
      have STO := hide (fun x => (unhide HL).store n (by omega) x)
      clear hc3 hc4 hpl
      generalize (partL (elB b) false (upL N) n).getD n default = old at k4
      go_wp2_with fail
      go_loop [9, 10] (fun xv kv => ∃ m : Nat, ∃ y : Int, kv = .int .i64 (1 - 1 - (m : Int)) ∧ xv = .int .u64 y ∧ m ≤ 1 ∧ 0 ≤ y ∧ y < 18446744073709551616 ∧ Hid (y = hv b (n * 1) 1 m)) (fun _ kv => (intOf kv + 1).toNat)
      case atStart => exact ⟨0, 0, by go_num, rfl, by omega, by omega, by omega, hide rfl⟩
      case round =>
        obtain ⟨m, y, rfl, rfl, hm, v0, v1, HY⟩ := hrel
        by_cases hml : m < 1
        · have hge : (0 : Int) ≤ 1 - 1 - (m : Int) := by omega
          obtain ⟨j, hj⟩ : ∃ j : Nat, 1 - 1 - m = j := ⟨_, rfl⟩
          have hji : (1 : Int) - 1 - (m : Int) = (j : Int) := by omega
          have hoff : (n : Int) + (j : Int) = ((n * 1 + j : Nat) : Int) := by omega
          have hof2 : n * 1 + j < b.length := by omega
          have hof3 : ((n * 1 + j : Nat) : Int) < (b.length : Int) := by omega
          have k3 := unhide HC (n * 1 + j) hof2
          have HS : Hid (hv b (n * 1) 1 (m + 1) = hv b (n * 1) 1 m * 256 + b.getD (n * 1 + j) 0) := hide (by rw [← hj]; rfl)
          obtain ⟨s0, s1⟩ := unhide HHR (m + 1) (by omega)
          have s2 := pow_le (m + 1) (by omega)
          rw [unhide HS, ← unhide HY] at s0 s1
          obtain ⟨t0, t1⟩ := u8_range ((unhide A1).2.2.1 _ (getD_mem5 hof2))
          have s3 : y * 256 + b.getD (n * 1 + j) 0 < 18446744073709551616 := by omega
          obtain ⟨jj, hjj⟩ : ∃ jj : Nat, n * 1 + j = jj := ⟨_, rfl⟩
          rw [hjj] at hoff hof2 hof3 k3 HS s0 s3 t0 t1
          generalize b.getD jj 0 = xb at k3 HS s0 s3 t0 t1
          have hjw : (j : Int) - 1 = 1 - 1 - ((m + 1 : Nat) : Int) := by omega
          have HJW := hide hjw
          have s4 : y * 256 < 18446744073709551616 := by omega
          have hor := or_256 y xb v0 t0 t1 s3
          clear s1 s2 hj hjj hjw
          rw [hji]
          go_wp2_with fail
          go_round
          case rel => exact ⟨m + 1, y * 256 + xb, by rw [← unhide HJW], rfl, by omega, s0, s3, hide (by rw [unhide HS, unhide HY])⟩
          case measure => simp [intOf]
        · have hge : ¬ (0 : Int) ≤ 1 - 1 - (m : Int) := by omega
          have em : m = 1 := by omega
          subst em
          obtain ⟨s0, s1⟩ := unhide HHR 1 (by omega)
          rw [← unhide HY] at s0 s1
          have MD := hide (fun w => made_bool y w)
          have HL2 := hide (unhide STO (y == 1))
          rw [unhide HPS _ (by unfold elB; rw [Int.toNat_natCast, unhide HY, Nat.mul_one])] at HL2
          clear s1 HPS STO
          generalize (y == 1) = x at HL2 MD
          go_wp2_with fail
          refine (unhide MD _).mono ?_
          rintro e w5 ⟨rfl, hv⟩
          replace hv := hv.symm
          subst hv
          clear MD
          go_wp2_with fail
          go_roundw
          case rel => exact ⟨n + 1, by go_num, by omega, HL2, hide ((unhide HF).set _ _), hide ((unhide HB).setCell hb4b _)⟩
          case measure => simp [intOf]; omega
    · have hi : ¬ (n : Int) < (N : Int) := by omega
      have hl2 := unhide HL
      rw [partL_all _ _ (upL N) n (by rw [upL_length]; omega)] at hl2
      have HL2 := hide hl2
      clear hl2 HL
      go_wp2_with fail
      go_ret
      exact ⟨⟨_, _, rfl, unhide HL2, unhide HF⟩, unhide HB⟩
end Go.Proofs.Ytbepkmehnghmcaa
