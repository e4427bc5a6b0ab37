import Derived.Test.YtbcmfgohbppndaaKC

/-
  Layer 6: the document's varints and bytes.
-/
namespace Go.Proofs.Ytbcmfgohbppndaa
open Go.RowKit
set_option linter.unusedVariables false

theorem al1p (w : World) (o : Obj) : Below w.heap.size w (w.alloc o) := (Below.refl _ _).alloc (Nat.le_refl _) _
theorem bdrewp (w : World) : Below w.heap.size w w.drew := (Below.refl _ _).drew
theorem bneTp {a b : Int} (h : ¬ a = b) : (a != b) = true := by simp [h]
theorem bneFp {a b : Int} (h : a = b) : (a != b) = false := by simp [h]
theorem ls_one6 {α : Type} [Inhabited α] {f : α → Value} (w : World) (x : α) (t : TypeId) : Ls f (w.alloc (.cells #[f x] t)) (some ⟨w.heap.size, 0, none⟩) 1 [x] := by
  refine ⟨Nat.le_refl _, by omega, fun _ => ⟨w.heap.size, 0, rfl, by simp, fun i hi => ?_⟩, fun h => by cases h⟩
  have : i = 0 := by simp at hi; omega
  subst this; simp
theorem own_eq6 {α : Type} {t : TypeId} {f : α → Value} {w wr : World} {v : Value} {xs ys : List α} (h : OwnG t f w wr v xs) (e : xs = ys) : OwnG t f w wr v ys := by subst e; exact h
theorem u8_wf {x : Int} (h : 0 ≤ x ∧ x < 256) : (Lit.int .u8 x).wf = true := by
  simp [Lit.wf, IntKind.min, IntKind.max, IntKind.signed, IntKind.bits]; omega
theorem u8_range6 {x : Int} (h : (Lit.int .u8 x).wf = true) : 0 ≤ x ∧ x < 256 := by
  simp [Lit.wf, IntKind.min, IntKind.max, IntKind.signed, IntKind.bits] at h
  omega
theorem isB_wf {l : List Int} (h : isB l) : ∀ x ∈ l, (Lit.int .u8 x).wf = true := fun x hx => u8_wf (h x hx)
theorem wf_isB {l : List Int} (h : ∀ x ∈ l, (Lit.int .u8 x).wf = true) : isB l := fun x hx => u8_range6 (h x hx)
theorem getD_mem6 {ds : List Int} {n : Nat} (h : n < ds.length) : ds.getD n 0 ∈ ds := by
  rw [List.getD_eq_getElem?_getD, List.getElem?_eq_getElem h]; simp
theorem Try.infoU8 : (Try.prog.info? 5).map (fun i => (i.zero, i.size, i.bytes)) = some (some (.int .u8 0), 1, 1) := by kernel_rfl
theorem drop_cons6 {b : List Int} {n : Nat} (h : n < b.length) : b.drop n = b.getD n 0 :: b.drop (n + 1) := by
  rw [List.drop_eq_getElem_cons h]; congr 1; simp [List.getElem?_eq_getElem h]
/-- What is known after i bytes. -/
def comb (i : Nat) (acc : Int) (o : Option (Int × Nat)) : Option (Int × Nat) := o.map fun y => (acc + 128 ^ i * y.1, i + y.2)
theorem comb_zero (o : Option (Int × Nat)) : comb 0 0 o = o := by unfold comb; cases o <;> simp
theorem comb_step (i : Nat) (acc c : Int) (k : Nat) (r : List Int) (h1 : ¬ (k = 0 ∧ 1 < c)) (h2 : ¬ c < 128) : comb i acc (rdG (k + 1) (c :: r)) = comb (i + 1) (acc + 128 ^ i * (c % 128)) (rdG k r) := by
  rw [rdG, if_neg h1, if_neg h2]
  unfold comb
  cases rdG k r with
  | none => rfl
  | some y =>
    simp only [Option.map_some, Int.pow_succ]
    congr 2
    · rw [Int.mul_add, Int.mul_assoc]; omega
    · omega
theorem comb_end (i : Nat) (acc c : Int) (k : Nat) (r : List Int) (h1 : ¬ (k = 0 ∧ 1 < c)) (h2 : c < 128) : comb i acc (rdG (k + 1) (c :: r)) = some (acc + 128 ^ i * (c % 128), i + 1) := by
  rw [rdG, if_neg h1, if_pos h2]; rfl
theorem pow128_le (i : Nat) (h : i ≤ 9) : 1 ≤ (128 : Int) ^ i ∧ (128 : Int) ^ i ≤ 9223372036854775808 := by
  match i, h with
  | 0, _ => decide
  | 1, _ => decide
  | 2, _ => decide
  | 3, _ => decide
  | 4, _ => decide
  | 5, _ => decide
  | 6, _ => decide
  | 7, _ => decide
  | 8, _ => decide
  | 9, _ => decide
theorem Try.f_int3 {a a' b b' c c' : Int} (h1 : a = a') (h2 : b = b') (h3 : c = c') : Ending.returned (.tuple #[.int .u64 a, .int .i64 b, .int .i64 c]) = .returned (.tuple #[.int .u64 a', .int .i64 b', .int .i64 c']) := by rw [h1, h2, h3]
set_option maxRecDepth 100000 in
set_option maxHeartbeats 1000000 in
theorem rvarint_any (x : Int) (w : World) (h0 : 0 ≤ x) (h1 : x < 18446744073709551616) :
    Calls Try.prog 15 #[.int .u64 x] w fun e w' => ∃ v, e = .returned v ∧ OwnG 5 (Value.int .u8) w w' v (varV x) := by
  obtain ⟨i1, hi1, y1, z1, b1⟩ := info_parts Try.infoU8
  go_enter Try.func15, Try.ntmps15
  go_wp2_with fail
  go_loopw [0, 3] (fun xv v wr => ∃ y : Int, ∃ pre : List Int, xv = .int .u64 y ∧ 0 ≤ y ∧ y < 18446744073709551616 ∧ Hid (pre ++ varV y = varV x) ∧ Hid (OwnG 5 (Value.int .u8) w wr v pre)) (fun xv _ _ => (intOf xv).toNat)
  case atStart => exact ⟨x, [], rfl, h0, h1, hide (by simp), hide (OwnG.nil _ _ _ (Below.refl _ _))⟩
  case round =>
    obtain ⟨y, pre, rfl, g0, g1, HV, O⟩ := hrel
    have hpl : pre.length ≤ 9 := by
      have e := congrArg List.length (unhide HV)
      rw [List.length_append] at e
      have := varV_len x
      have := varV_len y
      omega
    by_cases hy : y < 128
    · have hge : ¬ (128 : Int) ≤ y := by omega
      have HE := hide ((congrArg (pre ++ ·) (varV_small hy)).symm.trans (unhide HV))
      have hwr : IntKind.u8.wrap y = y := by rw [IntKind.wrap_u8]; omega
      clear HV
      go_wp2_with (at_builtin; (refine wpList_append_ls rfl _ _ 24 rfl w 5 i1 (.int .u8 0) 1 Try.underlying24 hi1 y1 z1 b1 rfl (int_one .u8) _ pre rfl ((unhide O).below (al1p _ _)) (some ⟨_, 0, none⟩) 1 [y] rfl (ls_one6 _ _ _) (by unfold maxLen; simp <;> omega) (by simp <;> omega) ?_; intro v2 w2 O2; have HO2 := hide O2; clear O2))
      go_ret
      exact ⟨_, rfl, own_eq6 (unhide HO2) (unhide HE)⟩
    · have hge : (128 : Int) ≤ y := by omega
      have HE : Hid ((pre ++ [y % 128 + 128]) ++ varV (y / 128) = varV x) := hide (by rw [← unhide HV, varV_step hy g1, List.append_assoc]; rfl)
      obtain ⟨m, hm⟩ : ∃ m, y % 128 = m := ⟨_, rfl⟩
      have m0 : 0 ≤ m := by omega
      have m1 : m < 128 := by omega
      rw [hm] at HE
      have hwr : IntKind.u8.wrap (m + 128) = m + 128 := by rw [IntKind.wrap_u8]; omega
      have d0 : 0 ≤ y / 128 := by omega
      have d1 : y / 128 < 18446744073709551616 := by omega
      clear HV
      go_wp2_with (at_builtin; (refine wpList_append_ls rfl _ _ 24 rfl w 5 i1 (.int .u8 0) 1 Try.underlying24 hi1 y1 z1 b1 rfl (int_one .u8) _ pre rfl ((unhide O).below (al1p _ _)) (some ⟨_, 0, none⟩) 1 [m + 128] rfl (ls_one6 _ _ _) (by unfold maxLen; simp <;> omega) (by simp <;> omega) ?_; intro v2 w2 O2; have HO2 := hide O2; clear O2))
      go_roundw
      case rel => exact ⟨y / 128, pre ++ [m + 128], rfl, d0, d1, HE, HO2⟩
      case measure => simp [intOf]; omega
set_option maxRecDepth 100000 in
set_option maxHeartbeats 2000000 in
theorem rrdv_any (p : Option Addr) (c : Nat) (b : List Int) (at' : Int) (w : World) (h : Ints .u8 w p c b) (hs : b.length ≤ 4611686018427387904) :
    Calls Try.prog 13 #[.slice p b.length c, .int .i64 at'] w fun e w' => e = .returned (.tuple #[.int .u64 (rdV b at').1, .int .i64 (rdV b at').2.1, .int .i64 (rdV b at').2.2]) ∧ w' = w := by
  have A1 := hide h
  have bl := h.len
  have hB := wf_isB h.2.2.1
  clear h
  by_cases hlo : at' < 0
  · have e : rdV b at' = (0, 0, 2) := by unfold rdV; rw [if_pos (.inl hlo)]
    rw [e]
    clear e
    have t1 : decide (at' < 0) = true := by simp [hlo]
    go_enter Try.func13, Try.ntmps13
    go_wp2_with fail
    go_ret3
    exact ⟨rfl, rfl⟩
  · have t1 : decide (at' < 0) = false := by simp; omega
    by_cases hhi : (b.length : Int) < at'
    · have e : rdV b at' = (0, 0, 2) := by unfold rdV; rw [if_pos (.inr hhi)]
      rw [e]
      clear e
      have t2 : decide ((b.length : Int) < at') = true := by simp [hhi]
      go_enter Try.func13, Try.ntmps13
      go_wp2_with fail
      go_ret3
      exact ⟨rfl, rfl⟩
    · have t2 : decide ((b.length : Int) < at') = false := by simp; omega
      obtain ⟨n, hn⟩ : ∃ n : Nat, at' = (n : Int) := ⟨at'.toNat, by omega⟩
      subst hn
      have hnb : n ≤ b.length := by omega
      have HR : Hid (rdV b (n : Int) = match rdG 10 (b.drop n) with
          | none => (0, 0, 6)
          | some y => (y.1, ((n + y.2 : Nat) : Int), 0)) := hide (by
        unfold rdV rdN
        rw [if_neg (by omega), Int.toNat_natCast]
        cases rdG 10 (b.drop n) <;> rfl)
      obtain ⟨R, hR⟩ : ∃ R, rdV b (n : Int) = R := ⟨_, rfl⟩
      rw [hR] at HR ⊢
      obtain ⟨R1, R2, R3⟩ := R
      simp only
      clear hR
      go_enter Try.func13, Try.ntmps13
      go_wp2_with fail
      go_loop [7, 8, 9] (fun xv uv iv => ∃ i : Nat, ∃ x u : Int, iv = .int .i64 i ∧ xv = .int .u64 x ∧ uv = .int .u64 u ∧ i ≤ 10 ∧ 0 ≤ x ∧ x < 18446744073709551616 ∧ 0 ≤ u ∧ u < 18446744073709551616 ∧ Hid (i ≤ 9 → x < 128 ^ i ∧ u = 128 ^ i) ∧ Hid (rdG 10 (b.drop n) = comb i x (rdG (10 - i) (b.drop (n + i))))) (fun _ _ iv => 10 - (intOf iv).toNat)
      case atStart => exact ⟨0, 0, 1, rfl, rfl, rfl, by omega, by omega, by omega, by omega, by omega, hide (fun _ => by decide), hide (by rw [comb_zero]; rfl)⟩
      case round =>
        obtain ⟨i, x, u, rfl, rfl, rfl, hi, x0, x1, u0, u1, HU, HC⟩ := hrel
        by_cases hi10 : i < 10
        · have ti : (i : Int) < 10 := by omega
          obtain ⟨P0, P1⟩ := pow128_le i (by omega)
          obtain ⟨q1, q2⟩ := unhide HU (by omega)
          by_cases hin : n + i < b.length
          · have tn : (n : Int) + (i : Int) < (b.length : Int) := by omega
            obtain ⟨b3, o3, rfl, hb3, hc3⟩ := (unhide A1).lies (by omega)
            have k3 : w.cell? ⟨b3, o3 + (n + i), none⟩ = some (.int .u8 (b.getD (n + i) 0)) := hc3 (n + i) hin
            obtain ⟨c0, c1⟩ := hB _ (getD_mem6 hin)
            have HD := hide (drop_cons6 hin)
            have hoff : (n : Int) + (i : Int) = ((n + i : Nat) : Int) := by omega
            have hof3 : ((n + i : Nat) : Int) < (b.length : Int) := by omega
            obtain ⟨m, hm⟩ : ∃ m, n + i = m := ⟨_, rfl⟩
            have HM := hide hm
            rw [hm] at hoff hof3 k3 c0 c1 HD HC
            generalize b.getD m 0 = cc at k3 c0 c1 HD
            have HK : Hid (rdG 10 (b.drop n) = comb i x (rdG ((9 - i) + 1) (cc :: b.drop (m + 1)))) := hide (by
              rw [unhide HC, unhide HD, show 10 - i = (9 - i) + 1 by omega])
            clear HC HD
            obtain ⟨m7, hm7⟩ : ∃ m7, cc % 128 = m7 := ⟨_, rfl⟩
            have g0 : 0 ≤ m7 := by omega
            have g1 : m7 ≤ 127 := by omega
            by_cases hbad : i = 9 ∧ 1 < cc
            · obtain ⟨hb1, hb2⟩ := hbad
              subst hb1
              have HE : Hid (R1 = 0 ∧ R2 = 0 ∧ R3 = 6) := hide (by
                have hr := unhide HR
                rw [unhide HK, rdG, if_pos ⟨by omega, hb2⟩] at hr
                simpa [comb] using hr)
              clear HK HR HU HM
              go_wp2_with fail
              go_ret3
              exact ⟨Try.f_int3 (unhide HE).1.symm (unhide HE).2.1.symm (unhide HE).2.2.symm, rfl⟩
            · have hmul0 : 0 ≤ u * m7 := Int.mul_nonneg u0 g0
              have hmul1 : x + u * m7 < 18446744073709551616 := by
                by_cases h9 : i = 9
                · have hc1 : cc ≤ 1 := by omega
                  have : m7 ≤ 1 := by omega
                  have h2 : u * m7 ≤ u * 1 := Int.mul_le_mul_of_nonneg_left this u0
                  omega
                · have h2 : u * m7 ≤ u * 127 := Int.mul_le_mul_of_nonneg_left g1 u0
                  obtain ⟨Q0, Q1⟩ := pow128_le (i + 1) (by omega)
                  rw [Int.pow_succ] at Q1
                  omega
              have hmul2 : u * m7 < 18446744073709551616 := by omega
              have HBD : Hid (¬ (9 - i = 0 ∧ 1 < cc)) := hide (fun h => hbad ⟨by omega, h.2⟩)
              by_cases hc : cc < 128
              · have HE : Hid (R1 = x + u * m7 ∧ R2 = (m : Int) + 1 ∧ R3 = 0) := hide (by
                  have hr := unhide HR
                  rw [unhide HK, comb_end i x cc (9 - i) _ (unhide HBD) hc, hm7, ← q2] at hr
                  simp only [Prod.mk.injEq] at hr
                  refine ⟨hr.1, ?_, hr.2.2⟩
                  rw [hr.2.1, ← unhide HM]
                  omega)
                by_cases h9 : i = 9
                · subst h9
                  have tc : ¬ 1 < cc := by omega
                  have HE9 : Hid (R1 = x + u * m7 ∧ R2 = (n : Int) + 9 + 1 ∧ R3 = 0) := hide ⟨(unhide HE).1, by have h1 := (unhide HE).2.1; have h2 := unhide HM; omega, (unhide HE).2.2⟩
                  clear HK HR HU HM HBD q1 q2 hbad
                  go_wp2_with fail
                  go_ret3
                  exact ⟨Try.f_int3 (unhide HE9).1.symm (unhide HE9).2.1.symm (unhide HE9).2.2.symm, rfl⟩
                · have ti9 : ((i : Int) == 9) = false := by simp; omega
                  clear HK HR HU HM HBD q1 q2 hbad
                  go_wp2_with fail
                  go_ret3
                  exact ⟨Try.f_int3 (unhide HE).1.symm (unhide HE).2.1.symm (unhide HE).2.2.symm, rfl⟩
              · have h9 : ¬ i = 9 := fun e => hbad ⟨e, by omega⟩
                have ti9 : ((i : Int) == 9) = false := by simp; omega
                obtain ⟨Q0, Q1⟩ := pow128_le (i + 1) (by omega)
                have hu2 : u * 128 < 18446744073709551616 := by rw [Int.pow_succ, ← q2] at Q1; omega
                have hu3 : 0 ≤ u * 128 := by omega
                have HK2 : Hid (rdG 10 (b.drop n) = comb (i + 1) (x + u * m7) (rdG (10 - (i + 1)) (b.drop (n + (i + 1))))) := hide (by
                  rw [unhide HK, comb_step i x cc (9 - i) _ (unhide HBD) hc, hm7, ← q2, ← unhide HM, show 9 - i = 10 - (i + 1) by omega]
                  rfl)
                have HU2 : Hid (i + 1 ≤ 9 → x + u * m7 < 128 ^ (i + 1) ∧ u * 128 = 128 ^ (i + 1)) := hide (fun _ => by
                  have h2 : u * m7 ≤ u * 127 := Int.mul_le_mul_of_nonneg_left g1 u0
                  rw [Int.pow_succ]
                  rw [← q2] at q1 ⊢
                  exact ⟨by omega, rfl⟩)
                have xs0 : 0 ≤ x + u * m7 := by omega
                clear HK HR HU HM HBD q1 q2 hbad Q0 Q1
                go_wp2_with fail
                go_round
                case rel => exact ⟨i + 1, x + u * m7, u * 128, by go_num, rfl, rfl, by omega, xs0, hmul1, hu3, hu2, HU2, HK2⟩
                case measure => simp [intOf]; omega
          · have tn : ¬ (n : Int) + (i : Int) < (b.length : Int) := by omega
            have HE : Hid (R1 = 0 ∧ R2 = 0 ∧ R3 = 6) := hide (by
              have hr := unhide HR
              rw [unhide HC, List.drop_of_length_le (by omega), show 10 - i = (9 - i) + 1 by omega, rdG] at hr
              simpa [comb] using hr)
            clear HC HR HU q1 q2
            go_wp2_with fail
            go_ret3
            exact ⟨Try.f_int3 (unhide HE).1.symm (unhide HE).2.1.symm (unhide HE).2.2.symm, rfl⟩
        · have ti : ¬ (i : Int) < 10 := by omega
          have HE : Hid (R1 = 0 ∧ R2 = 0 ∧ R3 = 6) := hide (by
            have hr := unhide HR
            rw [unhide HC, show 10 - i = 0 by omega, rdG] at hr
            simpa [comb] using hr)
          clear HC HR HU
          go_wp2_with fail
          go_ret3
          exact ⟨Try.f_int3 (unhide HE).1.symm (unhide HE).2.1.symm (unhide HE).2.2.symm, rfl⟩
theorem leV_drop {b : List Int} {n : Nat} (h : n < b.length) : leV (b.drop n) = b.getD n 0 + 256 * leV (b.drop (n + 1)) := by rw [drop_cons6 h]; rfl

set_option maxRecDepth 100000 in
set_option maxHeartbeats 1000000 in
theorem rlittle_any (p : Option Addr) (c : Nat) (b : List Int) (w : World) (h : Ints .u8 w p c b) (hs : b.length ≤ 8) :
    Calls Try.prog 45 #[.slice p b.length c] w fun e w' => e = .returned (.int .u64 (leV b)) ∧ w' = w := by
  have A1 := hide h
  have hB := wf_isB h.2.2.1
  clear h
  obtain ⟨R, hR⟩ : ∃ R, leV b = R := ⟨_, rfl⟩
  have HR := hide hR
  rw [hR]
  clear hR
  go_enter Try.func45, Try.ntmps45
  go_wp2_with fail
  go_loop [3, 4] (fun xv iv => ∃ n : Nat, ∃ y : Int, iv = .int .i64 ((n : Int) - 1) ∧ xv = .int .u64 y ∧ n ≤ b.length ∧ 0 ≤ y ∧ Hid (y < 256 ^ (b.length - n)) ∧ Hid (y = leV (b.drop n))) (fun _ iv => (intOf iv + 1).toNat)
  case atStart => exact ⟨b.length, 0, rfl, rfl, by omega, by omega, hide (by simp), hide (by simp [leV])⟩
  case round =>
    obtain ⟨n, y, rfl, rfl, hn, y0, HB, HY⟩ := hrel
    by_cases h0 : n = 0
    · subst h0
      have HE : Hid (y = R) := hide (by rw [unhide HY, ← unhide HR]; rfl)
      clear HY HB
      go_wp2_with fail
      go_ret
      exact ⟨ret_int (unhide HE), rfl⟩
    · obtain ⟨k, rfl⟩ : ∃ k, n = k + 1 := ⟨n - 1, by omega⟩
      have hkb : k < b.length := by omega
      have hge : (0 : Int) ≤ (k : Int) := by omega
      have hki : ((k + 1 : Nat) : Int) - 1 = (k : Int) := by omega
      obtain ⟨b3, o3, rfl, hb3, hc3⟩ := (unhide A1).lies (by omega)
      have k3 : w.cell? ⟨b3, o3 + k, none⟩ = some (.int .u8 (b.getD k 0)) := hc3 k hkb
      have hk2 : (k : Int) < (b.length : Int) := by omega
      obtain ⟨c0, c1⟩ := hB _ (getD_mem6 hkb)
      have hpw : y < 72057594037927936 := by
        have h1 := unhide HB
        have h2 : (256 : Int) ^ (b.length - (k + 1)) ≤ 256 ^ 7 := by
          have := Nat.pow_le_pow_right (show 0 < 256 by decide) (show b.length - (k + 1) ≤ 7 by omega)
          have h3 : ((256 ^ (b.length - (k + 1)) : Nat) : Int) ≤ ((256 ^ 7 : Nat) : Int) := Int.ofNat_le.2 this
          simpa using h3
        have h4 : (256 : Int) ^ 7 = 72057594037927936 := by decide
        omega
      have HY2 : Hid (y * 256 + b.getD k 0 = leV (b.drop k)) := hide (by rw [leV_drop hkb, unhide HY]; omega)
      have HB2 : Hid (y * 256 + b.getD k 0 < 256 ^ (b.length - k)) := hide (by
        have h1 := unhide HB
        rw [show b.length - k = (b.length - (k + 1)) + 1 by omega, Int.pow_succ]
        generalize (256 : Int) ^ (b.length - (k + 1)) = P at h1 ⊢
        omega)
      generalize b.getD k 0 = x at k3 c0 c1 HY2 HB2
      clear HY HB hc3
      rw [hki]
      go_wp2_with fail
      go_round
      case rel => exact ⟨k, y * 256 + x, by go_num, rfl, by omega, by omega, HB2, HY2⟩
      case measure => simp [intOf]
set_option maxRecDepth 100000 in
set_option maxHeartbeats 1000000 in
theorem rfixed_any (x : Int) (n : Nat) (w : World) (h0 : 0 ≤ x) (h1 : x < 18446744073709551616) (hn : n ≤ 8) :
    Calls Try.prog 40 #[.int .u64 x, .int .i64 n] w fun e w' => ∃ v, e = .returned v ∧ OwnG 5 (Value.int .u8) w w' v (fxL x n) := by
  obtain ⟨i1, hi1, y1, z1, b1⟩ := info_parts Try.infoU8
  go_enter Try.func40, Try.ntmps40
  go_wp2_with fail
  go_loopw [0, 5, 6] (fun yv v jv wr => ∃ j : Nat, ∃ y : Int, jv = .int .i64 j ∧ yv = .int .u64 y ∧ j ≤ n ∧ 0 ≤ y ∧ y < 18446744073709551616 ∧ Hid (y = x / 256 ^ j) ∧ Hid (OwnG 5 (Value.int .u8) w wr v (fxL x j))) (fun _ _ jv _ => n - (intOf jv).toNat)
  case atStart => exact ⟨0, x, rfl, rfl, by omega, h0, h1, hide (by simp), hide (OwnG.nil _ _ _ (Below.refl _ _))⟩
  case round =>
    obtain ⟨j, y, rfl, rfl, hj, v0, v1, HY, O⟩ := hrel
    by_cases hjl : j < n
    · have hji : (j : Int) < (n : Int) := by omega
      have d0 : 0 ≤ y / 256 := by omega
      have d1 : y / 256 < 18446744073709551616 := by omega
      have m0 : 0 ≤ y % 256 := by omega
      have m1 : y % 256 < 256 := by omega
      have hl2 : (fxL x j).length = j := fxL_length _ _
      have HS : Hid (fxL x (j + 1) = fxL x j ++ [y % 256]) := hide (by rw [unhide HY]; rfl)
      have HY2 : Hid (y / 256 = x / 256 ^ (j + 1)) := hide (by rw [unhide HY, Int.pow_succ, Int.ediv_ediv_of_nonneg (Int.pow_nonneg (by decide))])
      obtain ⟨m, hm⟩ : ∃ m, y % 256 = m := ⟨_, rfl⟩
      rw [hm] at m0 m1 HS
      have hwr : IntKind.u8.wrap m = m := by rw [IntKind.wrap_u8]; omega
      have HL := hide hl2
      clear HY hl2
      go_wp2_with (at_builtin; (refine wpList_append_ls rfl _ _ 24 rfl w 5 i1 (.int .u8 0) 1 Try.underlying24 hi1 y1 z1 b1 rfl (int_one .u8) _ (fxL x j) rfl ((unhide O).below (al1p _ _)) (some ⟨_, 0, none⟩) 1 [m] rfl (ls_one6 _ _ _) (by unfold maxLen; rw [unhide HL]; simp <;> omega) (by rw [unhide HL]; simp <;> omega) ?_; intro v2 w2 O2; have HO2 := hide O2; clear O2))
      go_roundw
      case rel => exact ⟨j + 1, y / 256, by go_num, rfl, by omega, d0, d1, HY2, hide (by rw [unhide HS]; exact unhide HO2)⟩
      case measure => simp [intOf]; omega
    · have hji : ¬ (j : Int) < (n : Int) := by omega
      have ej : j = n := by omega
      subst ej
      clear HY
      go_wp2_with fail
      go_ret
      exact ⟨_, rfl, unhide O⟩
theorem take_eq6 {xs ys : List Int} {n : Nat} (h1 : n < xs.length) (h2 : n < ys.length) (h : xs.take n = ys.take n) (e : xs.getD n 0 = ys.getD n 0) : xs.take (n + 1) = ys.take (n + 1) := by
  have t : ∀ l : List Int, n < l.length → l.take (n + 1) = l.take n ++ [l.getD n 0] := fun l hl => by
    rw [List.take_add_one, List.getElem?_eq_getElem hl, List.getD_eq_getElem?_getD, List.getElem?_eq_getElem hl]; rfl
  rw [t xs h1, t ys h2, h, e]
theorem take_all6 {α : Type} {xs ys : List α} {n : Nat} (hl : xs.length = ys.length) (hn : n = xs.length) (h : xs.take n = ys.take n) : xs = ys := by
  rw [List.take_of_length_le (by omega), List.take_of_length_le (by omega)] at h
  exact h
set_option maxRecDepth 100000 in
set_option maxHeartbeats 1000000 in
theorem rsameb_any (p p' : Option Addr) (c c' : Nat) (xs ys : List Int) (w : World) (h : Ints .u8 w p c xs) (k : Ints .u8 w p' c' ys) :
    Calls Try.prog 14 #[.slice p xs.length c, .slice p' ys.length c'] w fun e w' => e = .returned (.bool (decide (xs = ys))) ∧ Below w.heap.size w w' := by
  have A1 := hide h
  have A2 := hide k
  have nx := h.len
  have ny := k.len
  clear h k
  obtain ⟨D, hD⟩ : ∃ D, decide (xs = ys) = D := ⟨_, rfl⟩
  have HD := hide hD
  rw [hD]
  clear hD
  by_cases hl : xs.length = ys.length
  · have tl : ((xs.length : Int) != (ys.length : Int)) = false := bneFp (by omega)
    have HL := hide hl
    clear hl
    go_enter Try.func14, Try.ntmps14
    go_wp2_with fail
    clear tl
    go_loopw [5] (fun iv wr => ∃ n : Nat, iv = .int .i64 n ∧ n ≤ xs.length ∧ Hid (xs.take n = ys.take n) ∧ ∃ m, wr = w.drewN m) (fun iv _ => xs.length - (intOf iv).toNat)
    case atStart => exact ⟨0, rfl, by omega, hide (by simp), 0, rfl⟩
    case round =>
      obtain ⟨n0, rfl, hn0, HT0, m0, rfl⟩ := hrel
      by_cases hlt : n0 < xs.length
      · have hlt2 : n0 < ys.length := by rw [← unhide HL]; exact hlt
        obtain ⟨b, o, rfl, hb, hc⟩ := (unhide A1).lies (by omega)
        obtain ⟨b', o', rfl, hb', hc'⟩ := (unhide A2).lies (by omega)
        have hi : (n0 : Int) < (xs.length : Int) := by omega
        have hi2 : (n0 : Int) < (ys.length : Int) := by omega
        have k1 : w.cell? ⟨b, o + n0, none⟩ = some (.int .u8 (xs.getD n0 0)) := hc n0 hlt
        have k2 : w.cell? ⟨b', o' + n0, none⟩ = some (.int .u8 (ys.getD n0 0)) := hc' n0 hlt2
        have TE := hide (fun e => take_eq6 hlt hlt2 (unhide HT0) e)
        have TN : Hid (¬ xs.getD n0 0 = ys.getD n0 0 → ¬ xs = ys) := hide (fun e h => e (by rw [h]))
        clear hc hc' hlt2 HT0
        generalize xs.getD n0 0 = x at k1 TE TN
        generalize ys.getD n0 0 = y at k2 TE TN
        by_cases hxy : x = y
        · have HT2 := hide (unhide TE hxy)
          subst hxy
          clear TE TN
          go_wp2_with fail
          go_quiet (fail)
          go_wp2_with fail
          go_roundw
          case rel => exact ⟨n0 + 1, by go_num, by omega, HT2, _, rfl⟩
          case measure => simp [intOf]; omega
        · have hne : (x == y) = false := by simp [hxy]
          have HNE : Hid (¬ xs = ys) := hide (fun h => unhide TN hxy h)
          clear TE TN hxy
          go_wp2_with fail
          go_quiet (fail)
          go_wp2_with fail
          go_ret
          exact ⟨ret_bool (by rw [← unhide HD]; exact (decide_eq_false (unhide HNE)).symm), bw_drew (bw_drew (Below.refl _ _) _) _⟩
      · have hi : ¬ (n0 : Int) < (xs.length : Int) := by omega
        have Q0 := hide (take_all6 (unhide HL) (show n0 = xs.length by omega) (unhide HT0))
        clear HT0
        go_wp2_with fail
        go_ret
        exact ⟨ret_bool (by rw [← unhide HD]; exact (decide_eq_true (unhide Q0)).symm), bw_drew (Below.refl _ _) _⟩
  · have tl : ((xs.length : Int) != (ys.length : Int)) = true := bneTp (by omega)
    have HNE : Hid (¬ xs = ys) := hide (fun h => hl (by rw [h]))
    clear hl
    go_enter Try.func14, Try.ntmps14
    go_wp2_with fail
    go_ret
    exact ⟨ret_bool (by rw [← unhide HD]; exact (decide_eq_false (unhide HNE)).symm), Below.refl _ _⟩
end Go.Proofs.Ytbcmfgohbppndaa
