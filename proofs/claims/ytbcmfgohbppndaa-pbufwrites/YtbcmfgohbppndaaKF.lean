import Derived.Test.YtbcmfgohbppndaaKE

/-
  Layer 6: the document's picks.
-/
namespace Go.Proofs.Ytbcmfgohbppndaa
open Go.RowKit
set_option linter.unusedVariables false

set_option maxRecDepth 100000 in
set_option maxHeartbeats 1000000 in
theorem rmay_any (a : FA) (w : World) (h : FaIn w a) : Calls Try.prog 39 #[faV a] w fun e w' => e = .returned (.bool (mayB a.f)) ∧ Below w.heap.size w w' := by
  obtain ⟨n, wr, x, d, q, c⟩ := a
  obtain ⟨h1, h2, h3, h4⟩ := h
  simp only at h1 h2 h3 h4
  have dl := h4.len
  obtain ⟨x0, x1⟩ := u64_range h3
  unfold faV
  simp only
  obtain ⟨D, hD⟩ : ∃ D, mayB (FA.f ⟨n, wr, x, d, q, c⟩) = D := ⟨_, rfl⟩
  rw [hD]
  have HV : Hid (D = (decide (1 ≤ n) && decide (n ≤ 536870911) && ((wr == 0 || wr == 1) && d.isEmpty || wr == 5 && d.isEmpty && decide (x < 4294967296) || wr == 2 && x == 0))) := hide (by rw [← hD]; rfl)
  have hde : d.isEmpty = decide ((d.length : Int) = 0) := by cases d <;> simp; omega
  rw [hde] at HV
  clear hD hde h4
  generalize d.length = m at HV dl ⊢
  by_cases c1 : n < 1
  · have t1 : decide (n < 1) = true := by simp [c1]
    have HE : Hid (D = false) := hide (by rw [unhide HV]; simp; omega)
    clear HV
    go_enter Try.func39, Try.ntmps39
    go_wp2_with fail
    go_ret
    exact ⟨ret_bool (by first | rfl | exact (unhide HE).symm), al1p _ _⟩
  · have t1 : decide (n < 1) = false := by simp; omega
    by_cases c2 : 536870911 < n
    · have t2 : decide (536870911 < n) = true := by simp [c2]
      have HE : Hid (D = false) := hide (by rw [unhide HV]; simp; omega)
      clear HV
      go_enter Try.func39, Try.ntmps39
      go_wp2_with fail
      go_ret
      exact ⟨ret_bool (by first | rfl | exact (unhide HE).symm), al1p _ _⟩
    · have t2 : decide (536870911 < n) = false := by simp; omega
      have HV2 : Hid (D = ((wr == 0 || wr == 1) && decide ((m : Int) = 0) || wr == 5 && decide ((m : Int) = 0) && decide (x < 4294967296) || wr == 2 && x == 0)) := hide (by
        rw [unhide HV, show decide (1 ≤ n) = true by simp; omega, show decide (n ≤ 536870911) = true by simp; omega]; simp)
      clear HV
      by_cases w0 : wr = 0
      · subst w0
        have HE : Hid (D = decide ((m : Int) = 0)) := hide (by rw [unhide HV2]; simp)
        clear HV2
        go_enter Try.func39, Try.ntmps39
        go_wp2_with fail
        go_ret
        exact ⟨ret_bool (by first | rfl | exact (unhide HE).symm), al1p _ _⟩
      · have e0 : (wr == 0) = false := by simp [w0]
        by_cases w1 : wr = 1
        · subst w1
          have HE : Hid (D = decide ((m : Int) = 0)) := hide (by rw [unhide HV2]; simp)
          clear HV2
          go_enter Try.func39, Try.ntmps39
          go_wp2_with fail
          go_ret
          exact ⟨ret_bool (by first | rfl | exact (unhide HE).symm), al1p _ _⟩
        · have e1 : (wr == 1) = false := by simp [w1]
          by_cases w5 : wr = 5
          · subst w5
            by_cases cm : (m : Int) = 0
            · have HE : Hid (D = decide (x < 4294967296)) := hide (by rw [unhide HV2]; simp [cm])
              clear HV2
              go_enter Try.func39, Try.ntmps39
              go_wp2_with fail
              go_ret
              exact ⟨ret_bool (by first | rfl | exact (unhide HE).symm), al1p _ _⟩
            · have em : ((m : Int) == 0) = false := by simp; omega
              have HE : Hid (D = false) := hide (by rw [unhide HV2]; simp; omega)
              clear HV2
              go_enter Try.func39, Try.ntmps39
              go_wp2_with fail
              go_ret
              exact ⟨ret_bool (by first | rfl | exact (unhide HE).symm), al1p _ _⟩
          · have e5 : (wr == 5) = false := by simp [w5]
            by_cases w2 : wr = 2
            · subst w2
              have HE : Hid (D = (x == 0)) := hide (by rw [unhide HV2]; simp)
              clear HV2
              go_enter Try.func39, Try.ntmps39
              go_wp2_with fail
              go_ret
              exact ⟨ret_bool (by first | rfl | exact (unhide HE).symm), al1p _ _⟩
            · have e2 : (wr == 2) = false := by simp [w2]
              have HE : Hid (D = false) := hide (by rw [unhide HV2, e0, e1, e5, e2]; simp)
              clear HV2 w0 w1 w5 w2
              go_enter Try.func39, Try.ntmps39
              go_wp2_with fail
              go_ret
              exact ⟨ret_bool (by first | rfl | exact (unhide HE).symm), al1p _ _⟩
def allA (l : List FA) (num : Int) : List FA := l.filter (fun a => a.n == num)
theorem allA_f (l : List FA) (num : Int) : (allA l num).map FA.f = allV (l.map FA.f) num := by
  unfold allA allV
  rw [List.filter_map]
  rfl
theorem allA_take (l : List FA) (num : Int) (n : Nat) (h : n < l.length) : allA (l.take (n + 1)) num = allA (l.take n) num ++ (if (l.getD n noFA).n == num then [l.getD n noFA] else []) := by
  unfold allA
  rw [List.take_add_one, List.filter_append, List.getD_eq_getElem?_getD]
  rw [List.getElem?_eq_getElem h]
  simp [List.filter_cons]
theorem allA_len (l : List FA) (num : Int) (n : Nat) : (allA (l.take n) num).length ≤ n := by
  unfold allA
  have := List.length_filter_le (fun a => a.n == num) (l.take n)
  rw [List.length_take] at this
  omega
set_option maxRecDepth 100000 in
set_option maxHeartbeats 1000000 in
theorem rall_any (p : Option Addr) (c : Nat) (l : List FA) (num : Int) (w : World) (h : Fls w p c l) (hs : l.length * 48 ≤ 140737488355328) :
    Calls Try.prog 28 #[.slice p l.length c, .int .i64 num] w fun e w' => ∃ v, e = .returned v ∧ OwnF 50 w w' v (allA l num) := by
  obtain ⟨i1, hi1, y1, z1, b1⟩ := info_parts Try.infoRF
  have A1 := hide h.1
  have nl := h.1.len
  clear h
  go_enter Try.func28, Try.ntmps28
  go_wp2_with fail
  go_loopw [5, 6] (fun v iv wr => ∃ n : Nat, iv = .int .i64 n ∧ n ≤ l.length ∧ Hid (OwnF 50 w wr v (allA (l.take n) num))) (fun _ iv _ => l.length - (intOf iv).toNat)
  case atStart => exact ⟨0, rfl, by omega, hide (OwnF.nil _ _ _ (Below.refl _ _))⟩
  case round =>
    obtain ⟨n, rfl, hn, O⟩ := hrel
    by_cases hlt : n < l.length
    · have hi : (n : Int) < (l.length : Int) := by omega
      obtain ⟨b, o, rfl, hb, k0, k1, k2, k3⟩ := ((unhide A1).below (unhide O).2).at hlt
      have HT := hide (allA_take l num n hlt)
      have hal := allA_len l num n
      generalize l.getD n noFA = a at k0 k1 k2 k3 HT
      by_cases hnm : a.n = num
      · have tn : (a.n == num) = true := by simp [hnm]
        have HT2 : Hid (allA (l.take (n + 1)) num = allA (l.take n) num ++ [a]) := hide (by rw [unhide HT, if_pos tn])
        clear HT hnm
        go_wp2_with (at_builtin; (refine wpList_append_fld rfl _ _ 35 rfl w 50 i1 _ 48 Try.underlying35 hi1 y1 z1 b1 rfl _ (allA (l.take n) num) rfl ((unhide O).below (al1p _ _)) ⟨_, 0, none⟩ 1 a rfl (fa_alloc _ _ _) (by unfold maxLen; omega) (by omega) ?_; intro v2 w2 O2; have HO2 := hide O2; clear O2))
        go_roundw
        case rel => exact ⟨n + 1, by go_num, by omega, hide (by rw [unhide HT2]; exact unhide HO2)⟩
        case measure => simp [intOf]; omega
      · have tn : (a.n == num) = false := by simp [hnm]
        have HT2 : Hid (allA (l.take (n + 1)) num = allA (l.take n) num) := hide (by rw [unhide HT, if_neg (by rw [tn]; decide), List.append_nil])
        clear HT hnm
        go_wp2_with fail
        go_roundw
        case rel => exact ⟨n + 1, by go_num, by omega, hide (by rw [unhide HT2]; exact unhide O)⟩
        case measure => simp [intOf]; omega
    · have hi : ¬ (n : Int) < (l.length : Int) := by omega
      have HE : Hid (allA (l.take n) num = allA l num) := hide (by rw [List.take_of_length_le (by omega)])
      go_wp2_with fail
      go_ret
      exact ⟨_, rfl, by rw [← unhide HE]; exact unhide O⟩
def lastA (l : List FA) (num wire : Int) : FA := if (lastV (l.map FA.f) num wire).2.1 = true then (allA l num).getD ((allA l num).length - 1) noFA else noFA
theorem any_take (P : Fld → Bool) (l : List FA) (n : Nat) (h : n < l.length) : (l.take (n + 1)).any (fun a => P a.f) = ((l.take n).any (fun a => P a.f) || P (l.getD n noFA).f) := by
  rw [List.take_add_one, List.any_append, List.getD_eq_getElem?_getD, List.getElem?_eq_getElem h]
  simp
theorem any_map (P : Fld → Bool) (l : List FA) : (l.map FA.f).any P = l.any (fun a => P a.f) := by rw [List.any_map]; rfl
theorem any_of {P : Fld → Bool} {l : List FA} {n : Nat} (h : n < l.length) (hp : P (l.getD n noFA).f = true) : l.any (fun a => P a.f) = true := List.any_eq_true.2 ⟨_, getD_memF h, hp⟩
theorem lastA_f (l : List FA) (num wire : Int) : (lastA l num wire).f = (lastV (l.map FA.f) num wire).1 := by
  unfold lastA lastV
  by_cases h : (allV (l.map FA.f) num).any (fun f => f.2.1 != wire) = true
  · rw [if_pos h]; rfl
  · rw [if_neg h]
    by_cases h0 : (allV (l.map FA.f) num).length = 0
    · rw [if_pos h0]; rfl
    · rw [if_neg h0, if_pos rfl, ← allA_f, List.length_map]
      rw [← allA_f, List.length_map] at h0
      show ((allA l num).getD ((allA l num).length - 1) noFA).f = ((allA l num).map FA.f).getD ((allA l num).length - 1) noFld
      rw [List.getD_eq_getElem?_getD, List.getD_eq_getElem?_getD, List.getElem?_map, List.getElem?_eq_getElem (by omega)]
      rfl
theorem lastA_in {w : World} {l : List FA} {num wire : Int} (h : ∀ a ∈ l, FaIn w a) : FaIn w (lastA l num wire) := by
  unfold lastA
  split
  · by_cases h0 : (allA l num).length = 0
    · rw [List.getD_eq_getElem?_getD, List.getElem?_eq_none (by omega)]; exact noFA_in w
    · have := getD_memF (show (allA l num).length - 1 < (allA l num).length by omega)
      exact h _ (List.mem_filter.1 this).1
  · exact noFA_in w
set_option maxRecDepth 100000 in
set_option maxHeartbeats 2000000 in
theorem rlast_any (p : Option Addr) (c : Nat) (l : List FA) (num wire : Int) (w : World) (h : Fls w p c l) (hs : l.length * 48 ≤ 140737488355328) :
    Calls Try.prog 25 #[.slice p l.length c, .int .i64 num, .int .i64 wire] w fun e w' => e = .returned (.tuple #[faV (lastA l num wire), .bool (lastV (l.map FA.f) num wire).2.1, .int .i64 (lastV (l.map FA.f) num wire).2.2]) ∧ Below w.heap.size w w' := by
  have AL := hide (fun v (hv : Below w.heap.size w v) => rall_any p c l num v (h.below hv) hs)
  have nl := h.1.len
  have hal : (allA l num).length ≤ l.length := List.length_filter_le _ _
  have HV : Hid (∀ (R : Fld × Bool × Int), lastV (l.map FA.f) num wire = R → R = if (allA l num).any (fun a => a.wr != wire) = true then (noFld, false, 6) else if (allA l num).length = 0 then (noFld, false, 0) else (((allA l num).getD ((allA l num).length - 1) noFA).f, true, 0)) := hide (fun R hR => by
    rw [← hR]
    have e1 : (allV (l.map FA.f) num).any (fun f => f.2.1 != wire) = (allA l num).any (fun a => a.wr != wire) := by rw [← allA_f, any_map]; rfl
    have e2 : (allV (l.map FA.f) num).length = (allA l num).length := by rw [← allA_f, List.length_map]
    unfold lastV
    rw [e1, e2]
    split
    · rfl
    · split
      · rfl
      · rename_i h0
        rw [← allA_f]
        rw [List.getD_eq_getElem?_getD, List.getD_eq_getElem?_getD, List.getElem?_map, List.getElem?_eq_getElem (by omega)]
        rfl)
  have HA : Hid (∀ R, lastV (l.map FA.f) num wire = R → lastA l num wire = if R.2.1 = true then (allA l num).getD ((allA l num).length - 1) noFA else noFA) := hide (fun R hR => by unfold lastA; rw [hR])
  obtain ⟨R, hR⟩ : ∃ R, lastV (l.map FA.f) num wire = R := ⟨_, rfl⟩
  have HV2 := hide (unhide HV R hR)
  have HA2 := hide (unhide HA R hR)
  rw [hR]
  obtain ⟨Z, hZ⟩ : ∃ Z, lastA l num wire = Z := ⟨_, rfl⟩
  rw [hZ] at HA2 ⊢
  clear hR hZ HV HA h
  obtain ⟨R1, R2, R3⟩ := R
  simp only at HA2 ⊢
  generalize hL : allA l num = A at AL HV2 HA2 hal
  clear hL
  go_enter Try.func25, Try.ntmps25
  go_wp2_with fail
  refine (unhide AL _ (al1p _ _)).mono ?_
  rintro e w1 ⟨v1, rfl, hO⟩
  obtain ⟨q1, d1, rfl, hc, _⟩ := hO.form
  have C1 := hide hc
  have B1 := hide (bl_tr (al1p _ _) hO.2)
  have R0 := hide (Box.below (Box.new w #[.int .i64 0, .int .i64 0, .int .u64 0, .slice none 0 0] 50) hO.2)
  have z1 : w.heap.size < w1.heap.size := (unhide R0).lt
  have r0 := (unhide R0).cell
  have f0 := (unhide R0).frozen
  clear hc hO AL
  go_wp2_with fail
  go_loop [10] (fun iv => ∃ n : Nat, iv = .int .i64 n ∧ n ≤ A.length ∧ Hid ((A.take n).any (fun a => a.wr != wire) = false)) (fun iv => A.length - (intOf iv).toNat)
  case atStart => exact ⟨0, rfl, by omega, hide (by simp)⟩
  case round =>
    obtain ⟨n, rfl, hn, HN⟩ := hrel
    by_cases hlt : n < A.length
    · have hi : (n : Int) < (A.length : Int) := by omega
      obtain ⟨b, o, rfl, hb, k0, k1, k2, k3⟩ := (unhide C1).at hlt
      have HT : Hid ((A.take (n + 1)).any (fun a => a.wr != wire) = ((A.take n).any (fun a => a.wr != wire) || (A.getD n noFA).wr != wire)) := hide (any_take (fun f => f.2.1 != wire) A n hlt)
      have HW : Hid (((A.getD n noFA).wr != wire) = true → A.any (fun a => a.wr != wire) = true) := hide (fun hh => any_of (P := fun f => f.2.1 != wire) hlt hh)
      generalize A.getD n noFA = a at k0 k1 k2 k3 HT HW
      by_cases hw : a.wr = wire
      · have tw : (a.wr != wire) = false := bneFp hw
        have HN2 : Hid ((A.take (n + 1)).any (fun a => a.wr != wire) = false) := hide (by rw [unhide HT, unhide HN, tw]; rfl)
        clear HT HW HN hw
        go_wp2_with fail
        go_round
        case rel => exact ⟨n + 1, by go_num, by omega, HN2⟩
        case measure => simp [intOf]; omega
      · have tw : (a.wr != wire) = true := bneTp hw
        have HE : Hid (R1 = noFld ∧ R2 = false ∧ R3 = 6) := hide (by have := unhide HV2; rw [if_pos (unhide HW tw)] at this; simpa using this)
        have HZ : Hid (Z = noFA) := hide (by rw [unhide HA2, (unhide HE).2.1]; rfl)
        clear HT HW HN hw
        go_wp2_with fail
        refine bodyPost_ret (v := .tuple #[faV Z, .bool R2, .int .i64 R3]) (by rw [unhide HZ, (unhide HE).2.1, (unhide HE).2.2]; simp [results, Try.results25, go_sem, faV, noFA, ((unhide R0).set4 (.int .i64 0) (.int .i64 0) (.int .u64 0) (.slice none 0 0)).cell]) rfl ⟨rfl, bset4 (unhide B1) (by omega) _ _ _ _⟩
    · have hi : ¬ (n : Int) < (A.length : Int) := by omega
      have HF : Hid (A.any (fun a => a.wr != wire) = false) := hide (by have := unhide HN; rw [List.take_of_length_le (by omega)] at this; exact this)
      clear HN
      by_cases h0 : A.length = 0
      · have t0 : ((A.length : Int) == 0) = true := by rw [h0]; rfl
        have HE : Hid (R1 = noFld ∧ R2 = false ∧ R3 = 0) := hide (by have := unhide HV2; rw [unhide HF, if_neg (by decide), if_pos h0] at this; simpa using this)
        have HZ : Hid (Z = noFA) := hide (by rw [unhide HA2, (unhide HE).2.1]; rfl)
        clear h0
        go_wp2_with fail
        exact bodyPost_ret (v := .tuple #[faV Z, .bool R2, .int .i64 R3]) (by rw [unhide HZ, (unhide HE).2.1, (unhide HE).2.2]; simp [results, Try.results25, go_sem, faV, noFA, ((unhide R0).set4 (.int .i64 0) (.int .i64 0) (.int .u64 0) (.slice none 0 0)).cell]) rfl ⟨rfl, bset4 (unhide B1) (by omega) _ _ _ _⟩
      · have t0 : ((A.length : Int) == 0) = false := by rw [beq_eq_false_iff_ne]; omega
        have HE : Hid (R2 = true ∧ R3 = 0) := hide (by have := unhide HV2; rw [unhide HF, if_neg (by decide), if_neg h0] at this; simp at this; exact this.2)
        have HZ : Hid (Z = A.getD (A.length - 1) noFA) := hide (by rw [unhide HA2, (unhide HE).1]; rfl)
        obtain ⟨b, o, rfl, hb, k0, k1, k2, k3⟩ := (unhide C1).at (show A.length - 1 < A.length by omega)
        have hl1 : (A.length : Int) - 1 = ((A.length - 1 : Nat) : Int) := by omega
        have hl2 : ((A.length - 1 : Nat) : Int) < (A.length : Int) := by omega
        generalize A.length - 1 = m at HZ k0 k1 k2 k3 hl1 hl2
        generalize A.getD m noFA = a at HZ k0 k1 k2 k3
        clear h0
        go_wp2_with fail
        exact bodyPost_ret (v := .tuple #[faV Z, .bool R2, .int .i64 R3]) (by rw [unhide HZ, (unhide HE).1, (unhide HE).2]; simp [results, Try.results25, go_sem, faV, ((unhide R0).set4 (.int .i64 a.n) (.int .i64 a.wr) (.int .u64 a.x) (.slice a.q a.d.length a.c)).cell]) rfl ⟨rfl, bset4 (unhide B1) (by omega) _ _ _ _⟩
end Go.Proofs.Ytbcmfgohbppndaa
