/-
  Layer 6: the code's said, Last, Joined.
-/
import Derived.Test.YtbcmfgohbppndaaLH
import Derived.Test.YtbcmfgohbppndaaKG
namespace Go.Proofs.Ytbcmfgohbppndaa
open Go.RowKit
set_option linter.unusedVariables false

set_option maxRecDepth 100000 in
set_option maxHeartbeats 1000000 in
theorem cindex6_any (p : Option Addr) (c : Nat) (ws : List Int) (x : Int) (w : World) (h : Ls (Value.int .i64) w p c ws) :
    Calls Try.prog 53 #[.slice p ws.length c, .int .i64 x] w fun e w' => (∃ r : Int, e = .returned (.int .i64 r) ∧ decide (0 ≤ r) = decide (x ∈ ws)) ∧ w' = w := by
  have A1 := hide h
  have nl := h.len
  clear h
  go_enter Try.func53, Try.ntmps53
  go_wp2_with fail
  go_loop [8] (fun iv => ∃ n : Nat, iv = .int .i64 n ∧ n ≤ ws.length ∧ Hid (¬ x ∈ ws.take n)) (fun iv => ws.length - (intOf iv).toNat)
  case atStart => exact ⟨0, rfl, by omega, hide (by simp)⟩
  case round =>
    obtain ⟨n, rfl, hn, HN⟩ := hrel
    by_cases hlt : n < ws.length
    · have hi : (n : Int) < (ws.length : Int) := by omega
      obtain ⟨b, o, rfl, hb, hc⟩ := (unhide A1).lies (by omega)
      have k1 : w.cell? ⟨b, o + n, none⟩ = some (.int .i64 (ws.getD n 0)) := hc n hlt
      have HT : Hid (ws.take (n + 1) = ws.take n ++ [ws.getD n 0]) := hide (by rw [List.take_add_one, List.getD_eq_getElem?_getD, List.getElem?_eq_getElem hlt]; rfl)
      have HM := hide (getD_mem6 hlt)
      generalize ws.getD n 0 = y at k1 HT HM
      clear hc
      by_cases hxy : x = y
      · subst hxy
        go_wp2_with fail
        go_ret
        exact ⟨⟨n, rfl, ⟨fun _ => unhide HM, fun _ => by omega⟩⟩, rfl⟩
      · have txy : (x == y) = false := by simp [hxy]
        have HN2 : Hid (¬ x ∈ ws.take (n + 1)) := hide (by rw [unhide HT]; simp [unhide HN, hxy])
        clear HT HM HN hxy
        go_wp2_with fail
        go_round
        case rel => exact ⟨n + 1, by go_num, by omega, HN2⟩
        case measure => simp [intOf]; omega
    · have hi : ¬ (n : Int) < (ws.length : Int) := by omega
      have HE : Hid (¬ x ∈ ws) := hide (by have := unhide HN; rw [List.take_of_length_le (by omega)] at this; exact this)
      clear HN
      go_wp2_with fail
      go_ret
      exact ⟨⟨-1, rfl, ⟨fun h => by omega, fun h => absurd h (unhide HE)⟩⟩, rfl⟩
set_option maxRecDepth 100000 in
theorem ccontains_any (p : Option Addr) (c : Nat) (ws : List Int) (x : Int) (w : World) (h : Ls (Value.int .i64) w p c ws) :
    Calls Try.prog 50 #[.slice p ws.length c, .int .i64 x] w fun e w' => e = .returned (.bool (decide (x ∈ ws))) ∧ w' = w := by
  have IX := hide (cindex6_any p c ws x w h)
  generalize decide (x ∈ ws) = D at IX ⊢
  clear h
  go_enter Try.func50, Try.ntmps50
  go_wp2_with fail
  refine (unhide IX).mono ?_
  rintro e v ⟨⟨r, rfl, hr⟩, rfl⟩
  have HR := hide hr
  clear hr
  go_wp2_with fail
  go_ret
  exact ⟨ret_bool (unhide HR), rfl⟩
/-- Has each one of them a Wire that is said? -/
def okW (ws : List Int) (l : List FA) : Bool := l.all fun a => decide (a.wr ∈ ws)
set_option maxRecDepth 100000 in
set_option maxHeartbeats 2000000 in
theorem csaid_any (p q : Option Addr) (c d : Nat) (l : List FA) (num : Int) (ws : List Int) (w : World) (h : Fls w p c l) (hq : Ls (Value.int .i64) w q d ws) (hs : l.length * 48 ≤ 140737488355328) :
    Calls Try.prog 42 #[.slice p l.length c, .int .i64 num, .slice q ws.length d] w fun e w' => ∃ v, e = .returned (.tuple #[v, .int .i64 (if okW ws (allA l num) then 0 else 6)]) ∧ OwnF 40 w w' v (if okW ws (allA l num) then allA l num else []) := by
  obtain ⟨i1, hi1, y1, z1, b1⟩ := info_parts Try.infoCF
  have A1 := hide h.1
  have AQ := hide hq
  have nl := h.1.len
  have nq := hq.len
  clear h hq
  obtain ⟨D, hD⟩ : ∃ D, okW ws (allA l num) = D := ⟨_, rfl⟩
  have HD := hide hD
  rw [hD]
  clear hD
  obtain ⟨E, hE⟩ : ∃ E : Int, (if D = true then (0 : Int) else 6) = E := ⟨_, rfl⟩
  obtain ⟨RL, hRL⟩ : ∃ RL, (if D = true then allA l num else []) = RL := ⟨_, rfl⟩
  have HEE := hide hE
  have HRL := hide hRL
  rw [hE, hRL]
  clear hE hRL
  go_enter Try.func42, Try.ntmps42
  go_wp2_with fail
  go_loopw [8, 13] (fun v iv wr => ∃ n : Nat, iv = .int .i64 n ∧ n ≤ l.length ∧ Hid (okW ws (allA (l.take n) num) = true) ∧ Hid (OwnF 40 w wr v (allA (l.take n) num))) (fun _ iv _ => l.length - (intOf iv).toNat)
  case atStart => exact ⟨0, rfl, by omega, hide rfl, hide (OwnF.nil _ _ _ (Below.refl _ _))⟩
  case round =>
    obtain ⟨n, rfl, hn, HK, O⟩ := hrel
    by_cases hlt : n < l.length
    · have hi : (n : Int) < (l.length : Int) := by omega
      obtain ⟨b, o, rfl, hb, k0, k1, k2, k3⟩ := ((unhide A1).below (unhide O).2).at hlt
      have HT := hide (allA_take l num n hlt)
      have HM : Hid ((l.getD n noFA).n == num → l.getD n noFA ∈ allA l num) := hide (fun hh => List.mem_filter.2 ⟨getD_memF hlt, hh⟩)
      have hal := allA_len l num n
      have CC := hide (fun v hv => ccontains_any q d ws (l.getD n noFA).wr v ((unhide AQ).below (bl_tr (unhide O).2 hv)))
      generalize l.getD n noFA = a at k0 k1 k2 k3 HT HM CC
      by_cases hnm : a.n = num
      · have tn : (a.n != num) = false := bneFp hnm
        have te : (a.n == num) = true := by simp [hnm]
        have HT2 : Hid (allA (l.take (n + 1)) num = allA (l.take n) num ++ [a]) := hide (by rw [unhide HT, if_pos te])
        have HM2 := hide (unhide HM te)
        clear HT hnm HM te
        by_cases hw : a.wr ∈ ws
        · rw [decide_eq_true hw] at CC
          have HK2 : Hid (okW ws (allA (l.take (n + 1)) num) = true) := hide (by
            have := unhide HK
            unfold okW at this ⊢
            rw [unhide HT2, List.all_append, this]
            simp [hw])
          clear hw HK HM2
          go_wp2_with fail
          refine (unhide CC _ (al1p _ _)).mono ?_
          rintro e v ⟨rfl, hv⟩
          replace hv := hv.symm
          subst hv
          go_wp2_with (at_builtin; (refine wpList_append_fld rfl _ _ 32 rfl w 40 i1 _ 48 Try.underlying32 hi1 y1 z1 b1 rfl _ (allA (l.take n) num) rfl ((unhide O).below (al2p _ _ _)) ⟨_, 0, none⟩ 1 a rfl (fa_alloc2 _ _ _ _) (by unfold maxLen; omega) (by omega) ?_; intro v2 w2 O2; have HO2 := hide O2; clear O2))
          go_roundw
          case rel => exact ⟨n + 1, by go_num, by omega, HK2, hide (by rw [unhide HT2]; exact unhide HO2)⟩
          case measure => simp [intOf]; omega
        · rw [decide_eq_false hw] at CC
          have HE : Hid (D = false) := hide (by
            rw [← unhide HD]
            unfold okW
            rw [List.all_eq_false]
            exact ⟨a, unhide HM2, by simp [hw]⟩)
          have BB := hide (bl_tr (unhide O).2 (al1p wr (Obj.cells #[.int .i64 a.n, .int .i64 a.wr, .int .u64 a.x, .slice a.q a.d.length a.c] 40)))
          clear hw HK HM2
          go_wp2_with fail
          refine (unhide CC _ (al1p _ _)).mono ?_
          rintro e v ⟨rfl, hv⟩
          replace hv := hv.symm
          subst hv
          go_wp2_with fail
          go_ret2
          exact ⟨_, by rw [← unhide HEE, unhide HE]; rfl, by rw [← unhide HRL, unhide HE]; exact OwnF.nil _ _ _ (unhide BB)⟩
      · have tn : (a.n != num) = true := bneTp hnm
        have te : (a.n == num) = false := by simp [hnm]
        have HT2 : Hid (allA (l.take (n + 1)) num = allA (l.take n) num) := hide (by rw [unhide HT, if_neg (by rw [te]; decide), List.append_nil])
        have HO2 := hide ((unhide O).below (al1p wr (Obj.cells #[.int .i64 a.n, .int .i64 a.wr, .int .u64 a.x, .slice a.q a.d.length a.c] 40)))
        clear HT hnm CC O HM te
        go_wp2_with fail
        go_roundw
        case rel => exact ⟨n + 1, by go_num, by omega, hide (by rw [unhide HT2]; exact unhide HK), hide (by rw [unhide HT2]; exact unhide HO2)⟩
        case measure => simp [intOf]; omega
    · have hi : ¬ (n : Int) < (l.length : Int) := by omega
      have HE : Hid (allA (l.take n) num = allA l num) := hide (by rw [List.take_of_length_le (by omega)])
      have HE2 : Hid (D = true) := hide (by rw [← unhide HD, ← unhide HE]; exact unhide HK)
      go_wp2_with fail
      go_ret2
      exact ⟨_, by rw [← unhide HEE, unhide HE2]; rfl, by rw [← unhide HRL, unhide HE2, if_pos rfl, ← unhide HE]; exact unhide O⟩
end Go.Proofs.Ytbcmfgohbppndaa
