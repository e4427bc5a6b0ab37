/-
  Layer 6: the code's bytes: copies, four and eight of them, so many as a length says.
-/
import Derived.Test.YtbcmfgohbppndaaKK
import Derived.Test.YtbcmfgohbppndaaKM
import Derived.Test.YtbcmfgohbppndaaLA
import Derived.Lib.SliceRun
namespace Go.Proofs.Ytbcmfgohbppndaa
open Go.RowKit
set_option linter.unusedVariables false

set_option maxRecDepth 100000 in
set_option maxHeartbeats 1000000 in
/-- bytes.Clone. -/
theorem cclone_any (p : Option Addr) (c : Nat) (xs : List Int) (w : World) (h : Ls (Value.int .u8) w p c xs) (hs : xs.length ≤ 140737488355328) :
    Calls Try.prog 49 #[.slice p xs.length c] w fun e w' => ∃ v, e = .returned v ∧ OwnG 5 (Value.int .u8) w w' v xs := by
  obtain ⟨i1, hi1, y1, z1, b1⟩ := info_parts Try.infoU8
  have A1 := hide h
  have hnil := fun (w : World) (a : Option Addr) (n c : Nat) => Go.Lib.run_eql_slice_nil (P := Try.prog) w 24 5 a n c 0 0 Try.underlying24
  cases p with
  | none =>
    have hc0 : c = 0 := h.2.2.2 rfl
    have hx0 : xs = [] := List.eq_nil_of_length_eq_zero (by have := h.1; omega)
    subst hc0 hx0
    clear h
    go_enter Try.func49, Try.ntmps49
    go_wp2_with fail
    go_ret
    exact ⟨_, rfl, OwnG.nil _ _ _ (Below.refl _ _)⟩
  | some ad =>
    clear h
    go_enter Try.func49, Try.ntmps49
    go_wp2_with (at_builtin; (refine wpList_append_ls rfl _ _ 24 rfl w 5 i1 (.int .u8 0) 1 Try.underlying24 hi1 y1 z1 b1 rfl (int_one .u8) _ [] rfl (OwnG.empty _ _) (some ad) c xs rfl ((unhide A1).below (al1p _ _)) (by unfold maxLen; simp only [List.length_nil]; omega) (by simp only [List.length_nil]; omega) ?_; intro v2 w2 O2; have HO2 := hide O2; clear O2))
    go_ret
    exact ⟨_, rfl, unhide HO2⟩
theorem or256 (y x : Int) (h0 : 0 ≤ y) (x0 : 0 ≤ x) (x1 : x < 256) (hs : y * 256 + x < 18446744073709551616) : bits .or .u64 (y * 256) x = y * 256 + x := by
  have key : (BitVec.ofInt 64 (y * 256) ||| BitVec.ofInt 64 x).toNat = y.toNat * 256 + x.toNat := by
    rw [BitVec.toNat_or, BitVec.toNat_ofInt, BitVec.toNat_ofInt]
    have e1 : ((y * 256) % ((2 ^ 64 : Nat) : Int)).toNat = 2 ^ 8 * y.toNat := by omega
    have e2 : (x % ((2 ^ 64 : Nat) : Int)).toNat = x.toNat := by omega
    rw [e1, e2, ← Nat.two_pow_add_eq_or_of_lt (by omega)]
    omega
  show IntKind.u64.wrap ((BitVec.ofInt 64 (y * 256) ||| BitVec.ofInt 64 x).toNat : Nat) = y * 256 + x
  rw [key, IntKind.wrap_u64]
  omega
set_option maxRecDepth 100000 in
set_option maxHeartbeats 1000000 in
/-- So many bytes as a number. -/
theorem cwide_any (p : Option Addr) (c : Nat) (b : List Int) (m k : Nat) (w : World) (h : Ints .u8 w p c b) (hm : m ≤ b.length) (hs : b.length ≤ 4611686018427387904) (hk : k ≤ 8) (hk1 : 1 ≤ k) :
    Calls Try.prog 52 #[.slice p b.length c, .int .i64 m, .int .i64 k] w fun e w' => e = .returned (if b.length < m + k then .tuple #[.int .u64 0, .int .i64 0, .int .i64 6] else .tuple #[.int .u64 (leV ((b.drop m).take k)), .int .i64 ((m + k : Nat) : Int), .int .i64 0]) ∧ w' = w := by
  have A1 := hide h
  have hB := wf_isB h.2.2.1
  clear h
  by_cases hsh : b.length < m + k
  · rw [if_pos hsh]
    have t1 : (b.length : Int) - (m : Int) < (k : Int) := by omega
    go_enter Try.func52, Try.ntmps52
    go_wp2_with fail
    go_ret3
    exact ⟨rfl, rfl⟩
  · rw [if_neg hsh]
    have t1 : ¬ (b.length : Int) - (m : Int) < (k : Int) := by omega
    obtain ⟨R, hR⟩ : ∃ R, leV ((b.drop m).take k) = R := ⟨_, rfl⟩
    have HR := hide hR
    rw [hR]
    clear hR
    obtain ⟨b3, o3, e3, hb3, hc3⟩ := (unhide A1).lies (show 0 < b.length by omega)
    subst e3
    have HC3 := hide hc3
    clear hc3 A1
    have hlen : ((b.drop m).take k).length = k := by simp; omega
    have HLEN := hide hlen
    have HGET : Hid (∀ n, n < k → ((b.drop m).take k).getD n 0 = b.getD (m + n) 0) := hide (fun n hn => by
      simp [List.getD_eq_getElem?_getD, List.getElem?_take_of_lt hn])
    generalize (b.drop m).take k = d at HR HLEN HGET
    clear hlen
    go_enter Try.func52, Try.ntmps52
    go_wp2_with fail
    go_loop [9, 10] (fun xv iv => ∃ n : Nat, ∃ y : Int, iv = .int .i64 ((n : Int) - 1) ∧ xv = .int .u64 y ∧ n ≤ k ∧ 0 ≤ y ∧ Hid (y < 256 ^ (k - n)) ∧ Hid (y = leV (d.drop n))) (fun _ iv => (intOf iv + 1).toNat)
    case atStart => exact ⟨k, 0, rfl, rfl, by omega, by omega, hide (by simp), hide (by rw [List.drop_of_length_le (by rw [unhide HLEN]; omega)]; rfl)⟩
    case round =>
      obtain ⟨n, y, rfl, rfl, hn, y0, HB, HY⟩ := hrel
      by_cases h0 : n = 0
      · subst h0
        have HE : Hid (y = R) := hide (by rw [unhide HY, ← unhide HR]; rfl)
        clear HY HB
        go_wp2_with fail
        go_ret3
        exact ⟨Try.f_int3 (unhide HE) (by omega) rfl, rfl⟩
      · obtain ⟨j, rfl⟩ : ∃ j, n = j + 1 := ⟨n - 1, by omega⟩
        have hjb : m + j < b.length := by omega
        have hge : (0 : Int) ≤ (j : Int) := by omega
        have hki : ((j + 1 : Nat) : Int) - 1 = (j : Int) := by omega
        have k3 : w.cell? ⟨b3, o3 + (m + j), none⟩ = some (.int .u8 (b.getD (m + j) 0)) := unhide HC3 (m + j) hjb
        have hk2 : ((m + j : Nat) : Int) < (b.length : Int) := by omega
        have hmj : (m : Int) + (j : Int) = ((m + j : Nat) : Int) := by omega
        obtain ⟨c0, c1⟩ := hB _ (getD_mem6 hjb)
        have HGJ := hide (unhide HGET j (by omega))
        have hpw : y < 72057594037927936 := by
          have h1 := unhide HB
          have h2 : (256 : Int) ^ (k - (j + 1)) ≤ 256 ^ 7 := by
            have := Nat.pow_le_pow_right (show 0 < 256 by decide) (show k - (j + 1) ≤ 7 by omega)
            have h3 : ((256 ^ (k - (j + 1)) : Nat) : Int) ≤ ((256 ^ 7 : Nat) : Int) := Int.ofNat_le.2 this
            simpa using h3
          have h4 : (256 : Int) ^ 7 = 72057594037927936 := by decide
          omega
        generalize b.getD (m + j) 0 = x at k3 c0 c1 HGJ
        have HY2 : Hid (y * 256 + x = leV (d.drop j)) := hide (by rw [leV_drop (by rw [unhide HLEN]; omega), unhide HGJ, unhide HY]; omega)
        have HB2 : Hid (y * 256 + x < 256 ^ (k - j)) := hide (by
          have h1 := unhide HB
          rw [show k - j = (k - (j + 1)) + 1 by omega, Int.pow_succ]
          generalize (256 : Int) ^ (k - (j + 1)) = P at h1 ⊢
          omega)
        have hor := or256 y x y0 c0 c1 (by omega)
        obtain ⟨M, hM⟩ : ∃ M, m + j = M := ⟨_, rfl⟩
        rw [hM] at k3 hk2 hmj
        clear HY HB hjb hM HGJ
        rw [hki]
        go_wp2_with fail
        go_round
        case rel => exact ⟨j, y * 256 + x, by go_num, rfl, by omega, by omega, HB2, HY2⟩
        case measure => simp [intOf]
set_option maxRecDepth 100000 in
theorem cfour_any (p : Option Addr) (c : Nat) (b : List Int) (m : Nat) (w : World) (h : Ints .u8 w p c b) (hm : m ≤ b.length) (hs : b.length ≤ 4611686018427387904) :
    Calls Try.prog 44 #[.slice p b.length c, .int .i64 m] w fun e w' => e = .returned (if b.length < m + 4 then .tuple #[.int .u64 0, .int .i64 0, .int .i64 6] else .tuple #[.int .u64 (leV ((b.drop m).take 4)), .int .i64 ((m + 4 : Nat) : Int), .int .i64 0]) ∧ w' = w := by
  have CW := hide (cwide_any p c b m 4 w h hm hs (by omega) (by omega))
  by_cases hsh : b.length < m + 4
  · rw [if_pos hsh] at CW ⊢
    go_enter Try.func44, Try.ntmps44
    go_wp2_with fail
    refine (unhide CW).mono ?_
    rintro e v ⟨rfl, rfl⟩
    go_wp2_with fail
    go_ret3
    exact ⟨rfl, rfl⟩
  · rw [if_neg hsh] at CW ⊢
    generalize leV ((b.drop m).take 4) = R at CW ⊢
    generalize ((m + 4 : Nat) : Int) = R2 at CW ⊢
    go_enter Try.func44, Try.ntmps44
    go_wp2_with fail
    refine (unhide CW).mono ?_
    rintro e v ⟨rfl, rfl⟩
    go_wp2_with fail
    go_ret3
    exact ⟨rfl, rfl⟩
set_option maxRecDepth 100000 in
theorem ceight_any (p : Option Addr) (c : Nat) (b : List Int) (m : Nat) (w : World) (h : Ints .u8 w p c b) (hm : m ≤ b.length) (hs : b.length ≤ 4611686018427387904) :
    Calls Try.prog 46 #[.slice p b.length c, .int .i64 m] w fun e w' => e = .returned (if b.length < m + 8 then .tuple #[.int .u64 0, .int .i64 0, .int .i64 6] else .tuple #[.int .u64 (leV ((b.drop m).take 8)), .int .i64 ((m + 8 : Nat) : Int), .int .i64 0]) ∧ w' = w := by
  have CW := hide (cwide_any p c b m 8 w h hm hs (by omega) (by omega))
  by_cases hsh : b.length < m + 8
  · rw [if_pos hsh] at CW ⊢
    go_enter Try.func46, Try.ntmps46
    go_wp2_with fail
    refine (unhide CW).mono ?_
    rintro e v ⟨rfl, rfl⟩
    go_wp2_with fail
    go_ret3
    exact ⟨rfl, rfl⟩
  · rw [if_neg hsh] at CW ⊢
    generalize leV ((b.drop m).take 8) = R at CW ⊢
    generalize ((m + 8 : Nat) : Int) = R2 at CW ⊢
    go_enter Try.func46, Try.ntmps46
    go_wp2_with fail
    refine (unhide CW).mono ?_
    rintro e v ⟨rfl, rfl⟩
    go_wp2_with fail
    go_ret3
    exact ⟨rfl, rfl⟩
end Go.Proofs.Ytbcmfgohbppndaa
