/-
  Layer 6: the code's Write.
-/
import Derived.Test.YtbcmfgohbppndaaLB
import Derived.Test.YtbcmfgohbppndaaKJ
import Derived.Deep.RegionHeld3
namespace Go.Proofs.Ytbcmfgohbppndaa
open Go.RowKit
set_option linter.unusedVariables false

set_option maxRecDepth 100000 in
set_option maxHeartbeats 1000000 in
theorem cmay_any (a : FA) (w : World) (h : FaIn w a) : Calls Try.prog 37 #[faV a] w fun e w' => e = .returned (.bool (mayB a.f)) ∧ Below w.heap.size w w' := by
  obtain ⟨n, wr, x, d, q, c⟩ := a
  obtain ⟨h1, h2, h3, h4⟩ := h
  simp only at h1 h2 h3 h4
  have dl := h4.len
  obtain ⟨x0, x1⟩ := u64_range h3
  unfold faV
  simp only
  obtain ⟨D, hD⟩ : ∃ D, mayB (FA.f ⟨n, wr, x, d, q, c⟩) = D := ⟨_, rfl⟩
  rw [hD]
  have HV : Hid (D = (decide (1 ≤ n) && decide (n ≤ 536870911) && ((wr == 0 || wr == 1) && d.isEmpty || wr == 5 && d.isEmpty && decide (x < 4294967296) || wr == 2 && x == 0))) := hide (by rw [← hD]; rfl)
  have hde : d.isEmpty = decide ((d.length : Int) = 0) := by cases d <;> simp; omega
  rw [hde] at HV
  clear hD hde h4
  generalize d.length = m at HV dl ⊢
  by_cases c1 : n < 1
  · have t1 : decide (n < 1) = true := by simp [c1]
    have HE : Hid (D = false) := hide (by rw [unhide HV]; simp; omega)
    clear HV
    go_enter Try.func37, Try.ntmps37
    go_wp2_with fail
    go_ret
    exact ⟨ret_bool (by first | rfl | (rw [unhide HE, decide_eq_decide]; omega) | exact (unhide HE).symm), al1p _ _⟩
  · have t1 : decide (n < 1) = false := by simp; omega
    by_cases c2 : 536870911 < n
    · have t2 : decide (536870911 < n) = true := by simp [c2]
      have HE : Hid (D = false) := hide (by rw [unhide HV]; simp; omega)
      clear HV
      go_enter Try.func37, Try.ntmps37
      go_wp2_with fail
      go_ret
      exact ⟨ret_bool (by first | rfl | (rw [unhide HE, decide_eq_decide]; omega) | exact (unhide HE).symm), al1p _ _⟩
    · have t2 : decide (536870911 < n) = false := by simp; omega
      have HV2 : Hid (D = ((wr == 0 || wr == 1) && decide ((m : Int) = 0) || wr == 5 && decide ((m : Int) = 0) && decide (x < 4294967296) || wr == 2 && x == 0)) := hide (by
        rw [unhide HV, show decide (1 ≤ n) = true by simp; omega, show decide (n ≤ 536870911) = true by simp; omega]; simp)
      clear HV
      by_cases w0 : wr = 0
      · subst w0
        have HE : Hid (D = decide ((m : Int) = 0)) := hide (by rw [unhide HV2]; simp)
        clear HV2
        go_enter Try.func37, Try.ntmps37
        go_wp2_with fail
        go_ret
        exact ⟨ret_bool (by first | rfl | (rw [unhide HE, decide_eq_decide]; omega) | exact (unhide HE).symm), al1p _ _⟩
      · have e0 : (wr == 0) = false := by simp [w0]
        by_cases w1 : wr = 1
        · subst w1
          have HE : Hid (D = decide ((m : Int) = 0)) := hide (by rw [unhide HV2]; simp)
          clear HV2
          go_enter Try.func37, Try.ntmps37
          go_wp2_with fail
          go_ret
          exact ⟨ret_bool (by first | rfl | (rw [unhide HE, decide_eq_decide]; omega) | exact (unhide HE).symm), al1p _ _⟩
        · have e1 : (wr == 1) = false := by simp [w1]
          by_cases w5 : wr = 5
          · subst w5
            by_cases cm : (m : Int) = 0
            · have HE : Hid (D = decide (x < 4294967296)) := hide (by rw [unhide HV2]; simp [cm])
              clear HV2
              go_enter Try.func37, Try.ntmps37
              go_wp2_with fail
              go_ret
              exact ⟨ret_bool (by first | rfl | (rw [unhide HE, decide_eq_decide]; omega) | exact (unhide HE).symm), al1p _ _⟩
            · have em : ((m : Int) == 0) = false := by simp; omega
              have HE : Hid (D = false) := hide (by rw [unhide HV2]; simp; omega)
              clear HV2
              go_enter Try.func37, Try.ntmps37
              go_wp2_with fail
              go_ret
              exact ⟨ret_bool (by first | rfl | (rw [unhide HE, decide_eq_decide]; omega) | exact (unhide HE).symm), al1p _ _⟩
          · have e5 : (wr == 5) = false := by simp [w5]
            by_cases w2 : wr = 2
            · subst w2
              have HE : Hid (D = (x == 0)) := hide (by rw [unhide HV2]; simp)
              clear HV2
              go_enter Try.func37, Try.ntmps37
              go_wp2_with fail
              go_ret
              exact ⟨ret_bool (by first | rfl | (rw [unhide HE, decide_eq_decide]; omega) | exact (unhide HE).symm), al1p _ _⟩
            · have e2 : (wr == 2) = false := by simp [w2]
              have HE : Hid (D = false) := hide (by rw [unhide HV2, e0, e1, e5, e2]; simp)
              clear HV2 w0 w1 w5 w2
              go_enter Try.func37, Try.ntmps37
              go_wp2_with fail
              go_ret
              exact ⟨ret_bool (by first | rfl | (rw [unhide HE, decide_eq_decide]; omega) | exact (unhide HE).symm), al1p _ _⟩
set_option maxRecDepth 100000 in
set_option maxHeartbeats 1000000 in
theorem cwithw_any (v0 : Value) (os : List Int) (x : Int) (k : Nat) (w0 w : World) (ho : OwnG 5 (Value.int .u8) w0 w v0 os) (hn : os.length ≤ 1000) (h0 : 0 ≤ x) (h1 : x < 18446744073709551616) (hk : k ≤ 8) :
    Calls Try.prog 48 #[v0, .int .u64 x, .int .i64 k] w fun e w' => ∃ v, e = .returned v ∧ OwnG 5 (Value.int .u8) w0 w' v (os ++ fxL x k) := by
  obtain ⟨i1, hi1, y1, z1, b1⟩ := info_parts Try.infoU8
  have HO0 := hide ho
  clear ho
  go_enter Try.func48, Try.ntmps48
  go_wp2_with fail
  go_loopw [0, 1, 8] (fun v yv jv wr => ∃ j : Nat, ∃ y : Int, jv = .int .i64 j ∧ yv = .int .u64 y ∧ j ≤ k ∧ 0 ≤ y ∧ y < 18446744073709551616 ∧ Hid (y = x / 256 ^ j) ∧ Hid (OwnG 5 (Value.int .u8) w0 wr v (os ++ fxL x j))) (fun _ _ jv _ => k - (intOf jv).toNat)
  case atStart => exact ⟨0, x, rfl, rfl, by omega, h0, h1, hide (by simp), hide (by rw [fxL, List.append_nil]; exact unhide HO0)⟩
  case round =>
    obtain ⟨j, y, rfl, rfl, hj, v0, v1, HY, O⟩ := hrel
    by_cases hjl : j < k
    · have hji : (j : Int) < (k : Int) := by omega
      have d0 : 0 ≤ y / 256 := by omega
      have d1 : y / 256 < 18446744073709551616 := by omega
      have hl2 : (os ++ fxL x j).length ≤ 1008 := by rw [List.length_append, fxL_length]; omega
      have HS : Hid (os ++ fxL x (j + 1) = (os ++ fxL x j) ++ [y % 256]) := hide (by rw [unhide HY, fxL, List.append_assoc])
      have HY2 : Hid (y / 256 = x / 256 ^ (j + 1)) := hide (by rw [unhide HY, Int.pow_succ, Int.ediv_ediv_of_nonneg (Int.pow_nonneg (by decide))])
      obtain ⟨P, hP⟩ : ∃ P, os ++ fxL x j = P := ⟨_, rfl⟩
      rw [hP] at O hl2 HS
      clear HY hP
      go_wp2_with (at_builtin; (refine wpList_append_ls rfl _ _ 24 rfl w0 5 i1 (.int .u8 0) 1 Try.underlying24 hi1 y1 z1 b1 rfl (int_one .u8) _ P rfl ((unhide O).below (al1p _ _)) (some ⟨_, 0, none⟩) 1 [y % 256] rfl (ls_one6 _ _ _) (by unfold maxLen; simp only [List.length_singleton]; omega) (by simp only [List.length_singleton]; omega) ?_; intro v2 w2 O2; have HO2 := hide O2; clear O2))
      go_roundw
      case rel => exact ⟨j + 1, y / 256, by go_num, rfl, by omega, d0, d1, HY2, hide (by rw [unhide HS]; exact unhide HO2)⟩
      case measure => simp [intOf]; omega
    · have hji : ¬ (j : Int) < (k : Int) := by omega
      have ej : j = k := by omega
      subst ej
      clear HY
      go_wp2_with fail
      go_ret
      exact ⟨_, rfl, unhide O⟩
/-- A field's bytes ahead of its Data. -/
def headB (f : Fld) : List Int := varV (f.1 * 8 + f.2.1) ++ (if f.2.1 = 1 then fxL f.2.2.1 8 else if f.2.1 = 5 then fxL f.2.2.1 4 else if f.2.1 = 2 then varV (f.2.2.2.length : Int) else varV f.2.2.1)
theorem headB_data {f : Fld} (h : mayF f) : fieldB f = headB f ++ f.2.2.2 := by
  obtain ⟨n, wi, x, d⟩ := f
  obtain ⟨m1, m2, m3⟩ := h
  simp only at m1 m2 m3
  unfold fieldB headB bodyB
  simp only
  rcases m3 with ⟨h3 | h3, h4⟩ | ⟨h3, h4, _⟩ | ⟨h3, h4⟩
  · subst h3 h4; simp
  · subst h3 h4; simp
  · subst h3 h4; simp
  · subst h3; simp [List.append_assoc]
theorem headB_len (f : Fld) : (headB f).length ≤ 20 := by
  have := varV_len (f.1 * 8 + f.2.1)
  unfold headB
  rw [List.length_append]
  split
  · rw [fxL_length]; omega
  · split
    · rw [fxL_length]; omega
    · split
      · have := varV_len (f.2.2.2.length : Int); omega
      · have := varV_len f.2.2.1; omega
theorem or8 (y x : Int) (h0 : 0 ≤ y) (x0 : 0 ≤ x) (x1 : x < 8) (hs : y * 8 + x < 18446744073709551616) : bits .or .u64 (y * 8) x = y * 8 + x := by
  have key : (BitVec.ofInt 64 (y * 8) ||| BitVec.ofInt 64 x).toNat = y.toNat * 8 + x.toNat := by
    rw [BitVec.toNat_or, BitVec.toNat_ofInt, BitVec.toNat_ofInt]
    have e1 : ((y * 8) % ((2 ^ 64 : Nat) : Int)).toNat = 2 ^ 3 * y.toNat := by omega
    have e2 : (x % ((2 ^ 64 : Nat) : Int)).toNat = x.toNat := by omega
    rw [e1, e2, ← Nat.two_pow_add_eq_or_of_lt (by omega)]
    omega
  show IntKind.u64.wrap ((BitVec.ofInt 64 (y * 8) ||| BitVec.ofInt 64 x).toNat : Nat) = y * 8 + x
  rw [key, IntKind.wrap_u64]
  omega
theorem OwnG.early {α : Type} {f : α → Value} {t : TypeId} {w w1 wr : World} {v : Value} {os : List α} (h : OwnG t f w1 wr v os) (hb : Below w.heap.size w w1) : OwnG t f w wr v os := by
  obtain ⟨⟨h1, h2⟩, h3⟩ := h
  refine ⟨⟨h1, ?_⟩, bl_tr hb h3⟩
  rcases h2 with g | ⟨g, cap, cur, hv, hg, rest⟩
  · exact .inl g
  · exact .inr ⟨g, cap, cur, hv, Nat.le_trans hb.size hg, rest⟩
set_option maxRecDepth 100000 in
set_option maxHeartbeats 2000000 in
theorem chead_any (a : FA) (w : World) (h : FaIn w a) (hm : mayF a.f) :
    Calls Try.prog 38 #[faV a] w fun e w' => ∃ v, e = .returned v ∧ OwnG 5 (Value.int .u8) w w' v (headB a.f) := by
  obtain ⟨x0, x1'⟩ := u64_range h.2.2.1
  have dl := h.2.2.2.len
  clear h
  obtain ⟨m1, m2, m3⟩ := hm
  simp only [FA.f] at m1 m2 m3
  have hw4 : a.wr = 0 ∨ a.wr = 1 ∨ a.wr = 5 ∨ a.wr = 2 := by omega
  have wb : 0 ≤ a.wr ∧ a.wr ≤ 5 := by omega
  obtain ⟨wb0, wb1⟩ := wb
  clear m3
  have hor := or8 a.n a.wr (by omega) wb0 (by omega) (by omega)
  have zt : 0 ≤ a.n * 8 + a.wr := by omega
  have zu : a.n * 8 + a.wr < 18446744073709551616 := by omega
  have VT := hide (fun v => cvarint_any (a.n * 8 + a.wr) v zt zu)
  have vl := (varV_len (a.n * 8 + a.wr)).2
  obtain ⟨V1, hV1⟩ : ∃ V1, varV (a.n * 8 + a.wr) = V1 := ⟨_, rfl⟩
  have HV1 := hide hV1
  rw [hV1] at VT vl
  clear hV1
  unfold faV
  rcases hw4 with hw | hw | hw | hw
  · have t1 : (a.wr == 1) = false := by simp [hw]
    have t5 : (a.wr == 5) = false := by simp [hw]
    have t2 : (a.wr == 2) = false := by simp [hw]
    have HH : Hid (headB a.f = V1 ++ varV a.x) := hide (by rw [← unhide HV1]; unfold headB FA.f; simp [hw])
    have VX := hide (fun v0 (u : World) hO => cwithv_any v0 V1 a.x (w.alloc (Obj.cells #[.int .i64 a.n, .int .i64 a.wr, .int .u64 a.x, .slice a.q a.d.length a.c] 40)) u hO (by omega) x0 x1')
    clear hw HV1
    go_enter Try.func38, Try.ntmps38
    go_wp2_with fail
    refine (unhide VT _).mono ?_
    rintro e U1 ⟨u1, rfl, hO⟩
    have P1 := hide (hO.below (Below.refl _ _))
    have VX1 := hide (unhide VX u1 U1 hO)
    have Y1 := hide (Box.below (Box.new w #[.int .i64 a.n, .int .i64 a.wr, .int .u64 a.x, .slice a.q a.d.length a.c] 40) hO.2)
    have x1 := (unhide Y1).cell
    have BA := hide (al1p w (Obj.cells #[.int .i64 a.n, .int .i64 a.wr, .int .u64 a.x, .slice a.q a.d.length a.c] 40))
    clear hO VX VT
    go_wp2_with fail
    refine (unhide VX1).mono ?_
    rintro e U2 ⟨u2, rfl, hO⟩
    have HO := hide hO
    clear hO VX1 x1
    go_wp2_with fail
    go_ret
    exact ⟨_, rfl, own_eq6 (OwnG.early (unhide HO) (unhide BA)) (unhide HH).symm⟩
  · have t1 : (a.wr == 1) = true := by simp [hw]
    have HH : Hid (headB a.f = V1 ++ fxL a.x 8) := hide (by rw [← unhide HV1]; unfold headB FA.f; simp [hw])
    have VX := hide (fun v0 (u : World) hO => (cwithw_any v0 V1 a.x 8 (w.alloc (Obj.cells #[.int .i64 a.n, .int .i64 a.wr, .int .u64 a.x, .slice a.q a.d.length a.c] 40)) u hO (by omega) x0 x1' (by omega) : Calls Try.prog 48 #[v0, .int .u64 a.x, .int .i64 8] u _))
    clear hw HV1
    go_enter Try.func38, Try.ntmps38
    go_wp2_with fail
    refine (unhide VT _).mono ?_
    rintro e U1 ⟨u1, rfl, hO⟩
    have P1 := hide (hO.below (Below.refl _ _))
    have VX1 := hide (unhide VX u1 U1 hO)
    have Y1 := hide (Box.below (Box.new w #[.int .i64 a.n, .int .i64 a.wr, .int .u64 a.x, .slice a.q a.d.length a.c] 40) hO.2)
    have x1 := (unhide Y1).cell
    have BA := hide (al1p w (Obj.cells #[.int .i64 a.n, .int .i64 a.wr, .int .u64 a.x, .slice a.q a.d.length a.c] 40))
    clear hO VX VT
    go_wp2_with fail
    refine (unhide VX1).mono ?_
    rintro e U2 ⟨u2, rfl, hO⟩
    have HO := hide hO
    clear hO VX1 x1
    go_wp2_with fail
    go_ret
    exact ⟨_, rfl, own_eq6 (OwnG.early (unhide HO) (unhide BA)) (unhide HH).symm⟩
  · have t1 : (a.wr == 1) = false := by simp [hw]
    have t5 : (a.wr == 5) = true := by simp [hw]
    have HH : Hid (headB a.f = V1 ++ fxL a.x 4) := hide (by rw [← unhide HV1]; unfold headB FA.f; simp [hw])
    have VX := hide (fun v0 (u : World) hO => (cwithw_any v0 V1 a.x 4 (w.alloc (Obj.cells #[.int .i64 a.n, .int .i64 a.wr, .int .u64 a.x, .slice a.q a.d.length a.c] 40)) u hO (by omega) x0 x1' (by omega) : Calls Try.prog 48 #[v0, .int .u64 a.x, .int .i64 4] u _))
    clear hw HV1
    go_enter Try.func38, Try.ntmps38
    go_wp2_with fail
    refine (unhide VT _).mono ?_
    rintro e U1 ⟨u1, rfl, hO⟩
    have P1 := hide (hO.below (Below.refl _ _))
    have VX1 := hide (unhide VX u1 U1 hO)
    have Y1 := hide (Box.below (Box.new w #[.int .i64 a.n, .int .i64 a.wr, .int .u64 a.x, .slice a.q a.d.length a.c] 40) hO.2)
    have x1 := (unhide Y1).cell
    have BA := hide (al1p w (Obj.cells #[.int .i64 a.n, .int .i64 a.wr, .int .u64 a.x, .slice a.q a.d.length a.c] 40))
    clear hO VX VT
    go_wp2_with fail
    refine (unhide VX1).mono ?_
    rintro e U2 ⟨u2, rfl, hO⟩
    have HO := hide hO
    clear hO VX1 x1
    go_wp2_with fail
    go_ret
    exact ⟨_, rfl, own_eq6 (OwnG.early (unhide HO) (unhide BA)) (unhide HH).symm⟩
  · have t1 : (a.wr == 1) = false := by simp [hw]
    have t5 : (a.wr == 5) = false := by simp [hw]
    have t2 : (a.wr == 2) = true := by simp [hw]
    have HH : Hid (headB a.f = V1 ++ varV (a.d.length : Int)) := hide (by rw [← unhide HV1]; unfold headB FA.f; simp [hw])
    have VX := hide (fun v0 (u : World) hO => cwithv_any v0 V1 (a.d.length : Int) (w.alloc (Obj.cells #[.int .i64 a.n, .int .i64 a.wr, .int .u64 a.x, .slice a.q a.d.length a.c] 40)) u hO (by omega) (by omega) (by omega))
    clear hw HV1
    go_enter Try.func38, Try.ntmps38
    go_wp2_with fail
    refine (unhide VT _).mono ?_
    rintro e U1 ⟨u1, rfl, hO⟩
    have P1 := hide (hO.below (Below.refl _ _))
    have VX1 := hide (unhide VX u1 U1 hO)
    have Y1 := hide (Box.below (Box.new w #[.int .i64 a.n, .int .i64 a.wr, .int .u64 a.x, .slice a.q a.d.length a.c] 40) hO.2)
    have x1 := (unhide Y1).cell
    have BA := hide (al1p w (Obj.cells #[.int .i64 a.n, .int .i64 a.wr, .int .u64 a.x, .slice a.q a.d.length a.c] 40))
    clear hO VX VT
    go_wp2_with fail
    refine (unhide VX1).mono ?_
    rintro e U2 ⟨u2, rfl, hO⟩
    have HO := hide hO
    clear hO VX1 x1
    go_wp2_with fail
    go_ret
    exact ⟨_, rfl, own_eq6 (OwnG.early (unhide HO) (unhide BA)) (unhide HH).symm⟩
end Go.Proofs.Ytbcmfgohbppndaa
