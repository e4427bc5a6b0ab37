/-
  Walks of the document's answers to floats without their broken part.
-/
import Derived.Test.YtkbniebahledmaaWkT
import Derived.Test.YtkbniebahledmaaFltL
namespace Go.Proofs.Ytkbniebahledmaa
open Go.RowKit
set_option linter.unusedVariables false

theorem ret_tup2 {a a' : Int} {b b' : Bool} (h : a = a') (g : b = b') : Ending.returned (.tuple #[.int .u64 a, .bool b]) = .returned (.tuple #[.int .u64 a', .bool b']) := by rw [h, g]

set_option maxRecDepth 100000 in
set_option maxHeartbeats 1000000 in
theorem cut_great (a : Int) (h0 : 0 ≤ a) (h1 : a < 4294967296) (hE : 190 ≤ Flt.mg a / 8388608) (w : World) :
    Calls Try.prog 32 #[.int .u32 a] w fun e w' => e = .returned (.tuple #[.int .u64 0, .bool true]) ∧ w' = w := by
  have ea := mg_cast a h0
  have hm := Flt.mg_lt a
  obtain ⟨ma, hma⟩ : ∃ ma, Flt.mg a = ma := ⟨_, rfl⟩
  rw [hma] at ea hE hm
  have hEi : (190 : Int) ≤ (ma : Int) / 8388608 := by omega
  have hmi : (ma : Int) < 2147483648 := by omega
  clear hma hm hE
  go_enter Try.func32, Try.ntmps32
  go_wp2_with (go_at_call 30; refine (rabs_any _ h0 h1 _).mono ?_; rintro e w' ⟨rfl, rfl⟩)
  go_ret2
  exact ⟨rfl, rfl⟩

set_option maxRecDepth 100000 in
set_option maxHeartbeats 1000000 in
theorem cut_high (a : Int) (h0 : 0 ≤ a) (h1 : a < 4294967296) (hE : Flt.mg a / 8388608 < 190) (hE2 : 150 ≤ Flt.mg a / 8388608) (w : World) :
    Calls Try.prog 32 #[.int .u32 a] w fun e w' => e = .returned (.tuple #[.int .u64 ((Flt.A (Flt.mg a) / 2 ^ 149 : Nat) : Int), .bool false]) ∧ w' = w := by
  have ea := mg_cast a h0
  have hm := Flt.mg_lt a
  have hfr : a % 8388608 = ((Flt.mg a % 8388608 : Nat) : Int) := by unfold Flt.mg; omega
  have hA := Flt.A_cut (Flt.mg a)
  have hF := Flt.cutF_lt (Flt.mg a)
  have eE : Flt.cutE (Flt.mg a) = Flt.mg a / 8388608 := by unfold Flt.cutE; rw [if_neg (by omega)]
  have eF : Flt.cutF (Flt.mg a) = Flt.mg a % 8388608 + 8388608 := by unfold Flt.cutF; rw [if_neg (by omega)]
  rw [hA, Flt.cut_up _ _ (by omega)]
  obtain ⟨E, hEE⟩ : ∃ E, Flt.cutE (Flt.mg a) = E := ⟨_, rfl⟩
  obtain ⟨F, hFF⟩ : ∃ F, Flt.cutF (Flt.mg a) = F := ⟨_, rfl⟩
  rw [hEE, hFF]
  rw [hEE] at eE
  rw [hFF] at eF hF
  have d1 : Flt.absF a / 8388608 = (E : Int) := by rw [ea]; omega
  have d2 : a % 8388608 + 8388608 = (F : Int) := by omega
  have b1 : (E : Int) < 190 := by omega
  have b2 : (150 : Int) ≤ (E : Int) := by omega
  have hF24 : F ≤ 16777216 := by omega
  have HF24 := hide hF24
  have ra : 0 ≤ Flt.absF a ∧ Flt.absF a < 2147483648 := by unfold Flt.absF; omega
  obtain ⟨ra0, ra1⟩ := ra
  have c1 : Flt.absF a / 8388608 < 190 := by omega
  have c2 : 150 ≤ Flt.absF a / 8388608 := by omega
  have D1 := hide d1
  have D2 := hide d2
  clear ea hm hfr hA hF eE eF hEE hFF hE hE2 d1 d2 hF24
  go_enter Try.func32, Try.ntmps32
  go_wp2_with (go_at_call 30; refine (rabs_any _ h0 h1 _).mono ?_; rintro e w' ⟨rfl, rfl⟩)
  go_loop [4, 5] (fun e f => ∃ j : Nat, e = .int .i64 ((E : Int) - (j : Int)) ∧ (150 : Int) ≤ (E : Int) - (j : Int) ∧ f = .int .u64 ((F * 2 ^ j : Nat) : Int)) (fun e _ => (intOf e).toNat)
  case atStart => exact ⟨0, by rw [unhide D1]; simp, by omega, by rw [unhide D2]; simp⟩
  case round =>
    obtain ⟨j, rfl, hj, rfl⟩ := hrel
    by_cases hgo : (150 : Int) < (E : Int) - (j : Int)
    · have hb : F * 2 ^ j ≤ 16777216 * 2 ^ 38 := Nat.mul_le_mul (unhide HF24) (Nat.pow_le_pow_right (by decide) (by omega))
      have hb2 : ((F * 2 ^ j : Nat) : Int) ≤ 4611686018427387904 := by omega
      have hb3 : (0 : Int) ≤ ((F * 2 ^ j : Nat) : Int) := by omega
      obtain ⟨G, hG⟩ : ∃ G : Int, ((F * 2 ^ j : Nat) : Int) = G := ⟨_, rfl⟩
      rw [hG] at hb2 hb3 ⊢
      have HG := hide hG
      clear hG hb
      go_wp2_with fail
      go_round
      case rel => exact ⟨j + 1, by go_num, by omega, by rw [Nat.pow_succ, ← Nat.mul_assoc, Int.natCast_mul, unhide HG]; go_num⟩
      case measure => simp [intOf]; omega
    · have hj2 : (E : Int) - (j : Int) = 150 := by omega
      have hjE : E - 150 = j := by omega
      rw [hj2]
      have HJE := hide hjE
      obtain ⟨G, hG⟩ : ∃ G : Int, ((F * 2 ^ j : Nat) : Int) = G := ⟨_, rfl⟩
      rw [hG]
      have HG := hide hG
      clear hgo hj hj2 hjE hG b1 b2 c1 c2
      go_wp2_with fail
      go_loop [4, 5] (fun e f => e = .int .i64 150 ∧ f = .int .u64 G) (fun _ _ => 0)
      case atStart => exact ⟨rfl, rfl⟩
      case round =>
        obtain ⟨rfl, rfl⟩ := hrel
        go_wp2_with fail
        go_ret2
        exact ⟨ret_tup2 (by rw [unhide HJE, ← unhide HG, Int.natCast_mul, Int.natCast_pow]; rfl) rfl, rfl⟩

set_option maxRecDepth 100000 in
set_option maxHeartbeats 1000000 in
theorem cut_low (a : Int) (h0 : 0 ≤ a) (h1 : a < 4294967296) (hE2 : Flt.mg a / 8388608 < 150) (w : World) :
    Calls Try.prog 32 #[.int .u32 a] w fun e w' => e = .returned (.tuple #[.int .u64 ((Flt.A (Flt.mg a) / 2 ^ 149 : Nat) : Int), .bool false]) ∧ w' = w := by
  have ea := mg_cast a h0
  have hfr : a % 8388608 = ((Flt.mg a % 8388608 : Nat) : Int) := by unfold Flt.mg; omega
  have hA := Flt.A_cut (Flt.mg a)
  have hF := Flt.cutF_lt (Flt.mg a)
  have hc1 : 1 ≤ Flt.cutE (Flt.mg a) ∧ Flt.cutE (Flt.mg a) < 150 := by unfold Flt.cutE; split <;> omega
  rw [hA, Flt.cut_down _ _ (by omega) (by omega)]
  have hEF : (Flt.mg a / 8388608 = 0 ∧ Flt.cutE (Flt.mg a) = 1 ∧ Flt.cutF (Flt.mg a) = Flt.mg a % 8388608) ∨ (Flt.mg a / 8388608 ≠ 0 ∧ Flt.cutE (Flt.mg a) = Flt.mg a / 8388608 ∧ Flt.cutF (Flt.mg a) = Flt.mg a % 8388608 + 8388608) := by
    unfold Flt.cutE Flt.cutF; split
    · rename_i h; exact .inl ⟨h, rfl, rfl⟩
    · rename_i h; exact .inr ⟨h, rfl, rfl⟩
  obtain ⟨E, hEE⟩ : ∃ E, Flt.cutE (Flt.mg a) = E := ⟨_, rfl⟩
  obtain ⟨F, hFF⟩ : ∃ F, Flt.cutF (Flt.mg a) = F := ⟨_, rfl⟩
  rw [hEE, hFF] at hEF ⊢
  rw [hEE] at hc1
  rw [hFF] at hF
  have b1 : (1 : Int) ≤ (E : Int) := by omega
  have b2 : (E : Int) < 150 := by omega
  have hF24 : F < 16777216 := hF
  have HF24 := hide hF24
  have ra : 0 ≤ Flt.absF a ∧ Flt.absF a < 2147483648 := by unfold Flt.absF; omega
  obtain ⟨ra0, ra1⟩ := ra
  have c1 : Flt.absF a / 8388608 < 150 := by rw [ea]; omega
  rcases hEF with ⟨z, e1, e2⟩ | ⟨z, e1, e2⟩
  · have z1 : Flt.absF a / 8388608 = 0 := by rw [ea]; omega
    have D2 := hide (show a % 8388608 = (F : Int) by omega)
    have D1 := hide e1
    clear ea hfr hA hF hEE hFF hE2 hc1 hF24 z e1 e2 c1
    go_enter Try.func32, Try.ntmps32
    go_wp2_with (go_at_call 30; refine (rabs_any _ h0 h1 _).mono ?_; rintro e w' ⟨rfl, rfl⟩)
    go_loop [4, 5] (fun e f => ∃ G : Int, e = .int .i64 (E : Int) ∧ f = .int .u64 G ∧ 0 ≤ G ∧ G ≤ 16777215 ∧ Hid (G = (F : Int))) (fun _ _ => 0)
    case atStart => exact ⟨_, by first | rfl | (rw [unhide D1]; rfl) | rw [unhide D1], rfl, by omega, by have := unhide D2; have := unhide HF24; omega, hide (unhide D2)⟩
    case round =>
      obtain ⟨G, rfl, rfl, q0, q1, HG⟩ := hrel
      go_wp2_with fail
      go_loop [4, 5] (fun e f => ∃ j : Nat, ∃ G : Int, e = .int .i64 ((E : Int) + (j : Int)) ∧ (E : Int) + (j : Int) ≤ 150 ∧ f = .int .u64 G ∧ 0 ≤ G ∧ G ≤ 16777215 ∧ Hid (G = ((F / 2 ^ j : Nat) : Int))) (fun e _ => (150 - intOf e).toNat)
      case atStart => exact ⟨0, G, by simp, by omega, rfl, q0, q1, hide (by rw [unhide HG]; simp)⟩
      case round =>
        obtain ⟨j, G2, rfl, hj, rfl, r0, r1, HG2⟩ := hrel
        by_cases hj2 : (E : Int) + (j : Int) = 150
        · rw [hj2]
          have HJ := hide (show 150 - E = j by omega)
          clear hj hj2 b1 b2
          go_wp2_with fail
          go_ret2
          exact ⟨ret_tup2 (by rw [unhide HJ, unhide HG2]; exact Flt.div_cast _ _) rfl, rfl⟩
        · have hlt : (E : Int) + (j : Int) < 150 := by omega
          by_cases hg : 0 < G2
          · go_wp2_with fail
            go_round
            case rel =>
              refine ⟨j + 1, G2 / 2, by go_num, by omega, rfl, by omega, by omega, hide ?_⟩
              rw [unhide HG2, ← Flt.half_step]; rfl
            case measure => simp [intOf]; omega
          · have hg0 : G2 = 0 := by omega
            subst hg0
            have hz := unhide HG2
            have HJ := hide (show F / 2 ^ (150 - E) = 0 by
              have hp : 2 ^ j ≤ 2 ^ (150 - E) := Nat.pow_le_pow_right (by decide) (by omega)
              have hl : F < 2 ^ j := by
                rcases Nat.lt_or_ge F (2 ^ j) with h | h
                · exact h
                · have := Nat.div_pos h (Nat.two_pow_pos j); omega
              exact Nat.div_eq_of_lt (by omega))
            clear hz HG2
            go_wp2_with fail
            go_ret2
            exact ⟨ret_tup2 (by rw [← Flt.div_cast, unhide HJ]; rfl) rfl, rfl⟩
  · have z1 : 0 < Flt.absF a / 8388608 := by rw [ea]; omega
    have D1 := hide (show Flt.absF a / 8388608 = (E : Int) by rw [ea]; omega)
    have D2 := hide (show a % 8388608 + 8388608 = (F : Int) by omega)
    clear ea hfr hA hF hEE hFF hE2 hc1 hF24 z e1 e2
    go_enter Try.func32, Try.ntmps32
    go_wp2_with (go_at_call 30; refine (rabs_any _ h0 h1 _).mono ?_; rintro e w' ⟨rfl, rfl⟩)
    clear c1 z1
    go_loop [4, 5] (fun e f => ∃ G : Int, e = .int .i64 (E : Int) ∧ f = .int .u64 G ∧ 0 ≤ G ∧ G ≤ 16777215 ∧ Hid (G = (F : Int))) (fun _ _ => 0)
    case atStart => exact ⟨_, by first | rfl | (rw [unhide D1]; rfl) | rw [unhide D1], rfl, by omega, by have := unhide D2; have := unhide HF24; omega, hide (unhide D2)⟩
    case round =>
      obtain ⟨G, rfl, rfl, q0, q1, HG⟩ := hrel
      go_wp2_with fail
      go_loop [4, 5] (fun e f => ∃ j : Nat, ∃ G : Int, e = .int .i64 ((E : Int) + (j : Int)) ∧ (E : Int) + (j : Int) ≤ 150 ∧ f = .int .u64 G ∧ 0 ≤ G ∧ G ≤ 16777215 ∧ Hid (G = ((F / 2 ^ j : Nat) : Int))) (fun e _ => (150 - intOf e).toNat)
      case atStart => exact ⟨0, G, by simp, by omega, rfl, q0, q1, hide (by rw [unhide HG]; simp)⟩
      case round =>
        obtain ⟨j, G2, rfl, hj, rfl, r0, r1, HG2⟩ := hrel
        by_cases hj2 : (E : Int) + (j : Int) = 150
        · rw [hj2]
          have HJ := hide (show 150 - E = j by omega)
          clear hj hj2 b1 b2
          go_wp2_with fail
          go_ret2
          exact ⟨ret_tup2 (by rw [unhide HJ, unhide HG2]; exact Flt.div_cast _ _) rfl, rfl⟩
        · have hlt : (E : Int) + (j : Int) < 150 := by omega
          by_cases hg : 0 < G2
          · go_wp2_with fail
            go_round
            case rel =>
              refine ⟨j + 1, G2 / 2, by go_num, by omega, rfl, by omega, by omega, hide ?_⟩
              rw [unhide HG2, ← Flt.half_step]; rfl
            case measure => simp [intOf]; omega
          · have hg0 : G2 = 0 := by omega
            subst hg0
            have hz := unhide HG2
            have HJ := hide (show F / 2 ^ (150 - E) = 0 by
              have hp : 2 ^ j ≤ 2 ^ (150 - E) := Nat.pow_le_pow_right (by decide) (by omega)
              have hl : F < 2 ^ j := by
                rcases Nat.lt_or_ge F (2 ^ j) with h | h
                · exact h
                · have := Nat.div_pos h (Nat.two_pow_pos j); omega
              exact Nat.div_eq_of_lt (by omega))
            clear hz HG2
            go_wp2_with fail
            go_ret2
            exact ⟨ret_tup2 (by rw [← Flt.div_cast, unhide HJ]; rfl) rfl, rfl⟩

theorem cut_any (a : Int) (h0 : 0 ≤ a) (h1 : a < 4294967296) (hE : Flt.mg a / 8388608 < 190) (w : World) :
    Calls Try.prog 32 #[.int .u32 a] w fun e w' => e = .returned (.tuple #[.int .u64 ((Flt.A (Flt.mg a) / 2 ^ 149 : Nat) : Int), .bool false]) ∧ w' = w := by
  by_cases h : 150 ≤ Flt.mg a / 8388608
  · exact cut_high a h0 h1 hE h w
  · exact cut_low a h0 h1 (by omega) w

end Go.Proofs.Ytkbniebahledmaa
