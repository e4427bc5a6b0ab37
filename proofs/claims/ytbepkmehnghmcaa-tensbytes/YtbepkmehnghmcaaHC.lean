import Derived.Test.YtbepkmehnghmcaaHB

/-
  Layer 4: the code's sizes, places and indices.
-/
namespace Go.Proofs.Ytbepkmehnghmcaa
open Go.RowKit
set_option linter.unusedVariables false

theorem prodL_nonneg (ds : List Int) (h : ∀ d ∈ ds, 0 ≤ d) : 0 ≤ prodL ds := by
  induction ds with
  | nil => simp [prodL]
  | cons x a ih =>
    show 0 ≤ x * prodL a
    exact Int.mul_nonneg (h x (by simp)) (ih (fun d hd => h d (by simp [hd])))
theorem prodL_zero (ds : List Int) (h : (0 : Int) ∈ ds) : prodL ds = 0 := by
  induction ds with
  | nil => cases h
  | cons x a ih =>
    show x * prodL a = 0
    rcases List.mem_cons.1 h with e | e
    · rw [← e, Int.zero_mul]
    · rw [ih e, Int.mul_zero]
/-- A product held at one above the most. -/
theorem held_step {P d : Int} (hP : 0 ≤ P) (hd : 0 ≤ d) : min (min P 4097 * d) 4097 = min (P * d) 4097 := by
  by_cases h : P ≤ 4097
  · rw [Int.min_eq_left h]
  · rw [Int.min_eq_right (show (4097 : Int) ≤ P by omega)]
    by_cases h0 : d = 0
    · subst h0; rw [Int.mul_zero, Int.mul_zero]
    · have h1 : 4097 * 1 ≤ 4097 * d := Int.mul_le_mul_of_nonneg_left (by omega) (by omega)
      have h2 : 4097 * 1 ≤ P * d := Int.mul_le_mul (by omega) (by omega) (by omega) (by omega)
      rw [Int.min_eq_right (show (4097 : Int) ≤ 4097 * d by omega), Int.min_eq_right (show (4097 : Int) ≤ P * d by omega)]
theorem size_held {ds : List Int} (h : ∀ d ∈ ds, 0 ≤ d) (h2 : ∀ d ∈ ds, d ≤ 4096) (h8 : ds.length ≤ 8) : sizeV ds = if 4096 < min (prodL ds) 4097 then (0, 4) else (min (prodL ds) 4097, 0) := by
  have hnn := prodL_nonneg ds h
  unfold sizeV
  rw [if_neg (fun ⟨d, a, b⟩ => by have := h d a; omega), if_neg (fun g => by rcases g with g | ⟨d, a, b⟩; omega; have := h2 d a; omega)]
  by_cases z : (0 : Int) ∈ ds
  · rw [if_pos z, prodL_zero ds z]; rfl
  · rw [if_neg z]
    by_cases g : 4096 < prodL ds
    · rw [if_pos g, if_pos (by omega)]
    · rw [if_neg g, if_neg (by omega), Int.min_eq_left (by omega)]

set_option maxRecDepth 100000 in
set_option maxHeartbeats 2000000 in
theorem csize_any (p : Option Addr) (cap : Nat) (ds : List Int) (w : World) (hI : Ints .i64 w p cap ds) :
    Calls Try.prog 48 #[.slice p ds.length cap] w fun e w' => e = .returned (.tuple #[.int .i64 (sizeV ds).1, .int .i64 (sizeV ds).2]) ∧ w' = w := by
  have hlen := hI.len
  have HI := hide hI
  clear hI
  go_enter Try.func48, Try.ntmps48
  go_wp2_with fail
  go_loop [11] (fun iv => ∃ n : Nat, iv = .int .i64 n ∧ n ≤ ds.length ∧ Hid (∀ d ∈ ds.take n, 0 ≤ d)) (fun iv => ds.length - (intOf iv).toNat)
  case atStart => exact ⟨0, rfl, by omega, hide (by simp)⟩
  case round =>
    obtain ⟨n, rfl, hn, HP⟩ := hrel
    by_cases hlt : n < ds.length
    · obtain ⟨b, o, rfl, hb, hc⟩ := (unhide HI).lies (by omega)
      have hi : (n : Int) < (ds.length : Int) := by omega
      have hcell := hc n hlt
      have HT := hide (take_succ ds n hlt)
      have HMEM := hide (getD_mem hlt)
      clear hc
      generalize ds.getD n 0 = d at hcell HT HMEM
      by_cases hd : d < 0
      · go_wp2_with fail
        go_ret2
        refine ⟨ret_two ?_, rfl⟩
        unfold sizeV
        rw [if_pos ⟨d, unhide HMEM, hd⟩]
      · go_wp2_with fail
        go_round
        case rel =>
          refine ⟨n + 1, by go_num, by omega, hide ?_⟩
          rw [unhide HT]; intro x hx
          rcases List.mem_append.1 hx with h | h
          · exact unhide HP x h
          · simp at h; subst h; omega
        case measure => simp [intOf]; omega
    · have hi : ¬ (n : Int) < (ds.length : Int) := by omega
      have en : n = ds.length := by omega
      subst en
      rw [List.take_length] at HP
      by_cases h8 : 8 < ds.length
      · have h8i : (8 : Int) < (ds.length : Int) := by omega
        go_wp2_with fail
        go_ret2
        refine ⟨ret_two ?_, rfl⟩
        unfold sizeV
        rw [if_neg (fun ⟨d, a, b⟩ => by have := unhide HP d a; omega), if_pos (.inl h8)]
      · have h8i : ¬ (8 : Int) < (ds.length : Int) := by omega
        clear hn hlt hi
        go_wp2_with fail
        go_loop [6, 23] (fun sv iv => ∃ n : Nat, ∃ q : Int, iv = .int .i64 n ∧ sv = .int .i64 q ∧ n ≤ ds.length ∧ 0 ≤ q ∧ q ≤ 4097 ∧ Hid (q = min (prodL (ds.take n)) 4097) ∧ Hid (∀ d ∈ ds.take n, d ≤ 4096)) (fun _ iv => ds.length - (intOf iv).toNat)
        case atStart => exact ⟨0, 1, rfl, rfl, by omega, by omega, by omega, hide (by simp [prodL]; omega), hide (by simp)⟩
        case round =>
          obtain ⟨n, q, rfl, rfl, hn, q0, q1, HQ, HD⟩ := hrel
          by_cases hlt : n < ds.length
          · obtain ⟨b, o, rfl, hb, hc⟩ := (unhide HI).lies (by omega)
            have hi : (n : Int) < (ds.length : Int) := by omega
            have hcell := hc n hlt
            have HT := hide (take_succ ds n hlt)
            have HMEM := hide (getD_mem hlt)
            have hd0 := unhide HP _ (getD_mem hlt)
            have HPN := hide (prodL_nonneg (ds.take n) (fun d hd => unhide HP d (List.mem_of_mem_take hd)))
            clear hc
            generalize ds.getD n 0 = d at hcell HT HMEM hd0
            by_cases hd : 4096 < d
            · go_wp2_with fail
              go_ret2
              refine ⟨ret_two ?_, rfl⟩
              unfold sizeV
              rw [if_neg (fun ⟨d, a, b⟩ => by have := unhide HP d a; omega), if_pos (.inr ⟨d, unhide HMEM, hd⟩)]
            · have m1 : q * d ≤ 4097 * 4096 := Int.mul_le_mul q1 (by omega) hd0 (by omega)
              have m0 : 0 ≤ q * d := Int.mul_nonneg q0 hd0
              have HST : Hid (min (q * d) 4097 = min (prodL (ds.take (n + 1))) 4097) := hide (by rw [unhide HQ, held_step (unhide HPN) hd0, unhide HT, prodL_append, prodL_one])
              have HD2 : Hid (∀ d ∈ ds.take (n + 1), d ≤ 4096) := hide (by
                rw [unhide HT]; intro x hx
                rcases List.mem_append.1 hx with h | h
                · exact unhide HD x h
                · simp at h; subst h; omega)
              obtain ⟨m, hm⟩ : ∃ m, q * d = m := ⟨_, rfl⟩
              rw [hm] at m0 m1 HST
              have hm1 : q * d = m := hm
              clear HD HQ HPN hm
              rcases (show m < 4097 ∨ 4097 < m ∨ m = 4097 by omega) with g | g | g
              · go_wp2_with fail
                go_round
                case rel => exact ⟨n + 1, m, by go_num, rfl, by omega, by omega, by omega, hide (by rw [← unhide HST]; omega), HD2⟩
                case measure => simp [intOf]; omega
              · go_wp2_with fail
                go_round
                case rel => exact ⟨n + 1, 4097, by go_num, rfl, by omega, by omega, by omega, hide (by rw [← unhide HST]; omega), HD2⟩
                case measure => simp [intOf]; omega
              · subst g
                go_wp2_with fail
                go_round
                case rel => exact ⟨n + 1, 4097, by go_num, rfl, by omega, by omega, by omega, hide (by rw [← unhide HST]; omega), HD2⟩
                case measure => simp [intOf]; omega
          · have hi : ¬ (n : Int) < (ds.length : Int) := by omega
            have en : n = ds.length := by omega
            subst en
            rw [List.take_length] at HQ HD
            have HS := hide (size_held (unhide HP) (unhide HD) (by omega))
            by_cases hg : 4096 < q
            · go_wp2_with fail
              go_ret2
              refine ⟨ret_two ?_, rfl⟩
              rw [unhide HS, if_pos (by rw [← unhide HQ]; exact hg)]
            · go_wp2_with fail
              go_ret2
              refine ⟨ret_two ?_, rfl⟩
              rw [unhide HS, if_neg (by rw [← unhide HQ]; omega), ← unhide HQ]

end Go.Proofs.Ytbepkmehnghmcaa
