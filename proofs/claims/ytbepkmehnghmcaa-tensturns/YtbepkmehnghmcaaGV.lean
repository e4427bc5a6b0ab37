import Derived.Test.YtbepkmehnghmcaaGU

/-
  Layer 4: what the document's sizes come to, and the walk of its answer.
-/
namespace Go.Proofs.Ytbepkmehnghmcaa
open Go.RowKit
set_option linter.unusedVariables false

def prodL (ds : List Int) : Int := ds.foldr (· * ·) 1
/-- Size: how many, and the error. -/
def sizeV (ds : List Int) : Int × Int :=
  if (∃ d ∈ ds, d < 0) then (0, 1) else if (8 < ds.length ∨ ∃ d ∈ ds, 4096 < d) then (0, 4) else if (0 : Int) ∈ ds then (0, 0) else if 4096 < prodL ds then (0, 4) else (prodL ds, 0)

theorem prodL_append (a b : List Int) : prodL (a ++ b) = prodL a * prodL b := by
  induction a with
  | nil => simp [prodL]
  | cons x a ih => simp only [prodL, List.cons_append, List.foldr_cons] at *; rw [ih, Int.mul_assoc]
theorem prodL_one (x : Int) : prodL [x] = x := by simp [prodL]
theorem take_succ (ds : List Int) (n : Nat) (h : n < ds.length) : ds.take (n + 1) = ds.take n ++ [ds.getD n 0] := by
  rw [List.take_add_one]; simp [List.getElem?_eq_getElem h]
theorem prodL_pos (ds : List Int) (h : ∀ d ∈ ds, 1 ≤ d) : 1 ≤ prodL ds := by
  induction ds with
  | nil => simp [prodL]
  | cons x a ih =>
    have h1 := h x (by simp)
    have h2 := ih (fun d hd => h d (by simp [hd]))
    show 1 ≤ x * prodL a
    have := Int.mul_le_mul h1 h2 (by omega) (by omega)
    omega
theorem prodL_mono (a b : List Int) (ha : ∀ d ∈ a, 1 ≤ d) (hb : ∀ d ∈ b, 1 ≤ d) : prodL a ≤ prodL (a ++ b) := by
  rw [prodL_append]
  have h1 := prodL_pos a ha
  have h2 := prodL_pos b hb
  have := Int.mul_le_mul_of_nonneg_left h2 (show 0 ≤ prodL a by omega)
  omega

theorem ret_two {a b a' b' : Int} (h : (a, b) = (a', b')) : Ending.returned (.tuple #[.int .i64 a, .int .i64 b]) = .returned (.tuple #[.int .i64 a', .int .i64 b']) := by
  simp only [Prod.mk.injEq] at h; rw [h.1, h.2]

set_option maxRecDepth 100000 in
set_option maxHeartbeats 2000000 in
theorem rsize_any (p : Option Addr) (cap : Nat) (ds : List Int) (w : World) (hI : Ints .i64 w p cap ds) :
    Calls Try.prog 32 #[.slice p ds.length cap] w fun e w' => e = .returned (.tuple #[.int .i64 (sizeV ds).1, .int .i64 (sizeV ds).2]) ∧ w' = w := by
  have hlen := hI.len
  have HI := hide hI
  clear hI
  go_enter Try.func32, Try.ntmps32
  go_wp2_with fail
  go_loop [4, 5, 6] (fun zv gv iv => ∃ n : Nat, ∃ z g : Bool, iv = .int .i64 n ∧ zv = .bool z ∧ gv = .bool g ∧ n ≤ ds.length ∧ Hid (∀ d ∈ ds.take n, 0 ≤ d) ∧ Hid (z = true ↔ (0 : Int) ∈ ds.take n) ∧ Hid (g = true ↔ (8 < ds.length ∨ ∃ d ∈ ds.take n, 4096 < d)))
    (fun _ _ iv => ds.length - (intOf iv).toNat)
  case atStart =>
    refine ⟨0, false, _, rfl, rfl, rfl, by omega, hide (by simp), hide (by simp), hide ?_⟩
    simp
    try omega
  case round =>
    obtain ⟨n, z, g, rfl, rfl, rfl, hn, HP, HZ, HG⟩ := hrel
    by_cases hlt : n < ds.length
    · obtain ⟨b, o, rfl, hb, hc⟩ := (unhide HI).lies (by omega)
      have hi : (n : Int) < (ds.length : Int) := by omega
      have hcell := hc n hlt
      obtain ⟨r0, r1⟩ := (unhide HI).i64 n hlt
      have ht := take_succ ds n hlt
      have hmem : ds.getD n 0 ∈ ds := by
        have : ds.getD n 0 = ds[n] := by simp [List.getElem?_eq_getElem hlt]
        rw [this]; exact List.getElem_mem hlt
      have HMEM := hide hmem
      have HT := hide ht
      clear hc ht hmem
      generalize ds.getD n 0 = d at hcell r0 r1 HT HMEM
      by_cases hd : d < 0
      · go_wp2_with fail
        go_ret2
        refine ⟨ret_two ?_, rfl⟩
        unfold sizeV
        rw [if_pos ⟨d, unhide HMEM, hd⟩]
      · have HP2 : Hid (∀ d ∈ ds.take (n + 1), 0 ≤ d) := hide (by
          rw [unhide HT]; intro x hx
          rcases List.mem_append.1 hx with h | h
          · exact unhide HP x h
          · simp at h; subst h; omega)
        have HZ2 : Hid ((z || (d == 0)) = true ↔ (0 : Int) ∈ ds.take (n + 1)) := hide (by
          have := unhide HZ
          rw [unhide HT, List.mem_append, ← this, Bool.or_eq_true, beq_iff_eq, List.mem_singleton]
          exact ⟨fun h => by rcases h with h | h; exact .inl h; exact .inr h.symm, fun h => by rcases h with h | h; exact .inl h; exact .inr h.symm⟩)
        have HG2 : Hid ((g || decide (4096 < d)) = true ↔ (8 < ds.length ∨ ∃ x ∈ ds.take (n + 1), 4096 < x)) := hide (by
          have := unhide HG
          rw [unhide HT, Bool.or_eq_true, this, decide_eq_true_iff]
          constructor
          · rintro ((h | ⟨x, hx, h⟩) | h)
            · exact .inl h
            · exact .inr ⟨x, List.mem_append_left _ hx, h⟩
            · exact .inr ⟨d, by simp, h⟩
          · rintro (h | ⟨x, hx, h⟩)
            · exact .inl (.inl h)
            · rcases List.mem_append.1 hx with k | k
              · exact .inl (.inr ⟨x, k, h⟩)
              · simp at k; subst k; exact .inr h)
        clear HP HZ HG
        cases z <;> cases g
        all_goals
          go_wp2_with fail
          go_round
          case rel => exact ⟨n + 1, _, _, by go_num, rfl, rfl, by omega, HP2, HZ2, HG2⟩
          case measure => simp [intOf]; omega
    · have hi : ¬ (n : Int) < (ds.length : Int) := by omega
      have en : n = ds.length := by omega
      subst en
      rw [List.take_length] at HP HZ HG
      cases g
      · have hng : ¬ (8 < ds.length ∨ ∃ d ∈ ds, 4096 < d) := fun h => by have := (unhide HG).2 h; cases this
        have hnn : ¬ (∃ d ∈ ds, d < 0) := fun ⟨d, h1, h2⟩ => by have := unhide HP d h1; omega
        cases z
        · have hnz : ¬ (0 : Int) ∈ ds := fun h => by have := (unhide HZ).2 h; cases this
          have hall : ∀ d ∈ ds, 1 ≤ d ∧ d ≤ 4096 := fun d hd => by
            have h1 := unhide HP d hd
            have h2 : d ≠ 0 := fun h => hnz (h ▸ hd)
            have h3 : ¬ 4096 < d := fun h => hng (.inr ⟨d, hd, h⟩)
            omega
          have HALL := hide hall
          have HS : Hid (sizeV ds = if 4096 < prodL ds then (0, 4) else (prodL ds, 0)) := hide (by unfold sizeV; rw [if_neg hnn, if_neg hng, if_neg hnz])
          clear hng hnn hnz hall HP HZ HG hn hlt hi
          go_wp2_with fail
          go_loop [7, 8] (fun nv iv => ∃ n : Nat, ∃ q : Int, iv = .int .i64 n ∧ nv = .int .i64 q ∧ n ≤ ds.length ∧ 1 ≤ q ∧ q ≤ 4096 ∧ Hid (q = prodL (ds.take n))) (fun _ iv => ds.length - (intOf iv).toNat)
          case atStart => exact ⟨0, 1, rfl, rfl, by omega, by omega, by omega, hide (by simp [prodL])⟩
          case round =>
            obtain ⟨n, q, rfl, rfl, hn, q0, q1, HQ⟩ := hrel
            by_cases hlt : n < ds.length
            · obtain ⟨b, o, rfl, hb, hc⟩ := (unhide HI).lies (by omega)
              have hi : (n : Int) < (ds.length : Int) := by omega
              have hcell := hc n hlt
              have ht := take_succ ds n hlt
              have hmem : ds.getD n 0 ∈ ds := by
                have : ds.getD n 0 = ds[n] := by simp [List.getElem?_eq_getElem hlt]
                rw [this]; exact List.getElem_mem hlt
              obtain ⟨d0, d1⟩ := unhide HALL _ hmem
              have hprod : prodL (ds.take (n + 1)) = q * ds.getD n 0 := by rw [ht, prodL_append, prodL_one, unhide HQ]
              have hpl : prodL (ds.take (n + 1)) ≤ prodL ds := by
                have := prodL_mono (ds.take (n + 1)) (ds.drop (n + 1)) (fun d hd => (unhide HALL d (List.mem_of_mem_take hd)).1) (fun d hd => (unhide HALL d (List.mem_of_mem_drop hd)).1)
                rw [List.take_append_drop] at this; exact this
              have HPL := hide hpl
              have HPR := hide hprod
              clear hc ht hmem hpl hprod
              generalize ds.getD n 0 = d at hcell d0 d1 HPR
              have m1 : q * d ≤ 4096 * 4096 := Int.mul_le_mul q1 d1 (by omega) (by omega)
              have m0 : 1 * 1 ≤ q * d := Int.mul_le_mul q0 d0 (by omega) (by omega)
              obtain ⟨m, hm⟩ : ∃ m, q * d = m := ⟨_, rfl⟩
              rw [hm] at m0 m1
              have HM := hide hm
              have hd2 : ¬ 4096 < d := by omega
              by_cases hgo : 4096 < m
              · go_wp2_with fail
                go_ret2
                refine ⟨ret_two ?_, rfl⟩
                rw [unhide HS, if_pos]
                have a := unhide HPL; have b := unhide HPR; have c := unhide HM; omega
              · go_wp2_with fail
                go_round
                case rel => exact ⟨n + 1, m, by go_num, rfl, by omega, by omega, by omega, hide (by rw [unhide HPR, unhide HM])⟩
                case measure => simp [intOf]; omega
            · have hi : ¬ (n : Int) < (ds.length : Int) := by omega
              have en : n = ds.length := by omega
              subst en
              rw [List.take_length] at HQ
              go_wp2_with fail
              go_ret2
              refine ⟨ret_two ?_, rfl⟩
              have hq := unhide HQ
              rw [unhide HS, if_neg (by omega), hq]
        · have HS : Hid (sizeV ds = (0, 0)) := hide (by unfold sizeV; rw [if_neg hnn, if_neg hng, if_pos ((unhide HZ).1 rfl)])
          clear hng hnn
          go_wp2_with fail
          go_ret2
          exact ⟨ret_two (by rw [unhide HS]), rfl⟩
      · have hnn : ¬ (∃ d ∈ ds, d < 0) := fun ⟨d, h1, h2⟩ => by have := unhide HP d h1; omega
        have HS : Hid (sizeV ds = (0, 4)) := hide (by unfold sizeV; rw [if_neg hnn, if_pos ((unhide HG).1 rfl)])
        clear hnn
        go_wp2_with fail
        go_ret2
        exact ⟨ret_two (by rw [unhide HS]), rfl⟩
end Go.Proofs.Ytbepkmehnghmcaa
