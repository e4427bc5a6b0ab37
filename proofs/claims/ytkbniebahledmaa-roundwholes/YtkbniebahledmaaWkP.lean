/-
  Walks of the document's whole numbers: sums, differences, powers of two, of numbers.
-/
import Derived.Test.YtkbniebahledmaaWkO
import Derived.Test.YtkbniebahledmaaFltI
namespace Go.Proofs.Ytkbniebahledmaa
open Go.RowKit
set_option linter.unusedVariables false

/-- Plus: the sum, of two that are not both nought. -/
theorem plus_any (a b : Value) (N M K : Nat) (hK : K ≤ 1000) (w : World) (ha : Num w a N K) (hb : Num w b M K) (hp : 0 < N + M) :
    Calls Try.prog 58 #[a, b] w fun e w' => (∃ v, e = .returned v ∧ Num w' v (N + M) (K + 1)) ∧ Below w.heap.size w w' := by
  obtain ⟨b, o, xs, cap, rfl, a2, a3, a4, rfl, a6, a7⟩ := ha
  obtain ⟨b', o', ys, cap', rfl, b2, b3, b4, rfl, b6, b7⟩ := hb
  refine (plus_some b o cap b' o' cap' xs ys w a7 b7 (by omega) (by omega) a4 b4 hp).mono ?_
  rintro e w' ⟨⟨v, rfl, hv⟩, hb⟩
  exact ⟨⟨v, rfl, hv.le (by omega)⟩, hb⟩

set_option maxRecDepth 100000 in
set_option maxHeartbeats 2000000 in
theorem twice_some (b o cap : Nat) (xs : List Nat) (K : Nat) (w : World) (ha : Lies w b o xs) (hlx : xs.length ≤ 1000) (hK : K ≤ 10000) (hda : ∀ d ∈ xs, d < 4294967296) :
    Calls Try.prog 34 #[.slice (some ⟨b, o, none⟩) xs.length cap, .int .i64 K] w fun e w' => (∃ v, e = .returned v ∧ Num w' v (Dg.natOf xs * 2 ^ K) (K / 32 + xs.length + 1)) ∧ Below w.heap.size w w' := by
  obtain ⟨hb1, hc1⟩ := ha
  have HC1 := hide hc1
  have HDA := hide hda
  clear hc1 hda
  obtain ⟨i0, hi, hz0, hz1, hz2⟩ := info_parts Try.infoU32
  go_enter Try.func34, Try.ntmps34
  go_wp2
  go_loopw [5, 6] (fun v i wr => ∃ j : Nat, i = .int .i64 j ∧ Built w wr v (List.replicate j 0) ∧ j ≤ K / 32) (fun _ i _ => K / 32 - (intOf i).toNat)
  case atStart => exact ⟨0, rfl, Built.nil w, by omega⟩
  case round =>
    obtain ⟨j, rfl, hB, hj⟩ := hrel
    have hown := hB.1
    have hbel := hB.2.1
    rw [List.length_replicate] at hown
    have HB := hide hB
    clear hB
    by_cases hlt : j < K / 32
    · have hji : (j : Int) < (K : Int) / 32 := by omega
      go_wp2_with (at_builtin; refine wpList_append_own _ rfl _ _ 42 rfl w.heap.size 22 i0 (.int .u32 0) 1 4 Try.underlying42 hi hz0 hz1 hz2 rfl (by decide) _ _ _ rfl (hown.alloc _) ⟨wr.heap.size, 0, none⟩ 1 1 [.int .u32 (0)] rfl rfl (one_cell _ _ _) (one_ok _) (by unfold maxLen; omega) (by omega) (by have := hbel.size; simp; omega) ?_; intro v' w1 hown' hgrow _)
      have R := Built.step (X := 0) (d := 0) (unhide HB) rfl (by omega) (by rw [List.length_replicate]; exact hown') hgrow
      rw [← List.replicate_succ'] at R
      clear hown' hgrow hown
      go_wp2_with fail
      go_roundw
      case rel => exact ⟨j + 1, by go_num, R, by omega⟩
      case measure => simp [intOf]; omega
    · have hji : ¬ (j : Int) < (K : Int) / 32 := by omega
      have HJ := hide (show j = K / 32 by omega)
      have HB0 := HB
      clear hown hbel HB
      have hj31 : j ≤ 400 := by omega
      go_wp2_with fail
      clear hji hlt
      go_loopw [5, 7, 8] (fun v c i wr => ∃ os : List Nat, ∃ q n : Nat, c = .int .u64 q ∧ i = .int .i64 n ∧ Hid (os.length = j + n) ∧ Built w wr v os ∧ q < 4294967296 ∧ n ≤ xs.length ∧ Hid (Dg.natOf os + 4294967296 ^ (j + n) * q = Dg.natOf (xs.take n) * 2 ^ K))
        (fun _ _ i _ => xs.length - (intOf i).toNat)
      case atStart => exact ⟨List.replicate j 0, 0, 0, rfl, rfl, hide (by simp), unhide HB0, by omega, by omega, hide (by simp [Dg.natOf, Dg.natOf_replicate])⟩
      case round =>
        obtain ⟨os, q, n, rfl, rfl, HK, hB, hq, hn, HV⟩ := hrel
        have hown := hB.1
        have hbel := hB.2.1
        rw [unhide HK] at hown
        have HB := hide hB
        clear hB HB0
        by_cases hlt : n < xs.length
        · have hni : (n : Int) < (xs.length : Int) := by omega
          have c1 : wr.cell? ⟨b, o + n, none⟩ = some (.int .u32 (xs.getD n 0)) := (hbel.cell (p := ⟨b, o + n, none⟩) hb1).trans (unhide HC1 n hlt)
          have l1 := Dg.getD_lt xs (unhide HDA) n
          obtain ⟨x, hx⟩ : ∃ x, xs.getD n 0 = x := ⟨_, rfl⟩
          rw [hx] at c1 l1
          have HX := hide hx
          have hr : ((K : Int) % 32).toNat = K % 32 := by omega
          have hp : 2 ^ (K % 32) ≤ 2 ^ 31 := Nat.pow_le_pow_right (by decide) (by omega)
          have hp2 : x * 2 ^ (K % 32) ≤ 4294967295 * 2 ^ 31 := Nat.mul_le_mul (by omega) hp
          obtain ⟨P, hP⟩ : ∃ P, P = x * 2 ^ (K % 32) := ⟨_, rfl⟩
          rw [← hP] at hp2
          have hw : IntKind.u64.wrap ((x : Int) * 2 ^ ((K : Int) % 32).toNat) = (P : Int) := by
            rw [hr, Flt.pow_cast, ← Int.natCast_mul, ← hP]
            exact wrap_u64_in _ (by omega) (by omega)
          have HP := hide hP
          clear hx hr hp hP
          go_wp2_with (at_builtin; refine wpList_append_own _ rfl _ _ 42 rfl w.heap.size 22 i0 (.int .u32 0) 1 4 Try.underlying42 hi hz0 hz1 hz2 rfl (by decide) _ _ _ rfl (hown.alloc _) ⟨wr.heap.size, 0, none⟩ 1 1 [.int .u32 (((P : Int) + (q : Int)) % 4294967296)] rfl rfl (one_cell _ _ _) (one_ok _) (by unfold maxLen; omega) (by omega) (by have := hbel.size; simp; omega) ?_; intro v' w1 hown' hgrow _)
          have R := Built.step (X := ((P : Int) + (q : Int)) % 4294967296) (d := (P + q) % 4294967296) (unhide HB) (by omega) (by omega) (by rw [unhide HK]; exact hown') hgrow
          have S := Dg.twice_step xs os n j (K % 32) K q x (unhide HK) (unhide HX) (by rw [unhide HJ]; omega) (unhide HV)
          rw [← unhide HP] at S
          clear hown' hgrow hown hw
          go_wp2_with fail
          go_roundw
          case rel =>
            refine ⟨os ++ [(P + q) % 4294967296], (P + q) / 4294967296, n + 1, by go_num, by go_num, hide ?_, R, by omega, by omega, hide S⟩
            rw [List.length_append, unhide HK]; simp; omega
          case measure => simp [intOf]; omega
        · have hni : ¬ (n : Int) < (xs.length : Int) := by omega
          go_wp2_with (at_builtin; refine wpList_append_own _ rfl _ _ 42 rfl w.heap.size 22 i0 (.int .u32 0) 1 4 Try.underlying42 hi hz0 hz1 hz2 rfl (by decide) _ _ _ rfl (hown.alloc _) ⟨wr.heap.size, 0, none⟩ 1 1 [.int .u32 ((q : Int))] rfl rfl (one_cell _ _ _) (one_ok _) (by unfold maxLen; omega) (by omega) (by have := hbel.size; simp; omega) ?_; intro v' w1 hown' hgrow _)
          have R := Built.step (X := (q : Int)) (d := q) (unhide HB) rfl hq (by rw [unhide HK]; exact hown') hgrow
          have hN : Dg.natOf (os ++ [q]) = Dg.natOf xs * 2 ^ K := by
            rw [Dg.natOf_snoc, unhide HK, unhide HV, Dg.natOf_take_ge xs n (by omega)]
          obtain ⟨bb, cp, rfl, f2, f3⟩ := R.form (by simp)
          have hlen : (os ++ [q]).length = j + n + 1 := by rw [List.length_append, unhide HK]; rfl
          have T := hide (trim_any bb 0 cp (K / 32 + xs.length + 1) (os ++ [q]) w1 f3 (by rw [hlen]; omega) (by omega) f2 R.2.2)
          rw [hlen] at T ⊢
          rw [hN] at T
          have hbel1 := R.2.1
          clear hown' hgrow hown R f3 f2 hN hlen
          go_wp2_with fail
          refine (unhide T).mono ?_
          rintro e w2 ⟨⟨v, rfl, hv⟩, rfl⟩
          go_wp2_with fail
          go_ret
          exact ⟨⟨v, rfl, hv⟩, hbel1⟩

/-- Twice: times a power of two. -/
theorem twice_any (a : Value) (N L K : Nat) (hL : L ≤ 1000) (hK : K ≤ 10000) (w : World) (ha : Num w a N L) :
    Calls Try.prog 34 #[a, .int .i64 K] w fun e w' => (∃ v, e = .returned v ∧ Num w' v (N * 2 ^ K) (K / 32 + L + 1)) ∧ Below w.heap.size w w' := by
  obtain ⟨b, o, xs, cap, rfl, a2, a3, a4, rfl, a6, a7⟩ := ha
  refine (twice_some b o cap xs K w a7 (by omega) hK a4).mono ?_
  rintro e w' ⟨⟨v, rfl, hv⟩, hb⟩
  exact ⟨⟨v, rfl, hv.le (by omega)⟩, hb⟩
end Go.Proofs.Ytkbniebahledmaa
