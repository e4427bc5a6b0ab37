/-
  Walks of the document's whole numbers: sums, differences, powers of two, of numbers.
-/
import Derived.Test.YtblfbopdphnmoaaWkO
import Derived.Test.YtblfbopdphnmoaaFltI
namespace Go.Proofs.Ytblfbopdphnmoaa
open Go.RowKit
set_option linter.unusedVariables false

/-- Plus: the sum, of two that are not both nought. -/
theorem plus_any (a b : Value) (N M K : Nat) (hK : K ≤ 1000) (w : World) (ha : Num w a N K) (hb : Num w b M K) (hp : 0 < N + M) :
    Calls Try.prog 49 #[a, b] w fun e w' => (∃ v, e = .returned v ∧ Num w' v (N + M) (K + 1)) ∧ Below w.heap.size w w' := by
  obtain ⟨b, o, xs, cap, rfl, a2, a3, a4, rfl, a6, a7⟩ := ha
  obtain ⟨b', o', ys, cap', rfl, b2, b3, b4, rfl, b6, b7⟩ := hb
  refine (plus_some b o cap b' o' cap' xs ys w a7 b7 (by omega) (by omega) a4 b4 hp).mono ?_
  rintro e w' ⟨⟨v, rfl, hv⟩, hb⟩
  exact ⟨⟨v, rfl, hv.le (by omega)⟩, hb⟩

set_option maxRecDepth 100000 in
set_option maxHeartbeats 2000000 in
theorem minus_some (b o cap b' o' cap' : Nat) (xs ys : List Nat) (w : World) (ha : Lies w b o xs) (hb : Lies w b' o' ys) (hlx : xs.length ≤ 1000) (hly : ys.length ≤ 1000)
    (hda : ∀ d ∈ xs, d < 4294967296) (hdb : ∀ d ∈ ys, d < 4294967296) (hny : Dg.Norm ys) (hpos : Dg.natOf ys < Dg.natOf xs) :
    Calls Try.prog 51 #[.slice (some ⟨b, o, none⟩) xs.length cap, .slice (some ⟨b', o', none⟩) ys.length cap'] w fun e w' => (∃ v, e = .returned v ∧ Num w' v (Dg.natOf xs - Dg.natOf ys) xs.length) ∧ Below w.heap.size w w' := by
  obtain ⟨hb1, hc1⟩ := ha
  obtain ⟨hb2, hc2⟩ := hb
  have HC1 := hide hc1
  have HC2 := hide hc2
  have HDA := hide hda
  have HDB := hide hdb
  have HP := hide hpos
  have HN := hide hny
  clear hc1 hc2 hda hdb hpos hny
  obtain ⟨i0, hi, hz0, hz1, hz2⟩ := info_parts Try.infoU32
  go_enter Try.func51, Try.ntmps51
  go_wp2
  go_loopw [5, 6, 7] (fun v c i wr => ∃ os : List Nat, ∃ q : Nat, c = .int .u64 q ∧ i = .int .i64 os.length ∧ Built w wr v os ∧ q ≤ 1 ∧ os.length ≤ xs.length ∧ Hid (Dg.natOf os + Dg.natOf (ys.take os.length) = Dg.natOf (xs.take os.length) + 4294967296 ^ os.length * q))
    (fun _ _ i _ => xs.length - (intOf i).toNat)
  case atStart => exact ⟨[], 0, rfl, rfl, Built.nil w, by omega, by simp, hide (by simp [Dg.natOf])⟩
  case round =>
    obtain ⟨os, q, rfl, rfl, hB, hq, hlen, HV⟩ := hrel
    obtain ⟨k, hk⟩ : ∃ k, os.length = k := ⟨_, rfl⟩
    have hown := hB.1
    have hbel := hB.2.1
    rw [hk] at hlen HV hown ⊢
    have HK := hide hk
    have HB := hide hB
    clear hk hB
    by_cases h1 : k < xs.length
    · by_cases h2 : k < ys.length
      · skip
        have c1 : wr.cell? ⟨b, o + k, none⟩ = some (.int .u32 (xs.getD k 0)) := (hbel.cell (p := ⟨b, o + k, none⟩) hb1).trans (unhide HC1 k h1)
        have c2 : wr.cell? ⟨b', o' + k, none⟩ = some (.int .u32 (ys.getD k 0)) := (hbel.cell (p := ⟨b', o' + k, none⟩) hb2).trans (unhide HC2 k h2)
        have l1 := Dg.getD_lt xs (unhide HDA) k
        have l2 := Dg.getD_lt ys (unhide HDB) k
        obtain ⟨x, hx⟩ : ∃ x, xs.getD k 0 = x := ⟨_, rfl⟩
        obtain ⟨y, hy⟩ : ∃ y, ys.getD k 0 = y := ⟨_, rfl⟩
        rw [hx] at c1 l1
        rw [hy] at c2 l2
        have HX := hide hx
        have HY := hide hy
        clear hx hy
        by_cases hlt : x < q + y
        · have hli : (x : Int) < (q : Int) + (y : Int) := by omega
          go_wp2_with (at_builtin; refine wpList_append_own _ rfl _ _ 47 rfl w.heap.size 22 i0 (.int .u32 0) 1 4 Try.underlying47 hi hz0 hz1 hz2 rfl (by decide) _ _ _ rfl (hown.alloc _) ⟨wr.heap.size, 0, none⟩ 1 1 [.int .u32 ((x : Int) + 4294967296 - ((q : Int) + (y : Int)))] rfl rfl (one_cell _ _ _) (one_ok _) (by unfold maxLen; omega) (by omega) (by have := hbel.size; simp; omega) ?_; intro v' w1 hown' hgrow _)
          have R := Built.step (X := (x : Int) + 4294967296 - ((q : Int) + (y : Int))) (d := (x + 4294967296 - (q + y))) (unhide HB) (by omega) (by omega) (by rw [unhide HK]; exact hown') hgrow
          have S := Dg.minus_step xs ys os k q 1 x y (x + 4294967296 - (q + y)) (unhide HK) (unhide HX) (unhide HY) (by omega) (unhide HV)
          clear hown' hgrow hown
          go_wp2_with fail
          go_roundw
          case rel =>
            refine ⟨os ++ [(x + 4294967296 - (q + y))], 1, ?_, ?_, R, by omega, ?_, hide ?_⟩
            · go_num
            · rw [List.length_append, unhide HK]; go_num
            · rw [List.length_append, unhide HK]; simp; omega
            · rw [List.length_append, unhide HK]; exact S
          case measure => simp [intOf]; omega
        · have hli : ¬ (x : Int) < (q : Int) + (y : Int) := by omega
          go_wp2_with (at_builtin; refine wpList_append_own _ rfl _ _ 47 rfl w.heap.size 22 i0 (.int .u32 0) 1 4 Try.underlying47 hi hz0 hz1 hz2 rfl (by decide) _ _ _ rfl (hown.alloc _) ⟨wr.heap.size, 0, none⟩ 1 1 [.int .u32 ((x : Int) - ((q : Int) + (y : Int)))] rfl rfl (one_cell _ _ _) (one_ok _) (by unfold maxLen; omega) (by omega) (by have := hbel.size; simp; omega) ?_; intro v' w1 hown' hgrow _)
          have R := Built.step (X := (x : Int) - ((q : Int) + (y : Int))) (d := (x - (q + y))) (unhide HB) (by omega) (by omega) (by rw [unhide HK]; exact hown') hgrow
          have S := Dg.minus_step xs ys os k q 0 x y (x - (q + y)) (unhide HK) (unhide HX) (unhide HY) (by omega) (unhide HV)
          clear hown' hgrow hown
          go_wp2_with fail
          go_roundw
          case rel =>
            refine ⟨os ++ [(x - (q + y))], 0, ?_, ?_, R, by omega, ?_, hide ?_⟩
            · go_num
            · rw [List.length_append, unhide HK]; go_num
            · rw [List.length_append, unhide HK]; simp; omega
            · rw [List.length_append, unhide HK]; exact S
          case measure => simp [intOf]; omega
      · skip
        have c1 : wr.cell? ⟨b, o + k, none⟩ = some (.int .u32 (xs.getD k 0)) := (hbel.cell (p := ⟨b, o + k, none⟩) hb1).trans (unhide HC1 k h1)
        have l1 := Dg.getD_lt xs (unhide HDA) k
        have l2 := Dg.getD_lt ys (unhide HDB) k
        obtain ⟨x, hx⟩ : ∃ x, xs.getD k 0 = x := ⟨_, rfl⟩
        obtain ⟨y, hy⟩ : ∃ y, ys.getD k 0 = y := ⟨_, rfl⟩
        rw [hx] at c1 l1
        rw [hy] at l2
        have y0 : y = 0 := by rw [← hy, List.getD_eq_getElem?_getD, List.getElem?_eq_none (by omega)]; rfl
        have Y0 := hide y0
        have HX := hide hx
        have HY := hide hy
        clear hx hy
        by_cases hlt : x < q
        · have hli : (x : Int) < (q : Int) := by omega
          have hlt2 : x < q + y := by omega
          clear y0
          go_wp2_with (at_builtin; refine wpList_append_own _ rfl _ _ 47 rfl w.heap.size 22 i0 (.int .u32 0) 1 4 Try.underlying47 hi hz0 hz1 hz2 rfl (by decide) _ _ _ rfl (hown.alloc _) ⟨wr.heap.size, 0, none⟩ 1 1 [.int .u32 ((x : Int) + 4294967296 - (q : Int))] rfl rfl (one_cell _ _ _) (one_ok _) (by unfold maxLen; omega) (by omega) (by have := hbel.size; simp; omega) ?_; intro v' w1 hown' hgrow _)
          have R := Built.step (X := (x : Int) + 4294967296 - (q : Int)) (d := (x + 4294967296 - (q + y))) (unhide HB) (by have e1 := unhide Y0; omega) (by omega) (by rw [unhide HK]; exact hown') hgrow
          have S := Dg.minus_step xs ys os k q 1 x y (x + 4294967296 - (q + y)) (unhide HK) (unhide HX) (unhide HY) (by omega) (unhide HV)
          clear hown' hgrow hown
          go_wp2_with fail
          go_roundw
          case rel =>
            refine ⟨os ++ [(x + 4294967296 - (q + y))], 1, ?_, ?_, R, by omega, ?_, hide ?_⟩
            · go_num
            · rw [List.length_append, unhide HK]; go_num
            · rw [List.length_append, unhide HK]; simp; omega
            · rw [List.length_append, unhide HK]; exact S
          case measure => simp [intOf]; omega
        · have hli : ¬ (x : Int) < (q : Int) := by omega
          have hlt2 : ¬ x < q + y := by omega
          clear y0
          go_wp2_with (at_builtin; refine wpList_append_own _ rfl _ _ 47 rfl w.heap.size 22 i0 (.int .u32 0) 1 4 Try.underlying47 hi hz0 hz1 hz2 rfl (by decide) _ _ _ rfl (hown.alloc _) ⟨wr.heap.size, 0, none⟩ 1 1 [.int .u32 ((x : Int) - (q : Int))] rfl rfl (one_cell _ _ _) (one_ok _) (by unfold maxLen; omega) (by omega) (by have := hbel.size; simp; omega) ?_; intro v' w1 hown' hgrow _)
          have R := Built.step (X := (x : Int) - (q : Int)) (d := (x - (q + y))) (unhide HB) (by have e1 := unhide Y0; omega) (by omega) (by rw [unhide HK]; exact hown') hgrow
          have S := Dg.minus_step xs ys os k q 0 x y (x - (q + y)) (unhide HK) (unhide HX) (unhide HY) (by omega) (unhide HV)
          clear hown' hgrow hown
          go_wp2_with fail
          go_roundw
          case rel =>
            refine ⟨os ++ [(x - (q + y))], 0, ?_, ?_, R, by omega, ?_, hide ?_⟩
            · go_num
            · rw [List.length_append, unhide HK]; go_num
            · rw [List.length_append, unhide HK]; simp; omega
            · rw [List.length_append, unhide HK]; exact S
          case measure => simp [intOf]; omega
    · have hkx : k = xs.length := by omega
      have e : Dg.natOf os = Dg.natOf xs - Dg.natOf ys := by
        have hv := unhide HV
        rw [hkx] at hv
        exact Dg.minus_end xs ys os q (by rw [unhide HK, hkx]) (unhide HB).2.2 (unhide HDA) (unhide HN) (unhide HP) hq hv
      have hp : 0 < os.length := by
        rcases Nat.eq_zero_or_pos os.length with h | h
        · have e2 : os = [] := List.length_eq_zero_iff.1 h
          rw [e2] at e; simp [Dg.natOf] at e
          have := unhide HP; omega
        · exact h
      obtain ⟨bb, cp, rfl, f2, f3⟩ := (unhide HB).form hp
      rw [unhide HK] at f2
      have HDS := hide (unhide HB).2.2
      have T := hide (trim_any bb 0 cp xs.length os wr f3 (by rw [unhide HK]; exact hlen) (by omega) (by rw [unhide HK]; exact f2) (unhide HDS))
      rw [unhide HK] at T ⊢
      have HE := hide e
      clear e f3 hkx hp
      go_wp2_with fail
      refine (unhide T).mono ?_
      rintro e w2 ⟨⟨v, rfl, hv⟩, rfl⟩
      go_wp2_with fail
      go_ret
      rw [unhide HE] at hv
      exact ⟨⟨v, rfl, hv⟩, hbel⟩

/-- Minus: the difference. -/
theorem minus_any (a b : Value) (N M K : Nat) (hK : K ≤ 1000) (w : World) (ha : Num w a N K) (hb : Num w b M K) (hp : M < N) :
    Calls Try.prog 51 #[a, b] w fun e w' => (∃ v, e = .returned v ∧ Num w' v (N - M) K) ∧ Below w.heap.size w w' := by
  obtain ⟨b, o, xs, cap, rfl, a2, a3, a4, rfl, a6, a7⟩ := ha
  obtain ⟨b', o', ys, cap', rfl, b2, b3, b4, rfl, b6, b7⟩ := hb
  refine (minus_some b o cap b' o' cap' xs ys w a7 b7 (by omega) (by omega) a4 b4 b6 hp).mono ?_
  rintro e w' ⟨⟨v, rfl, hv⟩, hb⟩
  exact ⟨⟨v, rfl, hv.le (by omega)⟩, hb⟩

set_option maxRecDepth 100000 in
set_option maxHeartbeats 2000000 in
theorem twice_some (b o cap : Nat) (xs : List Nat) (K : Nat) (w : World) (ha : Lies w b o xs) (hlx : xs.length ≤ 1000) (hK : K ≤ 10000) (hda : ∀ d ∈ xs, d < 4294967296) :
    Calls Try.prog 46 #[.slice (some ⟨b, o, none⟩) xs.length cap, .int .i64 K] w fun e w' => (∃ v, e = .returned v ∧ Num w' v (Dg.natOf xs * 2 ^ K) (K / 32 + xs.length + 1)) ∧ Below w.heap.size w w' := by
  obtain ⟨hb1, hc1⟩ := ha
  have HC1 := hide hc1
  have HDA := hide hda
  clear hc1 hda
  obtain ⟨i0, hi, hz0, hz1, hz2⟩ := info_parts Try.infoU32
  go_enter Try.func46, Try.ntmps46
  go_wp2
  go_loopw [5, 6] (fun v i wr => ∃ j : Nat, i = .int .i64 j ∧ Built w wr v (List.replicate j 0) ∧ j ≤ K / 32) (fun _ i _ => K / 32 - (intOf i).toNat)
  case atStart => exact ⟨0, rfl, Built.nil w, by omega⟩
  case round =>
    obtain ⟨j, rfl, hB, hj⟩ := hrel
    have hown := hB.1
    have hbel := hB.2.1
    rw [List.length_replicate] at hown
    have HB := hide hB
    clear hB
    by_cases hlt : j < K / 32
    · have hji : (j : Int) < (K : Int) / 32 := by omega
      go_wp2_with (at_builtin; refine wpList_append_own _ rfl _ _ 47 rfl w.heap.size 22 i0 (.int .u32 0) 1 4 Try.underlying47 hi hz0 hz1 hz2 rfl (by decide) _ _ _ rfl (hown.alloc _) ⟨wr.heap.size, 0, none⟩ 1 1 [.int .u32 (0)] rfl rfl (one_cell _ _ _) (one_ok _) (by unfold maxLen; omega) (by omega) (by have := hbel.size; simp; omega) ?_; intro v' w1 hown' hgrow _)
      have R := Built.step (X := 0) (d := 0) (unhide HB) rfl (by omega) (by rw [List.length_replicate]; exact hown') hgrow
      rw [← List.replicate_succ'] at R
      clear hown' hgrow hown
      go_wp2_with fail
      go_roundw
      case rel => exact ⟨j + 1, by go_num, R, by omega⟩
      case measure => simp [intOf]; omega
    · have hji : ¬ (j : Int) < (K : Int) / 32 := by omega
      have HJ := hide (show j = K / 32 by omega)
      have HB0 := HB
      clear hown hbel HB
      have hj31 : j ≤ 400 := by omega
      go_wp2_with fail
      clear hji hlt
      go_loopw [5, 7, 8] (fun v c i wr => ∃ os : List Nat, ∃ q n : Nat, c = .int .u64 q ∧ i = .int .i64 n ∧ Hid (os.length = j + n) ∧ Built w wr v os ∧ q < 4294967296 ∧ n ≤ xs.length ∧ Hid (Dg.natOf os + 4294967296 ^ (j + n) * q = Dg.natOf (xs.take n) * 2 ^ K))
        (fun _ _ i _ => xs.length - (intOf i).toNat)
      case atStart => exact ⟨List.replicate j 0, 0, 0, rfl, rfl, hide (by simp), unhide HB0, by omega, by omega, hide (by simp [Dg.natOf, Dg.natOf_replicate])⟩
      case round =>
        obtain ⟨os, q, n, rfl, rfl, HK, hB, hq, hn, HV⟩ := hrel
        have hown := hB.1
        have hbel := hB.2.1
        rw [unhide HK] at hown
        have HB := hide hB
        clear hB HB0
        by_cases hlt : n < xs.length
        · have hni : (n : Int) < (xs.length : Int) := by omega
          have c1 : wr.cell? ⟨b, o + n, none⟩ = some (.int .u32 (xs.getD n 0)) := (hbel.cell (p := ⟨b, o + n, none⟩) hb1).trans (unhide HC1 n hlt)
          have l1 := Dg.getD_lt xs (unhide HDA) n
          obtain ⟨x, hx⟩ : ∃ x, xs.getD n 0 = x := ⟨_, rfl⟩
          rw [hx] at c1 l1
          have HX := hide hx
          have hr : ((K : Int) % 32).toNat = K % 32 := by omega
          have hp : 2 ^ (K % 32) ≤ 2 ^ 31 := Nat.pow_le_pow_right (by decide) (by omega)
          have hp2 : x * 2 ^ (K % 32) ≤ 4294967295 * 2 ^ 31 := Nat.mul_le_mul (by omega) hp
          obtain ⟨P, hP⟩ : ∃ P, P = x * 2 ^ (K % 32) := ⟨_, rfl⟩
          rw [← hP] at hp2
          have hw : IntKind.u64.wrap ((x : Int) * 2 ^ ((K : Int) % 32).toNat) = (P : Int) := by
            rw [hr, Flt.pow_cast, ← Int.natCast_mul, ← hP]
            exact wrap_u64_in _ (by omega) (by omega)
          have HP := hide hP
          clear hx hr hp hP
          go_wp2_with (at_builtin; refine wpList_append_own _ rfl _ _ 47 rfl w.heap.size 22 i0 (.int .u32 0) 1 4 Try.underlying47 hi hz0 hz1 hz2 rfl (by decide) _ _ _ rfl (hown.alloc _) ⟨wr.heap.size, 0, none⟩ 1 1 [.int .u32 (((P : Int) + (q : Int)) % 4294967296)] rfl rfl (one_cell _ _ _) (one_ok _) (by unfold maxLen; omega) (by omega) (by have := hbel.size; simp; omega) ?_; intro v' w1 hown' hgrow _)
          have R := Built.step (X := ((P : Int) + (q : Int)) % 4294967296) (d := (P + q) % 4294967296) (unhide HB) (by omega) (by omega) (by rw [unhide HK]; exact hown') hgrow
          have S := Dg.twice_step xs os n j (K % 32) K q x (unhide HK) (unhide HX) (by rw [unhide HJ]; omega) (unhide HV)
          rw [← unhide HP] at S
          clear hown' hgrow hown hw
          go_wp2_with fail
          go_roundw
          case rel =>
            refine ⟨os ++ [(P + q) % 4294967296], (P + q) / 4294967296, n + 1, by go_num, by go_num, hide ?_, R, by omega, by omega, hide S⟩
            rw [List.length_append, unhide HK]; simp; omega
          case measure => simp [intOf]; omega
        · have hni : ¬ (n : Int) < (xs.length : Int) := by omega
          go_wp2_with (at_builtin; refine wpList_append_own _ rfl _ _ 47 rfl w.heap.size 22 i0 (.int .u32 0) 1 4 Try.underlying47 hi hz0 hz1 hz2 rfl (by decide) _ _ _ rfl (hown.alloc _) ⟨wr.heap.size, 0, none⟩ 1 1 [.int .u32 ((q : Int))] rfl rfl (one_cell _ _ _) (one_ok _) (by unfold maxLen; omega) (by omega) (by have := hbel.size; simp; omega) ?_; intro v' w1 hown' hgrow _)
          have R := Built.step (X := (q : Int)) (d := q) (unhide HB) rfl hq (by rw [unhide HK]; exact hown') hgrow
          have hN : Dg.natOf (os ++ [q]) = Dg.natOf xs * 2 ^ K := by
            rw [Dg.natOf_snoc, unhide HK, unhide HV, Dg.natOf_take_ge xs n (by omega)]
          obtain ⟨bb, cp, rfl, f2, f3⟩ := R.form (by simp)
          have hlen : (os ++ [q]).length = j + n + 1 := by rw [List.length_append, unhide HK]; rfl
          have T := hide (trim_any bb 0 cp (K / 32 + xs.length + 1) (os ++ [q]) w1 f3 (by rw [hlen]; omega) (by omega) f2 R.2.2)
          rw [hlen] at T ⊢
          rw [hN] at T
          have hbel1 := R.2.1
          clear hown' hgrow hown R f3 f2 hN hlen
          go_wp2_with fail
          refine (unhide T).mono ?_
          rintro e w2 ⟨⟨v, rfl, hv⟩, rfl⟩
          go_wp2_with fail
          go_ret
          exact ⟨⟨v, rfl, hv⟩, hbel1⟩

/-- Twice: times a power of two. -/
theorem twice_any (a : Value) (N L K : Nat) (hL : L ≤ 1000) (hK : K ≤ 10000) (w : World) (ha : Num w a N L) :
    Calls Try.prog 46 #[a, .int .i64 K] w fun e w' => (∃ v, e = .returned v ∧ Num w' v (N * 2 ^ K) (K / 32 + L + 1)) ∧ Below w.heap.size w w' := by
  obtain ⟨b, o, xs, cap, rfl, a2, a3, a4, rfl, a6, a7⟩ := ha
  refine (twice_some b o cap xs K w a7 (by omega) hK a4).mono ?_
  rintro e w' ⟨⟨v, rfl, hv⟩, hb⟩
  exact ⟨⟨v, rfl, hv.le (by omega)⟩, hb⟩
end Go.Proofs.Ytblfbopdphnmoaa
