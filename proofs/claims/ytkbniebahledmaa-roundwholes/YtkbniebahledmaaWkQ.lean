/-
  The walk of the document's product of whole numbers.
-/
import Derived.Test.YtkbniebahledmaaWkP
namespace Go.Proofs.Ytkbniebahledmaa
open Go.RowKit
set_option linter.unusedVariables false

/-- A row that the call itself made, of as many digits as it was made for. -/
def Made (w wr : World) (g n : Nat) (os : List Nat) : Prop :=
  os.length = n ∧ wr.ownsRow w.heap.size 22 1 (.slice (some ⟨g, 0, none⟩) n n) n (os.map fun (d : Nat) => Value.int .u32 (d : Int)) ∧ Below w.heap.size w wr ∧ (∀ d ∈ os, d < 4294967296) ∧ w.heap.size ≤ g
theorem Made.cell {w wr : World} {g n : Nat} {os : List Nat} (h : Made w wr g n os) (j : Nat) (hj : j < n) : wr.cell? ⟨g, j, none⟩ = some (.int .u32 (os.getD j 0)) := by
  have hl := h.1
  rw [h.2.1.cellAt j (by omega), List.getElem?_map, List.getElem?_eq_getElem (by omega), List.getD_eq_getElem?_getD, List.getElem?_eq_getElem (by omega)]; rfl
theorem Made.stored {w wr : World} {g n : Nat} {os : List Nat} (h : Made w wr g n os) (j : Nat) (X : Int) (d : Nat) (hX : X = (d : Int)) (hd : d < 4294967296) :
    Made w (wr.setCell ⟨g, j, none⟩ (.int .u32 X)) g n (os.set j d) := by
  obtain ⟨h1, h2, h3, h4, h5⟩ := h
  subst hX
  refine ⟨by simpa using h1, ?_, h3.setCell h5 _, ?_, h5⟩
  · have := (h2.stored j (.int .u32 (d : Int))).1
    rw [← List.map_set] at this
    exact this
  · intro x hx
    rcases List.mem_or_eq_of_mem_set hx with h | h
    · exact h4 x h
    · omega
theorem Made.drewN {w wr : World} {g n : Nat} {os : List Nat} (h : Made w wr g n os) (k : Nat) : Made w (wr.drewN k) g n os :=
  ⟨h.1, h.2.1, bl_drewN h.2.2.1 k, h.2.2.2.1, h.2.2.2.2⟩
theorem Made.lies {w wr : World} {g n : Nat} {os : List Nat} (h : Made w wr g n os) : Lies wr g 0 os := by
  refine ⟨(h.2.1.lt g rfl).2, fun i hi => ?_⟩
  have := h.cell i (by have := h.1; omega)
  simpa using this

set_option maxRecDepth 100000 in
set_option maxHeartbeats 2000000 in
theorem times_some (b o cap b' o' cap' : Nat) (xs ys : List Nat) (w : World) (ha : Lies w b o xs) (hb : Lies w b' o' ys) (hlx : xs.length ≤ 1000) (hly : ys.length ≤ 1000)
    (hda : ∀ d ∈ xs, d < 4294967296) (hdb : ∀ d ∈ ys, d < 4294967296) :
    Calls Try.prog 57 #[.slice (some ⟨b, o, none⟩) xs.length cap, .slice (some ⟨b', o', none⟩) ys.length cap'] w fun e w' => (∃ v, e = .returned v ∧ Num w' v (Dg.natOf xs * Dg.natOf ys) (xs.length + ys.length)) ∧ Below w.heap.size w w' := by
  obtain ⟨hb1, hc1⟩ := ha
  obtain ⟨hb2, hc2⟩ := hb
  have HC1 := hide hc1
  have HC2 := hide hc2
  have HDA := hide hda
  have HDB := hide hdb
  clear hc1 hc2 hda hdb
  obtain ⟨i0, hi, hz0, hz1, hz2⟩ := info_parts Try.infoU32
  go_enter Try.func57, Try.ntmps57
  go_wp2_with (at_make; refine wpList_make_full _ rfl _ _ 42 rfl w.heap.size 22 i0 (.int .u32 0) 1 Try.underlying42 hi hz0 hz1 _ _ _ _ (xs.length + ys.length) rfl rfl (by omega) (by omega) (by rw [hz2]; omega) (by unfold maxLen; omega) (Nat.le_refl _) ?_; intro w1 hown hgrow)
  have M0 : Made w w1 w.heap.size (xs.length + ys.length) (List.replicate (xs.length + ys.length) 0) := by
    refine ⟨by simp, ?_, ?_, ?_, Nat.le_refl _⟩
    · have e : (madeCells (Value.int .u32 0).cells ((xs.length + ys.length) * 1)).toList = (List.replicate (xs.length + ys.length) 0).map fun (d : Nat) => Value.int .u32 (d : Int) := by
        rw [Nat.mul_one, show (Value.int .u32 0).cells = #[Value.int .u32 0] from rfl, toList_madeCells_one, List.map_replicate]; rfl
      rw [← e]; exact hown
    · exact (Below.refl _ _).grown hgrow (Nat.le_refl _) (fun k hk => by cases hk)
    · intro d hd; rw [List.mem_replicate] at hd; omega
  have HM0 := hide M0
  clear M0 hown hgrow
  go_loopw [6] (fun i wr => ∃ os : List Nat, ∃ n : Nat, i = .int .i64 n ∧ n ≤ xs.length ∧ Made w wr w.heap.size (xs.length + ys.length) os ∧ Hid (Dg.natOf os = Dg.natOf (xs.take n) * Dg.natOf ys) ∧ Hid (∀ j, n + ys.length ≤ j → os.getD j 0 = 0))
    (fun i _ => xs.length - (intOf i).toNat)
  case atStart =>
    refine ⟨_, 0, rfl, by omega, unhide HM0, hide ?_, hide ?_⟩
    · rw [Dg.natOf_replicate]; simp [Dg.natOf]
    · intro j _
      rw [List.getD_eq_getElem?_getD, List.getElem?_replicate]; split <;> rfl
  case round =>
    obtain ⟨os, n, rfl, hn, hM, HV, HZ⟩ := hrel
    have hbel := hM.2.2.1
    have HM := hide hM
    clear hM HM0
    by_cases h1 : n < xs.length
    · have h1i : (n : Int) < (xs.length : Int) := by omega
      have l1 := Dg.getD_lt xs (unhide HDA) n
      obtain ⟨x, hx⟩ : ∃ x, xs.getD n 0 = x := ⟨_, rfl⟩
      rw [hx] at l1
      have HX := hide hx
      clear hx
      go_wp2_with fail
      go_loopw [7, 8] (fun c k wr => ∃ os2 : List Nat, ∃ q m : Nat, c = .int .u64 q ∧ k = .int .i64 m ∧ m ≤ ys.length ∧ q < 4294967296 ∧ Made w wr w.heap.size (xs.length + ys.length) os2 ∧ Hid (Dg.natOf os2 + 4294967296 ^ (n + m) * q = Dg.natOf os + 4294967296 ^ n * (x * Dg.natOf (ys.take m))) ∧ Hid (∀ j, n + ys.length ≤ j → os2.getD j 0 = 0))
        (fun _ k _ => ys.length - (intOf k).toNat)
      case atStart => exact ⟨os, 0, 0, rfl, rfl, by omega, by omega, unhide HM, hide (by simp [Dg.natOf]), HZ⟩
      case round =>
        obtain ⟨os2, q, m, rfl, rfl, hm, hq, hM2, HV2, HZ2⟩ := hrel
        have hbel2 := hM2.2.2.1
        have HM2 := hide hM2
        clear hM2
        by_cases h2 : m < ys.length
        · have h2i : (m : Int) < (ys.length : Int) := by omega
          have hnm : (n : Int) + (m : Int) < (xs.length : Int) + (ys.length : Int) := by omega
          have l2 := Dg.getD_lt ys (unhide HDB) m
          have l3 := Dg.getD_lt os2 (unhide HM2).2.2.2.1 (n + m)
          have c1 : wr.cell? ⟨b, o + n, none⟩ = some (.int .u32 (xs.getD n 0)) := (hbel2.cell (p := ⟨b, o + n, none⟩) hb1).trans (unhide HC1 n h1)
          have c2 : wr.cell? ⟨b', o' + m, none⟩ = some (.int .u32 (ys.getD m 0)) := (hbel2.cell (p := ⟨b', o' + m, none⟩) hb2).trans (unhide HC2 m h2)
          have c3 : wr.cell? ⟨w.heap.size, n + m, none⟩ = some (.int .u32 (os2.getD (n + m) 0)) := (unhide HM2).cell (n + m) (by omega)
          have z3 : wr.frozen? ⟨w.heap.size, n + m, none⟩ = false := (unhide HM2).2.1.frozenAt (n + m)
          rw [unhide HX] at c1
          obtain ⟨y, hy⟩ : ∃ y, ys.getD m 0 = y := ⟨_, rfl⟩
          obtain ⟨d, hd⟩ : ∃ d, os2.getD (n + m) 0 = d := ⟨_, rfl⟩
          rw [hy] at c2 l2
          rw [hd] at c3 l3
          obtain ⟨p, hp⟩ : ∃ p, p = x * y := ⟨_, rfl⟩
          have hp2 : p ≤ 4294967295 * 4294967295 := by rw [hp]; exact Nat.mul_le_mul (by omega) (by omega)
          have hw : IntKind.u64.wrap ((x : Int) * (y : Int)) = (p : Int) := by
            rw [← Int.natCast_mul, ← hp]; exact wrap_u64_in _ (by omega) (by omega)
          have HY := hide hy
          have HD := hide hd
          have HP := hide hp
          clear hy hd hp
          go_wp2_with fail
          go_quiet (fail)
          go_wp2_with fail
          have S := Dg.times_step os os2 ys n m q x y d (by rw [(unhide HM2).1]; omega) (unhide HY) (unhide HD) (unhide HV2)
          rw [← unhide HP] at S
          refine ⟨⟨os2.set (n + m) ((p + d + q) % 4294967296), (p + d + q) / 4294967296, m + 1, by go_num, by go_num, by omega, by omega, ((unhide HM2).drewN nq).stored (n + m) _ _ (by omega) (by omega), hide S, hide ?_⟩, ?_⟩
          · intro j hj
            rw [Dg.getD_set_far _ _ _ _ (by omega)]; exact unhide HZ2 j hj
          · simp [intOf]; omega
        · have h2i : ¬ (m : Int) < (ys.length : Int) := by omega
          have hmE : m = ys.length := by omega
          have hnm : (n : Int) + (ys.length : Int) < (xs.length : Int) + (ys.length : Int) := by omega
          have c3 : wr.cell? ⟨w.heap.size, n + ys.length, none⟩ = some (.int .u32 (os2.getD (n + ys.length) 0)) := (unhide HM2).cell (n + ys.length) (by omega)
          have z3 : wr.frozen? ⟨w.heap.size, n + ys.length, none⟩ = false := (unhide HM2).2.1.frozenAt (n + ys.length)
          have HME := hide hmE
          clear hmE
          go_wp2_with fail
          have hv2 := unhide HV2
          rw [unhide HME] at hv2
          have S := Dg.times_end os os2 xs ys n q x (by rw [(unhide HM2).1]; omega) (unhide HX) (unhide HZ2 _ (Nat.le_refl _)) (unhide HV) hv2
          refine ⟨⟨os2.set (n + ys.length) q, n + 1, by go_num, by omega, (unhide HM2).stored (n + ys.length) _ _ rfl hq, hide S, hide ?_⟩, ?_⟩
          · intro j hj
            rw [Dg.getD_set_far _ _ _ _ (by omega)]; exact unhide HZ2 j (by omega)
          · simp [intOf]; omega
    · have h1i : ¬ (n : Int) < (xs.length : Int) := by omega
      have e : Dg.natOf os = Dg.natOf xs * Dg.natOf ys := by
        rw [unhide HV, Dg.natOf_take_ge xs n (by omega)]
      have hM := unhide HM
      have T := hide (trim_any w.heap.size 0 (xs.length + ys.length) (xs.length + ys.length) os wr hM.lies (by rw [hM.1]; exact Nat.le_refl _) (by omega) (by rw [hM.1]; exact Nat.le_refl _) hM.2.2.2.1)
      rw [hM.1, e] at T
      clear e hM
      go_wp2_with fail
      refine (unhide T).mono ?_
      rintro e w2 ⟨⟨v, rfl, hv⟩, rfl⟩
      go_wp2_with fail
      go_ret
      exact ⟨⟨v, rfl, hv⟩, hbel⟩

/-- Times: the product. -/
theorem times_any (a b : Value) (N M K L : Nat) (hK : K ≤ 1000) (hL : L ≤ 1000) (w : World) (ha : Num w a N K) (hb : Num w b M L) :
    Calls Try.prog 57 #[a, b] w fun e w' => (∃ v, e = .returned v ∧ Num w' v (N * M) (K + L)) ∧ Below w.heap.size w w' := by
  obtain ⟨b, o, xs, cap, rfl, a2, a3, a4, rfl, a6, a7⟩ := ha
  obtain ⟨b', o', ys, cap', rfl, b2, b3, b4, rfl, b6, b7⟩ := hb
  refine (times_some b o cap b' o' cap' xs ys w a7 b7 (by omega) (by omega) a4 b4).mono ?_
  rintro e w' ⟨⟨v, rfl, hv⟩, hb⟩
  exact ⟨⟨v, rfl, hv.le (by omega)⟩, hb⟩
end Go.Proofs.Ytkbniebahledmaa
