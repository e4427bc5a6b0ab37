/-
  Walks of the document's whole numbers (rows of digits of 32 bits): what each function makes of its digits.
-/
import Derived.Test.YtkbniebahledmaaWkL
import Derived.Test.YtkbniebahledmaaNatD
import Derived.Laws.OwnMore
namespace Go.Proofs.Ytkbniebahledmaa
open Go.RowKit
set_option linter.unusedVariables false

/-- The digits lie behind an address. -/
def Lies (w : World) (b o : Nat) (ds : List Nat) : Prop := b < w.heap.size ∧ ∀ i, i < ds.length → w.cell? ⟨b, o + i, none⟩ = some (.int .u32 (ds.getD i 0))
/-- A slice that holds a whole number, in at most K digits. -/
def Num (w : World) (v : Value) (N K : Nat) : Prop :=
  ∃ b o ds cap, v = .slice (some ⟨b, o, none⟩) ds.length cap ∧ ds.length ≤ cap ∧ ds.length ≤ K ∧ (∀ d ∈ ds, d < 4294967296) ∧ Dg.natOf ds = N ∧ Dg.Norm ds ∧ Lies w b o ds

theorem Lies.below {w w' : World} {b o : Nat} {ds : List Nat} (h : Lies w b o ds) (hb : Below w.heap.size w w') : Lies w' b o ds :=
  ⟨Nat.lt_of_lt_of_le h.1 hb.size, fun i hi => (hb.cell (p := ⟨b, o + i, none⟩) h.1).trans (h.2 i hi)⟩
theorem Num.below {w w' : World} {v : Value} {N K : Nat} (h : Num w v N K) (hb : Below w.heap.size w w') : Num w' v N K := by
  obtain ⟨b, o, ds, cap, h1, h2, h3, h4, h5, h6, h7⟩ := h
  exact ⟨b, o, ds, cap, h1, h2, h3, h4, h5, h6, h7.below hb⟩
theorem Num.le {w : World} {v : Value} {N K K' : Nat} (h : Num w v N K) (hk : K ≤ K') : Num w v N K' := by
  obtain ⟨b, o, ds, cap, h1, h2, h3, h4, h5, h6, h7⟩ := h
  exact ⟨b, o, ds, cap, h1, h2, by omega, h4, h5, h6, h7⟩

/-- What is left without the noughts at the end. -/
theorem num_of_trim {w : World} {b o : Nat} {ds : List Nat} {cap k K : Nat} (hc : ds.length ≤ cap) (hK : ds.length ≤ K) (hd : ∀ d ∈ ds, d < 4294967296) (hl : Lies w b o ds)
    (hk : k ≤ ds.length) (hz : ∀ i, k ≤ i → i < ds.length → ds.getD i 0 = 0) (hn : k = 0 ∨ ds.getD (k - 1) 0 ≠ 0) : Num w (.slice (some ⟨b, o, none⟩) k cap) (Dg.natOf ds) K := by
  have hlen : (ds.take k).length = k := by rw [List.length_take]; omega
  have hg : ∀ i, i < k → (ds.take k).getD i 0 = ds.getD i 0 := fun i hi => by
    rw [List.getD_eq_getElem?_getD, List.getD_eq_getElem?_getD, List.getElem?_take_of_lt hi]
  refine ⟨b, o, ds.take k, cap, by rw [hlen], by omega, by omega, fun d h => hd d (List.mem_of_mem_take h), Dg.natOf_trim ds k hk hz, ?_, hl.1, fun i hi => ?_⟩
  · by_cases hk0 : k = 0
    · left; subst hk0; simp
    · right
      rcases hn with h | h
      · exact absurd h hk0
      · rw [hlen, hg _ (by omega)]; exact h
  · rw [hg i (by omega)]; exact hl.2 i (by omega)

set_option maxRecDepth 100000 in
set_option maxHeartbeats 1000000 in
theorem trim_some (b o cap : Nat) (ds : List Nat) (w : World) (hl : Lies w b o ds) (hlen : ds.length ≤ 1000000) (hcap : ds.length ≤ cap) :
    Calls Try.prog 55 #[.slice (some ⟨b, o, none⟩) ds.length cap] w fun e w' => (∃ k : Nat, e = .returned (.slice (some ⟨b, o, none⟩) k cap) ∧ k ≤ ds.length ∧ (∀ i, k ≤ i → i < ds.length → ds.getD i 0 = 0) ∧ (k = 0 ∨ ds.getD (k - 1) 0 ≠ 0)) ∧ w' = w := by
  obtain ⟨hb, hc⟩ := hl
  have HC := hide hc
  clear hc
  go_enter Try.func55, Try.ntmps55
  go_wp2
  go_loop [3] (fun n => ∃ k : Nat, k ≤ ds.length ∧ n = .int .i64 k ∧ Hid (∀ i, k ≤ i → i < ds.length → ds.getD i 0 = 0)) (fun n => (intOf n).toNat)
  case atStart => exact ⟨ds.length, Nat.le_refl _, rfl, hide (fun i h1 h2 => by omega)⟩
  case round =>
    obtain ⟨k, hk, rfl, HZ⟩ := hrel
    by_cases hk0 : k = 0
    · subst hk0
      go_wp2
      go_ret
      exact ⟨⟨0, rfl, by omega, unhide HZ, .inl rfl⟩, rfl⟩
    · have hcell := unhide HC (k - 1) (by omega)
      have hk1 : (0 : Int) < (k : Int) := by omega
      go_wp2
      · have h0 : (((ds[k - 1]?.getD 0 : Nat) : Int) == 0) = true := by assumption
        have h0' : ds.getD (k - 1) 0 = 0 := by have := WalkArith.int_eq h0; rw [List.getD_eq_getElem?_getD]; omega
        go_round
        case rel =>
          refine ⟨k - 1, by omega, by go_num, hide ?_⟩
          intro i h1 h2
          by_cases e : i = k - 1
          · rw [e]; exact h0'
          · exact unhide HZ i (by omega) h2
        case measure => simp [intOf]; omega
      · have h0 : (((ds[k - 1]?.getD 0 : Nat) : Int) == 0) = false := by assumption
        have h0' : ds.getD (k - 1) 0 ≠ 0 := by have := WalkArith.int_ne h0; rw [List.getD_eq_getElem?_getD]; omega
        go_ret
        exact ⟨⟨k, rfl, hk, unhide HZ, .inr h0'⟩, rfl⟩

/-- trim: the number that the digits stand for. -/
theorem trim_any (b o cap K : Nat) (ds : List Nat) (w : World) (hl : Lies w b o ds) (hK : ds.length ≤ K) (hK2 : K ≤ 1000000) (hcap : ds.length ≤ cap) (hd : ∀ d ∈ ds, d < 4294967296) :
    Calls Try.prog 55 #[.slice (some ⟨b, o, none⟩) ds.length cap] w fun e w' => (∃ v, e = .returned v ∧ Num w v (Dg.natOf ds) K) ∧ w' = w := by
  refine (trim_some b o cap ds w hl (by omega) hcap).mono ?_
  rintro e w' ⟨⟨k, rfl, h1, h2, h3⟩, rfl⟩
  exact ⟨⟨_, rfl, num_of_trim hcap hK hd hl h1 h2 h3⟩, rfl⟩

set_option maxRecDepth 100000 in
set_option maxHeartbeats 1000000 in
/-- Of: a number. -/
theorem of_any (n : Int) (h0 : 0 ≤ n) (h1 : n < 18446744073709551616) (w : World) :
    Calls Try.prog 35 #[.int .u64 n] w fun e w' => (∃ v, e = .returned v ∧ Num w' v n.toNat 2) ∧ Below w.heap.size w w' := by
  go_enter Try.func35, Try.ntmps35
  go_wp2_with fail
  have hl : Lies (w.alloc (.cells #[.int .u32 (n % 4294967296), .int .u32 (n / 4294967296)] 22)) w.heap.size 0 [(n % 4294967296).toNat, (n / 4294967296).toNat] := by
    refine ⟨by simp, fun i hi => ?_⟩
    have e1 : (((n % 4294967296).toNat : Nat) : Int) = n % 4294967296 := by omega
    have e2 : (((n / 4294967296).toNat : Nat) : Int) = n / 4294967296 := by omega
    match i, hi with
    | 0, _ => simp [e1]
    | 1, _ => simp [e2]
  refine (trim_any w.heap.size 0 2 2 [(n % 4294967296).toNat, (n / 4294967296).toNat] _ hl (by simp) (by omega) (by simp) (by
    intro d hd
    simp at hd
    rcases hd with rfl | rfl <;> omega)).mono ?_
  rintro e w1 ⟨⟨v, rfl, hv⟩, rfl⟩
  go_wp2_with fail
  go_ret
  refine ⟨⟨v, rfl, ?_⟩, (Below.refl _ _).alloc (Nat.le_refl _) _⟩
  have en : Dg.natOf [(n % 4294967296).toNat, (n / 4294967296).toNat] = n.toNat := by simp only [Dg.natOf]; omega
  rw [en] at hv
  exact hv

theorem drewN_two (w : World) (m n : Nat) : (w.drewN m).drewN n = w.drewN (m + n) := by simp
theorem drewN_three (w : World) (m n k : Nat) : ((w.drewN m).drewN n).drewN k = w.drewN (m + n + k) := by simp

/-- -1, 0, 1. -/
def cmpN (N M : Nat) : Int := if N < M then -1 else if M < N then 1 else 0

set_option maxRecDepth 100000 in
set_option maxHeartbeats 2000000 in
/-- Compare, of rows of one length that lie somewhere. -/
theorem compare_same (b o cap b' o' cap' : Nat) (xs ys : List Nat) (w : World) (ha : Lies w b o xs) (hb : Lies w b' o' ys) (hl : xs.length = ys.length) (hlen : xs.length ≤ 1000000)
    (hda : ∀ d ∈ xs, d < 4294967296) (hdb : ∀ d ∈ ys, d < 4294967296) :
    Calls Try.prog 36 #[.slice (some ⟨b, o, none⟩) xs.length cap, .slice (some ⟨b', o', none⟩) xs.length cap'] w fun e w' => e = .returned (.int .i64 (cmpN (Dg.natOf xs) (Dg.natOf ys))) ∧ ∃ n, w' = w.drewN n := by
  obtain ⟨hb1, hc1⟩ := ha
  obtain ⟨hb2, hc2⟩ := hb
  have HC1 := hide hc1
  have HC2 := hide hc2
  have HL := hide hl
  have HDA := hide hda
  have HDB := hide hdb
  clear hc1 hc2 hl hda hdb
  go_enter Try.func36, Try.ntmps36
  go_wp2
  go_loopw [5] (fun i wr => ∃ k : Nat, k ≤ xs.length ∧ i = .int .i64 ((k : Int) - 1) ∧ Hid (xs.drop k = ys.drop k) ∧ ∃ m, wr = w.drewN m) (fun i _ => (intOf i + 1).toNat)
  case atStart =>
    refine ⟨xs.length, Nat.le_refl _, rfl, hide ?_, 0, rfl⟩
    rw [List.drop_of_length_le (Nat.le_refl _), List.drop_of_length_le (by rw [unhide HL]; exact Nat.le_refl _)]
  case round =>
    obtain ⟨k, hk, rfl, HE, m, rfl⟩ := hrel
    by_cases hk0 : k = 0
    · subst hk0
      go_wp2
      go_ret
      refine ⟨ret_int ?_, _, rfl⟩
      have e : xs = ys := by have := unhide HE; simpa using this
      unfold cmpN; rw [e]; simp
    · obtain ⟨j, rfl⟩ : ∃ j, k = j + 1 := ⟨k - 1, by omega⟩
      have ej : ((j + 1 : Nat) : Int) - 1 = (j : Int) := by omega
      rw [ej]
      have c1 := unhide HC1 j (by omega)
      have c2 := unhide HC2 j (by rw [← unhide HL]; omega)
      have l1 := Dg.getD_lt xs (unhide HDA) j
      have l2 := Dg.getD_lt ys (unhide HDB) j
      obtain ⟨x, hx⟩ : ∃ x, xs.getD j 0 = x := ⟨_, rfl⟩
      obtain ⟨y, hy⟩ : ∃ y, ys.getD j 0 = y := ⟨_, rfl⟩
      rw [hx] at c1 l1
      rw [hy] at c2 l2
      have HX := hide hx
      have HY := hide hy
      clear hx hy
      have i0 : (0 : Int) ≤ (j : Int) := by omega
      have i1 : (j : Int) < (xs.length : Int) := by omega
      rcases Nat.lt_trichotomy x y with hlt | heq | hgt
      · have hi : (x : Int) < (y : Int) := by omega
        go_wp2
        go_quiet (fail)
        go_wp2
        go_ret
        refine ⟨ret_int ?_, _, drewN_two _ _ _⟩
        have := Dg.lt_at xs ys j (unhide HDA) (by omega) (unhide HL) (unhide HE) (by rw [unhide HX, unhide HY]; exact hlt)
        unfold cmpN; rw [if_pos this]
      · have hi : ¬ (x : Int) < (y : Int) := by omega
        have hi2 : ¬ (y : Int) < (x : Int) := by omega
        have HQ := hide heq
        clear heq
        go_wp2
        go_quiet (fail)
        go_wp2
        go_quiet (fail)
        go_wp2
        go_roundw
        case rel => exact ⟨j, by omega, rfl, hide (Dg.drop_step xs ys j (by omega) (unhide HL) (unhide HE) (by rw [unhide HX, unhide HY]; exact unhide HQ)), _, rfl⟩
        case measure => simp [intOf]
      · have hi : ¬ (x : Int) < (y : Int) := by omega
        have hi2 : (y : Int) < (x : Int) := by omega
        go_wp2
        go_quiet (fail)
        go_wp2
        go_quiet (fail)
        go_wp2
        go_ret
        refine ⟨ret_int ?_, _, drewN_three _ _ _ _⟩
        have := Dg.lt_at ys xs j (unhide HDB) (by rw [← unhide HL]; omega) (unhide HL).symm (unhide HE).symm (by rw [unhide HX, unhide HY]; exact hgt)
        unfold cmpN; rw [if_neg (by omega), if_pos this]
end Go.Proofs.Ytkbniebahledmaa
