import Derived.Test.YtkbniebahledmabGreatGB
import Derived.Test.YtkbniebahledmabGreatGA
import Derived.Laws.OwnMore

/-
  Walks of the document's whole numbers (rows of digits of 32 bits): what each function makes of its digits.
-/
namespace Go.Proofs.YtkbniebahledmabGreat
open Go.RowKit
set_option linter.unusedVariables false

/-- The digits lie behind an address. -/
def Lies (w : World) (b o : Nat) (ds : List Nat) : Prop := b < w.heap.size ∧ ∀ i, i < ds.length → w.cell? ⟨b, o + i, none⟩ = some (.int .u32 (ds.getD i 0))
/-- A slice that holds a whole number, in at most K digits. -/
def Num (w : World) (v : Value) (N K : Nat) : Prop :=
  ∃ b o ds cap, v = .slice (some ⟨b, o, none⟩) ds.length cap ∧ ds.length ≤ cap ∧ ds.length ≤ K ∧ (∀ d ∈ ds, d < 4294967296) ∧ Dg.natOf ds = N ∧ Dg.Norm ds ∧ Lies w b o ds

theorem Lies.below {w w' : World} {b o : Nat} {ds : List Nat} (h : Lies w b o ds) (hb : Below w.heap.size w w') : Lies w' b o ds :=
  ⟨Nat.lt_of_lt_of_le h.1 hb.size, fun i hi => (hb.cell (p := ⟨b, o + i, none⟩) h.1).trans (h.2 i hi)⟩
theorem Num.below {w w' : World} {v : Value} {N K : Nat} (h : Num w v N K) (hb : Below w.heap.size w w') : Num w' v N K := by
  obtain ⟨b, o, ds, cap, h1, h2, h3, h4, h5, h6, h7⟩ := h
  exact ⟨b, o, ds, cap, h1, h2, h3, h4, h5, h6, h7.below hb⟩
theorem Num.le {w : World} {v : Value} {N K K' : Nat} (h : Num w v N K) (hk : K ≤ K') : Num w v N K' := by
  obtain ⟨b, o, ds, cap, h1, h2, h3, h4, h5, h6, h7⟩ := h
  exact ⟨b, o, ds, cap, h1, h2, by omega, h4, h5, h6, h7⟩

/-- What is left without the noughts at the end. -/
theorem num_of_trim {w : World} {b o : Nat} {ds : List Nat} {cap k K : Nat} (hc : ds.length ≤ cap) (hK : ds.length ≤ K) (hd : ∀ d ∈ ds, d < 4294967296) (hl : Lies w b o ds)
    (hk : k ≤ ds.length) (hz : ∀ i, k ≤ i → i < ds.length → ds.getD i 0 = 0) (hn : k = 0 ∨ ds.getD (k - 1) 0 ≠ 0) : Num w (.slice (some ⟨b, o, none⟩) k cap) (Dg.natOf ds) K := by
  have hlen : (ds.take k).length = k := by rw [List.length_take]; omega
  have hg : ∀ i, i < k → (ds.take k).getD i 0 = ds.getD i 0 := fun i hi => by
    rw [List.getD_eq_getElem?_getD, List.getD_eq_getElem?_getD, List.getElem?_take_of_lt hi]
  refine ⟨b, o, ds.take k, cap, by rw [hlen], by omega, by omega, fun d h => hd d (List.mem_of_mem_take h), Dg.natOf_trim ds k hk hz, ?_, hl.1, fun i hi => ?_⟩
  · by_cases hk0 : k = 0
    · left; subst hk0; simp
    · right
      rcases hn with h | h
      · exact absurd h hk0
      · rw [hlen, hg _ (by omega)]; exact h
  · rw [hg i (by omega)]; exact hl.2 i (by omega)

set_option maxRecDepth 100000 in
set_option maxHeartbeats 1000000 in
theorem trim_some (b o cap : Nat) (ds : List Nat) (w : World) (hl : Lies w b o ds) (hlen : ds.length ≤ 1000000) (hcap : ds.length ≤ cap) :
    Calls Tryz.prog 120 #[.slice (some ⟨b, o, none⟩) ds.length cap] w fun e w' => (∃ k : Nat, e = .returned (.slice (some ⟨b, o, none⟩) k cap) ∧ k ≤ ds.length ∧ (∀ i, k ≤ i → i < ds.length → ds.getD i 0 = 0) ∧ (k = 0 ∨ ds.getD (k - 1) 0 ≠ 0)) ∧ w' = w := by
  obtain ⟨hb, hc⟩ := hl
  have HC := hide hc
  clear hc
  go_enter Tryz.func120, Tryz.ntmps120
  go_wp2
  go_loop [3] (fun n => ∃ k : Nat, k ≤ ds.length ∧ n = .int .i64 k ∧ Hid (∀ i, k ≤ i → i < ds.length → ds.getD i 0 = 0)) (fun n => (intOf n).toNat)
  case atStart => exact ⟨ds.length, Nat.le_refl _, rfl, hide (fun i h1 h2 => by omega)⟩
  case round =>
    obtain ⟨k, hk, rfl, HZ⟩ := hrel
    by_cases hk0 : k = 0
    · subst hk0
      go_wp2
      go_ret
      exact ⟨⟨0, rfl, by omega, unhide HZ, .inl rfl⟩, rfl⟩
    · have hcell := unhide HC (k - 1) (by omega)
      have hk1 : (0 : Int) < (k : Int) := by omega
      go_wp2
      · have h0 : (((ds[k - 1]?.getD 0 : Nat) : Int) == 0) = true := by assumption
        have h0' : ds.getD (k - 1) 0 = 0 := by have := WalkArith.int_eq h0; rw [List.getD_eq_getElem?_getD]; omega
        go_round
        case rel =>
          refine ⟨k - 1, by omega, by go_num, hide ?_⟩
          intro i h1 h2
          by_cases e : i = k - 1
          · rw [e]; exact h0'
          · exact unhide HZ i (by omega) h2
        case measure => simp [intOf]; omega
      · have h0 : (((ds[k - 1]?.getD 0 : Nat) : Int) == 0) = false := by assumption
        have h0' : ds.getD (k - 1) 0 ≠ 0 := by have := WalkArith.int_ne h0; rw [List.getD_eq_getElem?_getD]; omega
        go_ret
        exact ⟨⟨k, rfl, hk, unhide HZ, .inr h0'⟩, rfl⟩

/-- trim: the number that the digits stand for. -/
theorem trim_any (b o cap K : Nat) (ds : List Nat) (w : World) (hl : Lies w b o ds) (hK : ds.length ≤ K) (hK2 : K ≤ 1000000) (hcap : ds.length ≤ cap) (hd : ∀ d ∈ ds, d < 4294967296) :
    Calls Tryz.prog 120 #[.slice (some ⟨b, o, none⟩) ds.length cap] w fun e w' => (∃ v, e = .returned v ∧ Num w v (Dg.natOf ds) K) ∧ w' = w := by
  refine (trim_some b o cap ds w hl (by omega) hcap).mono ?_
  rintro e w' ⟨⟨k, rfl, h1, h2, h3⟩, rfl⟩
  exact ⟨⟨_, rfl, num_of_trim hcap hK hd hl h1 h2 h3⟩, rfl⟩

set_option maxRecDepth 100000 in
set_option maxHeartbeats 1000000 in
/-- Of: a number. -/
theorem of_any (n : Int) (h0 : 0 ≤ n) (h1 : n < 18446744073709551616) (w : World) :
    Calls Tryz.prog 102 #[.int .u64 n] w fun e w' => (∃ v, e = .returned v ∧ Num w' v n.toNat 2) ∧ Below w.heap.size w w' := by
  go_enter Tryz.func102, Tryz.ntmps102
  go_wp2_with fail
  have hl : Lies (w.alloc (.cells #[.int .u32 (n % 4294967296), .int .u32 (n / 4294967296)] 22)) w.heap.size 0 [(n % 4294967296).toNat, (n / 4294967296).toNat] := by
    refine ⟨by simp, fun i hi => ?_⟩
    have e1 : (((n % 4294967296).toNat : Nat) : Int) = n % 4294967296 := by omega
    have e2 : (((n / 4294967296).toNat : Nat) : Int) = n / 4294967296 := by omega
    match i, hi with
    | 0, _ => simp [e1]
    | 1, _ => simp [e2]
  refine (trim_any w.heap.size 0 2 2 [(n % 4294967296).toNat, (n / 4294967296).toNat] _ hl (by simp) (by omega) (by simp) (by
    intro d hd
    simp at hd
    rcases hd with rfl | rfl <;> omega)).mono ?_
  rintro e w1 ⟨⟨v, rfl, hv⟩, rfl⟩
  go_wp2_with fail
  go_ret
  refine ⟨⟨v, rfl, ?_⟩, (Below.refl _ _).alloc (Nat.le_refl _) _⟩
  have en : Dg.natOf [(n % 4294967296).toNat, (n / 4294967296).toNat] = n.toNat := by simp only [Dg.natOf]; omega
  rw [en] at hv
  exact hv

theorem drewN_two (w : World) (m n : Nat) : (w.drewN m).drewN n = w.drewN (m + n) := by simp
theorem drewN_three (w : World) (m n k : Nat) : ((w.drewN m).drewN n).drewN k = w.drewN (m + n + k) := by simp

/-- -1, 0, 1. -/
def cmpN (N M : Nat) : Int := if N < M then -1 else if M < N then 1 else 0

set_option maxRecDepth 100000 in
set_option maxHeartbeats 2000000 in
/-- Compare, of rows of one length that lie somewhere. -/
theorem compare_same (b o cap b' o' cap' : Nat) (xs ys : List Nat) (w : World) (ha : Lies w b o xs) (hb : Lies w b' o' ys) (hl : xs.length = ys.length) (hlen : xs.length ≤ 1000000)
    (hda : ∀ d ∈ xs, d < 4294967296) (hdb : ∀ d ∈ ys, d < 4294967296) :
    Calls Tryz.prog 117 #[.slice (some ⟨b, o, none⟩) xs.length cap, .slice (some ⟨b', o', none⟩) xs.length cap'] w fun e w' => e = .returned (.int .i64 (cmpN (Dg.natOf xs) (Dg.natOf ys))) ∧ ∃ n, w' = w.drewN n := by
  obtain ⟨hb1, hc1⟩ := ha
  obtain ⟨hb2, hc2⟩ := hb
  have HC1 := hide hc1
  have HC2 := hide hc2
  have HL := hide hl
  have HDA := hide hda
  have HDB := hide hdb
  clear hc1 hc2 hl hda hdb
  go_enter Tryz.func117, Tryz.ntmps117
  go_wp2
  go_loopw [5] (fun i wr => ∃ k : Nat, k ≤ xs.length ∧ i = .int .i64 ((k : Int) - 1) ∧ Hid (xs.drop k = ys.drop k) ∧ ∃ m, wr = w.drewN m) (fun i _ => (intOf i + 1).toNat)
  case atStart =>
    refine ⟨xs.length, Nat.le_refl _, rfl, hide ?_, 0, rfl⟩
    rw [List.drop_of_length_le (Nat.le_refl _), List.drop_of_length_le (by rw [unhide HL]; exact Nat.le_refl _)]
  case round =>
    obtain ⟨k, hk, rfl, HE, m, rfl⟩ := hrel
    by_cases hk0 : k = 0
    · subst hk0
      go_wp2
      go_ret
      refine ⟨ret_int ?_, _, rfl⟩
      have e : xs = ys := by have := unhide HE; simpa using this
      unfold cmpN; rw [e]; simp
    · obtain ⟨j, rfl⟩ : ∃ j, k = j + 1 := ⟨k - 1, by omega⟩
      have ej : ((j + 1 : Nat) : Int) - 1 = (j : Int) := by omega
      rw [ej]
      have c1 := unhide HC1 j (by omega)
      have c2 := unhide HC2 j (by rw [← unhide HL]; omega)
      have l1 := Dg.getD_lt xs (unhide HDA) j
      have l2 := Dg.getD_lt ys (unhide HDB) j
      obtain ⟨x, hx⟩ : ∃ x, xs.getD j 0 = x := ⟨_, rfl⟩
      obtain ⟨y, hy⟩ : ∃ y, ys.getD j 0 = y := ⟨_, rfl⟩
      rw [hx] at c1 l1
      rw [hy] at c2 l2
      have HX := hide hx
      have HY := hide hy
      clear hx hy
      have i0 : (0 : Int) ≤ (j : Int) := by omega
      have i1 : (j : Int) < (xs.length : Int) := by omega
      rcases Nat.lt_trichotomy x y with hlt | heq | hgt
      · have hi : (x : Int) < (y : Int) := by omega
        go_wp2
        go_quiet (fail)
        go_wp2
        go_ret
        refine ⟨ret_int ?_, _, drewN_two _ _ _⟩
        have := Dg.lt_at xs ys j (unhide HDA) (by omega) (unhide HL) (unhide HE) (by rw [unhide HX, unhide HY]; exact hlt)
        unfold cmpN; rw [if_pos this]
      · have hi : ¬ (x : Int) < (y : Int) := by omega
        have hi2 : ¬ (y : Int) < (x : Int) := by omega
        have HQ := hide heq
        clear heq
        go_wp2
        go_quiet (fail)
        go_wp2
        go_quiet (fail)
        go_wp2
        go_roundw
        case rel => exact ⟨j, by omega, rfl, hide (Dg.drop_step xs ys j (by omega) (unhide HL) (unhide HE) (by rw [unhide HX, unhide HY]; exact unhide HQ)), _, rfl⟩
        case measure => simp [intOf]
      · have hi : ¬ (x : Int) < (y : Int) := by omega
        have hi2 : (y : Int) < (x : Int) := by omega
        go_wp2
        go_quiet (fail)
        go_wp2
        go_quiet (fail)
        go_wp2
        go_ret
        refine ⟨ret_int ?_, _, drewN_three _ _ _ _⟩
        have := Dg.lt_at ys xs j (unhide HDB) (by rw [← unhide HL]; omega) (unhide HL).symm (unhide HE).symm (by rw [unhide HX, unhide HY]; exact hgt)
        unfold cmpN; rw [if_neg (by omega), if_pos this]
end Go.Proofs.YtkbniebahledmabGreat

/-
  Walks of the document's whole numbers: comparing, sums, differences, powers of two.
-/
namespace Go.Proofs.YtkbniebahledmabGreat
open Go.RowKit
set_option linter.unusedVariables false

theorem Tryz.infoU32 : (Tryz.prog.info? 22).map (fun i => (i.zero, i.size, i.bytes)) = some (some (.int .u32 0), 1, 4) := by kernel_rfl

set_option maxRecDepth 100000 in
set_option maxHeartbeats 1000000 in
theorem compare_diff (ad ad' : Option Addr) (n cap n' cap' : Nat) (w : World) (hn : n ≤ 1000000) (hn' : n' ≤ 1000000) (h : n ≠ n') :
    Calls Tryz.prog 117 #[.slice ad n cap, .slice ad' n' cap'] w fun e w' => e = .returned (.int .i64 (if n < n' then -1 else 1)) ∧ w' = w := by
  have h' : ((n : Int) == (n' : Int)) = false := by simp; omega
  by_cases hlt : n < n'
  · rw [if_pos hlt]
    have hi : (n : Int) < (n' : Int) := by omega
    go_enter Tryz.func117, Tryz.ntmps117
    go_wp2
    go_ret
    exact ⟨rfl, rfl⟩
  · rw [if_neg hlt]
    have hi : ¬ (n : Int) < (n' : Int) := by omega
    go_enter Tryz.func117, Tryz.ntmps117
    go_wp2
    go_ret
    exact ⟨rfl, rfl⟩

/-- Compare: as the numbers stand. -/
theorem compare_any (a b : Value) (N M K : Nat) (hK : K ≤ 1000000) (w : World) (ha : Num w a N K) (hb : Num w b M K) :
    Calls Tryz.prog 117 #[a, b] w fun e w' => e = .returned (.int .i64 (cmpN N M)) ∧ Below w.heap.size w w' := by
  obtain ⟨b, o, xs, cap, rfl, a2, a3, a4, rfl, a6, a7⟩ := ha
  obtain ⟨b', o', ys, cap', rfl, b2, b3, b4, rfl, b6, b7⟩ := hb
  by_cases hl : xs.length = ys.length
  · rw [← hl]
    refine (compare_same b o cap b' o' cap' xs ys w a7 b7 hl (by omega) a4 b4).mono ?_
    rintro e w' ⟨rfl, n, rfl⟩
    exact ⟨rfl, bl_drewN (Below.refl _ _) _⟩
  · refine (compare_diff _ _ _ cap _ cap' w (by omega) (by omega) hl).mono ?_
    rintro e w' ⟨rfl, rfl⟩
    refine ⟨ret_int ?_, Below.refl _ _⟩
    unfold cmpN
    rcases Nat.lt_or_ge xs.length ys.length with h | h
    · rw [if_pos h, if_pos (Dg.len_lt_of xs ys a4 b6 h)]
    · have := Dg.len_lt_of ys xs b4 a6 (by omega)
      rw [if_neg (by omega), if_neg (by omega), if_pos this]

/-- A row that the call itself builds: its digits, and nothing else has turned. -/
def Built (w wr : World) (v : Value) (os : List Nat) : Prop :=
  wr.ownsRow w.heap.size 22 1 v os.length (os.map fun (d : Nat) => Value.int .u32 (d : Int)) ∧ Below w.heap.size w wr ∧ ∀ d ∈ os, d < 4294967296
theorem Built.nil (w : World) : Built w w (.slice none 0 0) [] := ⟨World.ownsRow_nil _ _ _ _, Below.refl _ _, by simp⟩
theorem Built.step {w wr w1 : World} {v v' : Value} {os : List Nat} {ob : Obj} {X : Int} {d : Nat} (h : Built w wr v os) (hX : X = (d : Int)) (hd : d < 4294967296)
    (hown : w1.ownsRow w.heap.size 22 1 v' (os.length + 1) ((os.map fun (d : Nat) => Value.int .u32 (d : Int)) ++ [.int .u32 X])) (hg : (wr.alloc ob).grownBy w1 v.ownBlock) :
    Built w w1 v' (os ++ [d]) := by
  obtain ⟨h1, h2, h3⟩ := h
  subst hX
  refine ⟨by simpa using hown, ?_, ?_⟩
  · refine (h2.alloc h2.size ob).grown hg (by have := h2.size; simp; omega) ?_
    intro k hk
    exact (h1.lt k hk).1
  · intro x hx
    rw [List.mem_append] at hx
    rcases hx with hx | hx
    · exact h3 x hx
    · simp at hx; omega
/-- What is built may be read. -/
theorem Built.form {w wr : World} {v : Value} {os : List Nat} (h : Built w wr v os) (hp : 0 < os.length) : ∃ b cap, v = .slice (some ⟨b, 0, none⟩) os.length cap ∧ os.length ≤ cap ∧ Lies wr b 0 os := by
  obtain ⟨⟨_, h1⟩, h2, h3⟩ := h
  rcases h1 with ⟨rfl, h0⟩ | ⟨g, cap, cur, rfl, hb, hh, hc, hm, hs, ht⟩
  · omega
  · refine ⟨g, cap, rfl, hc, ?_, fun i hi => ?_⟩
    · rcases Nat.lt_or_ge g wr.heap.size with h | h
      · exact h
      · rw [Array.getElem?_eq_none h] at hh; cases hh
    · have e : cur.toList[i]? = some (.int .u32 (os.getD i 0 : Int)) := by
        have e1 : (cur.toList.take (os.length * 1))[i]? = cur.toList[i]? := List.getElem?_take_of_lt (by omega)
        rw [← e1, ht, List.getElem?_map, List.getElem?_eq_getElem hi, List.getD_eq_getElem?_getD, List.getElem?_eq_getElem hi]; rfl
      simp [World.cell?, hh]
      simpa using e

theorem one_cell (w : World) (x : Value) (t : TypeId) : ∀ j u, [x][j]? = some u → (w.alloc (.cells #[x] t)).cell? ((⟨w.heap.size, 0, none⟩ : Addr).add j) = some u := by
  intro j u hj
  match j, hj with
  | 0, hj => simp at hj; subst hj; simp [Addr.add]
theorem one_ok (x : Int) : ∀ u ∈ [Value.int .u32 x], u.oneCell' = true := by
  intro u hu; simp at hu; subst hu; rfl

set_option maxRecDepth 100000 in
set_option maxHeartbeats 2000000 in
theorem plus_some (b o cap b' o' cap' : Nat) (xs ys : List Nat) (w : World) (ha : Lies w b o xs) (hb : Lies w b' o' ys) (hlx : xs.length ≤ 1000) (hly : ys.length ≤ 1000)
    (hda : ∀ d ∈ xs, d < 4294967296) (hdb : ∀ d ∈ ys, d < 4294967296) (hpos : 0 < Dg.natOf xs + Dg.natOf ys) :
    Calls Tryz.prog 116 #[.slice (some ⟨b, o, none⟩) xs.length cap, .slice (some ⟨b', o', none⟩) ys.length cap'] w fun e w' => (∃ v, e = .returned v ∧ Num w' v (Dg.natOf xs + Dg.natOf ys) (max xs.length ys.length + 1)) ∧ Below w.heap.size w w' := by
  obtain ⟨hb1, hc1⟩ := ha
  obtain ⟨hb2, hc2⟩ := hb
  have HC1 := hide hc1
  have HC2 := hide hc2
  have HDA := hide hda
  have HDB := hide hdb
  have HP := hide hpos
  clear hc1 hc2 hda hdb hpos
  obtain ⟨i0, hi, hz0, hz1, hz2⟩ := info_parts Tryz.infoU32
  go_enter Tryz.func116, Tryz.ntmps116
  go_wp2
  go_loopw [5, 6, 7] (fun v c i wr => ∃ os : List Nat, ∃ q : Nat, c = .int .u64 q ∧ i = .int .i64 os.length ∧ Built w wr v os ∧ q ≤ 1 ∧ os.length ≤ max xs.length ys.length + 1 ∧ Hid (max xs.length ys.length < os.length → q = 0) ∧ Hid (Dg.natOf os + 4294967296 ^ os.length * q = Dg.natOf (xs.take os.length) + Dg.natOf (ys.take os.length)))
    (fun _ _ i _ => max xs.length ys.length + 1 - (intOf i).toNat)
  case atStart => exact ⟨[], 0, rfl, rfl, Built.nil w, by omega, by simp, hide (fun _ => rfl), hide (by simp [Dg.natOf])⟩
  case round =>
    obtain ⟨os, q, rfl, rfl, hB, hq, hlen, HM, HV⟩ := hrel
    obtain ⟨k, hk⟩ : ∃ k, os.length = k := ⟨_, rfl⟩
    have hown := hB.1
    have hbel := hB.2.1
    rw [hk] at hlen HM HV hown ⊢
    have HK := hide hk
    have HB := hide hB
    clear hk hB
    by_cases h1 : k < xs.length
    · by_cases h2 : k < ys.length
      · skip
        have c1 : wr.cell? ⟨b, o + k, none⟩ = some (.int .u32 (xs.getD k 0)) := (hbel.cell (p := ⟨b, o + k, none⟩) hb1).trans (unhide HC1 k h1)
        have c2 : wr.cell? ⟨b', o' + k, none⟩ = some (.int .u32 (ys.getD k 0)) := (hbel.cell (p := ⟨b', o' + k, none⟩) hb2).trans (unhide HC2 k h2)
        have l1 := Dg.getD_lt xs (unhide HDA) k
        have l2 := Dg.getD_lt ys (unhide HDB) k
        obtain ⟨x, hx⟩ : ∃ x, xs.getD k 0 = x := ⟨_, rfl⟩
        obtain ⟨y, hy⟩ : ∃ y, ys.getD k 0 = y := ⟨_, rfl⟩
        rw [hx] at c1 l1
        rw [hy] at c2 l2
        have HX := hide hx
        have HY := hide hy
        clear hx hy
        go_wp2_with (at_builtin; refine wpList_append_own _ rfl _ _ 61 rfl w.heap.size 22 i0 (.int .u32 0) 1 4 Tryz.underlying61 hi hz0 hz1 hz2 rfl (by decide) _ _ _ rfl (hown.alloc _) ⟨wr.heap.size, 0, none⟩ 1 1 [.int .u32 (((q : Int) + (x : Int) + (y : Int)) % 4294967296)] rfl rfl (one_cell _ _ _) (one_ok _) (by unfold maxLen; omega) (by omega) (by have := hbel.size; simp; omega) ?_; intro v' w1 hown' hgrow _)
        have R := Built.step (X := ((q : Int) + (x : Int) + (y : Int)) % 4294967296) (d := (q + x + y) % 4294967296) (unhide HB) (by omega) (by omega) (by rw [unhide HK]; exact hown') hgrow
        have S := Dg.plus_step xs ys os k q x y (unhide HK) (unhide HX) (unhide HY) (unhide HV)
        have hsz : (q + x + y) / 4294967296 ≤ 1 := by omega
        have hlast : max xs.length ys.length < k + 1 → (q + x + y) / 4294967296 = 0 := by
          intro hm
          exfalso; omega
        clear hown' hgrow hown
        go_wp2_with fail
        go_roundw
        case rel =>
          refine ⟨os ++ [(q + x + y) % 4294967296], (q + x + y) / 4294967296, ?_, ?_, R, hsz, ?_, hide ?_, hide ?_⟩
          · go_num
          · rw [List.length_append, unhide HK]; go_num
          · rw [List.length_append, unhide HK]; simp; omega
          · rw [List.length_append, unhide HK]; exact hlast
          · rw [List.length_append, unhide HK]; exact S
        case measure => simp [intOf]; omega
      · skip
        have c1 : wr.cell? ⟨b, o + k, none⟩ = some (.int .u32 (xs.getD k 0)) := (hbel.cell (p := ⟨b, o + k, none⟩) hb1).trans (unhide HC1 k h1)
        have l1 := Dg.getD_lt xs (unhide HDA) k
        have l2 := Dg.getD_lt ys (unhide HDB) k
        obtain ⟨x, hx⟩ : ∃ x, xs.getD k 0 = x := ⟨_, rfl⟩
        obtain ⟨y, hy⟩ : ∃ y, ys.getD k 0 = y := ⟨_, rfl⟩
        rw [hx] at c1 l1
        rw [hy] at l2
        have y0 : y = 0 := by rw [← hy, List.getD_eq_getElem?_getD, List.getElem?_eq_none (by omega)]; rfl
        have HX := hide hx
        have HY := hide hy
        have Y0 := hide y0
        clear y0
        clear hx hy
        go_wp2_with (at_builtin; refine wpList_append_own _ rfl _ _ 61 rfl w.heap.size 22 i0 (.int .u32 0) 1 4 Tryz.underlying61 hi hz0 hz1 hz2 rfl (by decide) _ _ _ rfl (hown.alloc _) ⟨wr.heap.size, 0, none⟩ 1 1 [.int .u32 (((q : Int) + (x : Int)) % 4294967296)] rfl rfl (one_cell _ _ _) (one_ok _) (by unfold maxLen; omega) (by omega) (by have := hbel.size; simp; omega) ?_; intro v' w1 hown' hgrow _)
        have R := Built.step (X := ((q : Int) + (x : Int)) % 4294967296) (d := (q + x + y) % 4294967296) (unhide HB) (by have e1 := unhide Y0; omega) (by omega) (by rw [unhide HK]; exact hown') hgrow
        have S := Dg.plus_step xs ys os k q x y (unhide HK) (unhide HX) (unhide HY) (unhide HV)
        have hsz : (q + x + y) / 4294967296 ≤ 1 := by omega
        have hlast : max xs.length ys.length < k + 1 → (q + x + y) / 4294967296 = 0 := by
          intro hm
          exfalso; omega
        clear hown' hgrow hown
        go_wp2_with fail
        go_roundw
        case rel =>
          refine ⟨os ++ [(q + x + y) % 4294967296], (q + x + y) / 4294967296, ?_, ?_, R, hsz, ?_, hide ?_, hide ?_⟩
          · have e1 := unhide Y0; go_num
          · rw [List.length_append, unhide HK]; go_num
          · rw [List.length_append, unhide HK]; simp; omega
          · rw [List.length_append, unhide HK]; exact hlast
          · rw [List.length_append, unhide HK]; exact S
        case measure => simp [intOf]; omega
    · by_cases h2 : k < ys.length
      · skip
        have c2 : wr.cell? ⟨b', o' + k, none⟩ = some (.int .u32 (ys.getD k 0)) := (hbel.cell (p := ⟨b', o' + k, none⟩) hb2).trans (unhide HC2 k h2)
        have l1 := Dg.getD_lt xs (unhide HDA) k
        have l2 := Dg.getD_lt ys (unhide HDB) k
        obtain ⟨x, hx⟩ : ∃ x, xs.getD k 0 = x := ⟨_, rfl⟩
        obtain ⟨y, hy⟩ : ∃ y, ys.getD k 0 = y := ⟨_, rfl⟩
        rw [hx] at l1
        rw [hy] at c2 l2
        have x0 : x = 0 := by rw [← hx, List.getD_eq_getElem?_getD, List.getElem?_eq_none (by omega)]; rfl
        have HX := hide hx
        have HY := hide hy
        have X0 := hide x0
        clear x0
        clear hx hy
        go_wp2_with (at_builtin; refine wpList_append_own _ rfl _ _ 61 rfl w.heap.size 22 i0 (.int .u32 0) 1 4 Tryz.underlying61 hi hz0 hz1 hz2 rfl (by decide) _ _ _ rfl (hown.alloc _) ⟨wr.heap.size, 0, none⟩ 1 1 [.int .u32 (((q : Int) + (y : Int)) % 4294967296)] rfl rfl (one_cell _ _ _) (one_ok _) (by unfold maxLen; omega) (by omega) (by have := hbel.size; simp; omega) ?_; intro v' w1 hown' hgrow _)
        have R := Built.step (X := ((q : Int) + (y : Int)) % 4294967296) (d := (q + x + y) % 4294967296) (unhide HB) (by have e1 := unhide X0; omega) (by omega) (by rw [unhide HK]; exact hown') hgrow
        have S := Dg.plus_step xs ys os k q x y (unhide HK) (unhide HX) (unhide HY) (unhide HV)
        have hsz : (q + x + y) / 4294967296 ≤ 1 := by omega
        have hlast : max xs.length ys.length < k + 1 → (q + x + y) / 4294967296 = 0 := by
          intro hm
          exfalso; omega
        clear hown' hgrow hown
        go_wp2_with fail
        go_roundw
        case rel =>
          refine ⟨os ++ [(q + x + y) % 4294967296], (q + x + y) / 4294967296, ?_, ?_, R, hsz, ?_, hide ?_, hide ?_⟩
          · have e1 := unhide X0; go_num
          · rw [List.length_append, unhide HK]; go_num
          · rw [List.length_append, unhide HK]; simp; omega
          · rw [List.length_append, unhide HK]; exact hlast
          · rw [List.length_append, unhide HK]; exact S
        case measure => simp [intOf]; omega
      · by_cases hq0 : 0 < q
        · have hqi : (0 : Int) < (q : Int) := by omega
          have hkm : k ≤ max xs.length ys.length := by
            rcases Nat.lt_or_ge (max xs.length ys.length) k with h | h
            · have := unhide HM h; omega
            · exact h
          have l1 := Dg.getD_lt xs (unhide HDA) k
          have l2 := Dg.getD_lt ys (unhide HDB) k
          obtain ⟨x, hx⟩ : ∃ x, xs.getD k 0 = x := ⟨_, rfl⟩
          obtain ⟨y, hy⟩ : ∃ y, ys.getD k 0 = y := ⟨_, rfl⟩
          rw [hx] at l1
          rw [hy] at l2
          have x0 : x = 0 := by rw [← hx, List.getD_eq_getElem?_getD, List.getElem?_eq_none (by omega)]; rfl
          have y0 : y = 0 := by rw [← hy, List.getD_eq_getElem?_getD, List.getElem?_eq_none (by omega)]; rfl
          have HX := hide hx
          have HY := hide hy
          have X0 := hide x0
          clear x0
          have Y0 := hide y0
          clear y0
          clear hx hy
          go_wp2_with (at_builtin; refine wpList_append_own _ rfl _ _ 61 rfl w.heap.size 22 i0 (.int .u32 0) 1 4 Tryz.underlying61 hi hz0 hz1 hz2 rfl (by decide) _ _ _ rfl (hown.alloc _) ⟨wr.heap.size, 0, none⟩ 1 1 [.int .u32 (((q : Int)) % 4294967296)] rfl rfl (one_cell _ _ _) (one_ok _) (by unfold maxLen; omega) (by omega) (by have := hbel.size; simp; omega) ?_; intro v' w1 hown' hgrow _)
          have R := Built.step (X := ((q : Int)) % 4294967296) (d := (q + x + y) % 4294967296) (unhide HB) (by have e1 := unhide X0; have e2 := unhide Y0; omega) (by omega) (by rw [unhide HK]; exact hown') hgrow
          have S := Dg.plus_step xs ys os k q x y (unhide HK) (unhide HX) (unhide HY) (unhide HV)
          have hsz : (q + x + y) / 4294967296 ≤ 1 := by omega
          have hlast : max xs.length ys.length < k + 1 → (q + x + y) / 4294967296 = 0 := by
            intro hm
            rw [unhide X0, unhide Y0]; omega
          clear hown' hgrow hown
          go_wp2_with fail
          go_roundw
          case rel =>
            refine ⟨os ++ [(q + x + y) % 4294967296], (q + x + y) / 4294967296, ?_, ?_, R, hsz, ?_, hide ?_, hide ?_⟩
            · have e1 := unhide X0; have e2 := unhide Y0; go_num
            · rw [List.length_append, unhide HK]; go_num
            · rw [List.length_append, unhide HK]; simp; omega
            · rw [List.length_append, unhide HK]; exact hlast
            · rw [List.length_append, unhide HK]; exact S
          case measure => simp [intOf]; omega
        · have hq1 : q = 0 := by omega
          subst hq1
          have e : Dg.natOf os = Dg.natOf xs + Dg.natOf ys := by
            have := unhide HV
            rw [Dg.natOf_take_ge xs k (by omega), Dg.natOf_take_ge ys k (by omega)] at this
            simpa using this
          have hp : 0 < os.length := by
            rcases Nat.eq_zero_or_pos os.length with h | h
            · have e2 : os = [] := List.length_eq_zero_iff.1 h
              rw [e2] at e; simp [Dg.natOf] at e
              have := unhide HP; omega
            · exact h
          obtain ⟨bb, cp, rfl, f2, f3⟩ := (unhide HB).form hp
          rw [unhide HK] at f2
          have F3 := hide f3
          clear f3
          have HDS := hide (unhide HB).2.2
          have HE := hide e
          clear e
          rw [unhide HK]
          have T := hide (trim_any bb 0 cp (max xs.length ys.length + 1) os wr (unhide F3) (by rw [unhide HK]; exact hlen) (by omega) (by rw [unhide HK]; exact f2) (unhide HDS))
          rw [unhide HK] at T
          go_wp2_with fail
          refine (unhide T).mono ?_
          rintro e w2 ⟨⟨v, rfl, hv⟩, rfl⟩
          go_wp2_with fail
          go_ret
          rw [unhide HE] at hv
          exact ⟨⟨v, rfl, hv⟩, hbel⟩
end Go.Proofs.YtkbniebahledmabGreat

/-
  Walks of the document's whole numbers: sums, differences, powers of two, of numbers.
-/
namespace Go.Proofs.YtkbniebahledmabGreat
open Go.RowKit
set_option linter.unusedVariables false

/-- Plus: the sum, of two that are not both nought. -/
theorem plus_any (a b : Value) (N M K : Nat) (hK : K ≤ 1000) (w : World) (ha : Num w a N K) (hb : Num w b M K) (hp : 0 < N + M) :
    Calls Tryz.prog 116 #[a, b] w fun e w' => (∃ v, e = .returned v ∧ Num w' v (N + M) (K + 1)) ∧ Below w.heap.size w w' := by
  obtain ⟨b, o, xs, cap, rfl, a2, a3, a4, rfl, a6, a7⟩ := ha
  obtain ⟨b', o', ys, cap', rfl, b2, b3, b4, rfl, b6, b7⟩ := hb
  refine (plus_some b o cap b' o' cap' xs ys w a7 b7 (by omega) (by omega) a4 b4 hp).mono ?_
  rintro e w' ⟨⟨v, rfl, hv⟩, hb⟩
  exact ⟨⟨v, rfl, hv.le (by omega)⟩, hb⟩

set_option maxRecDepth 100000 in
set_option maxHeartbeats 2000000 in
theorem minus_some (b o cap b' o' cap' : Nat) (xs ys : List Nat) (w : World) (ha : Lies w b o xs) (hb : Lies w b' o' ys) (hlx : xs.length ≤ 1000) (hly : ys.length ≤ 1000)
    (hda : ∀ d ∈ xs, d < 4294967296) (hdb : ∀ d ∈ ys, d < 4294967296) (hny : Dg.Norm ys) (hpos : Dg.natOf ys < Dg.natOf xs) :
    Calls Tryz.prog 118 #[.slice (some ⟨b, o, none⟩) xs.length cap, .slice (some ⟨b', o', none⟩) ys.length cap'] w fun e w' => (∃ v, e = .returned v ∧ Num w' v (Dg.natOf xs - Dg.natOf ys) xs.length) ∧ Below w.heap.size w w' := by
  obtain ⟨hb1, hc1⟩ := ha
  obtain ⟨hb2, hc2⟩ := hb
  have HC1 := hide hc1
  have HC2 := hide hc2
  have HDA := hide hda
  have HDB := hide hdb
  have HP := hide hpos
  have HN := hide hny
  clear hc1 hc2 hda hdb hpos hny
  obtain ⟨i0, hi, hz0, hz1, hz2⟩ := info_parts Tryz.infoU32
  go_enter Tryz.func118, Tryz.ntmps118
  go_wp2
  go_loopw [5, 6, 7] (fun v c i wr => ∃ os : List Nat, ∃ q : Nat, c = .int .u64 q ∧ i = .int .i64 os.length ∧ Built w wr v os ∧ q ≤ 1 ∧ os.length ≤ xs.length ∧ Hid (Dg.natOf os + Dg.natOf (ys.take os.length) = Dg.natOf (xs.take os.length) + 4294967296 ^ os.length * q))
    (fun _ _ i _ => xs.length - (intOf i).toNat)
  case atStart => exact ⟨[], 0, rfl, rfl, Built.nil w, by omega, by simp, hide (by simp [Dg.natOf])⟩
  case round =>
    obtain ⟨os, q, rfl, rfl, hB, hq, hlen, HV⟩ := hrel
    obtain ⟨k, hk⟩ : ∃ k, os.length = k := ⟨_, rfl⟩
    have hown := hB.1
    have hbel := hB.2.1
    rw [hk] at hlen HV hown ⊢
    have HK := hide hk
    have HB := hide hB
    clear hk hB
    by_cases h1 : k < xs.length
    · by_cases h2 : k < ys.length
      · skip
        have c1 : wr.cell? ⟨b, o + k, none⟩ = some (.int .u32 (xs.getD k 0)) := (hbel.cell (p := ⟨b, o + k, none⟩) hb1).trans (unhide HC1 k h1)
        have c2 : wr.cell? ⟨b', o' + k, none⟩ = some (.int .u32 (ys.getD k 0)) := (hbel.cell (p := ⟨b', o' + k, none⟩) hb2).trans (unhide HC2 k h2)
        have l1 := Dg.getD_lt xs (unhide HDA) k
        have l2 := Dg.getD_lt ys (unhide HDB) k
        obtain ⟨x, hx⟩ : ∃ x, xs.getD k 0 = x := ⟨_, rfl⟩
        obtain ⟨y, hy⟩ : ∃ y, ys.getD k 0 = y := ⟨_, rfl⟩
        rw [hx] at c1 l1
        rw [hy] at c2 l2
        have HX := hide hx
        have HY := hide hy
        clear hx hy
        by_cases hlt : x < q + y
        · have hli : (x : Int) < (q : Int) + (y : Int) := by omega
          go_wp2_with (at_builtin; refine wpList_append_own _ rfl _ _ 61 rfl w.heap.size 22 i0 (.int .u32 0) 1 4 Tryz.underlying61 hi hz0 hz1 hz2 rfl (by decide) _ _ _ rfl (hown.alloc _) ⟨wr.heap.size, 0, none⟩ 1 1 [.int .u32 ((x : Int) + 4294967296 - ((q : Int) + (y : Int)))] rfl rfl (one_cell _ _ _) (one_ok _) (by unfold maxLen; omega) (by omega) (by have := hbel.size; simp; omega) ?_; intro v' w1 hown' hgrow _)
          have R := Built.step (X := (x : Int) + 4294967296 - ((q : Int) + (y : Int))) (d := (x + 4294967296 - (q + y))) (unhide HB) (by omega) (by omega) (by rw [unhide HK]; exact hown') hgrow
          have S := Dg.minus_step xs ys os k q 1 x y (x + 4294967296 - (q + y)) (unhide HK) (unhide HX) (unhide HY) (by omega) (unhide HV)
          clear hown' hgrow hown
          go_wp2_with fail
          go_roundw
          case rel =>
            refine ⟨os ++ [(x + 4294967296 - (q + y))], 1, ?_, ?_, R, by omega, ?_, hide ?_⟩
            · go_num
            · rw [List.length_append, unhide HK]; go_num
            · rw [List.length_append, unhide HK]; simp; omega
            · rw [List.length_append, unhide HK]; exact S
          case measure => simp [intOf]; omega
        · have hli : ¬ (x : Int) < (q : Int) + (y : Int) := by omega
          go_wp2_with (at_builtin; refine wpList_append_own _ rfl _ _ 61 rfl w.heap.size 22 i0 (.int .u32 0) 1 4 Tryz.underlying61 hi hz0 hz1 hz2 rfl (by decide) _ _ _ rfl (hown.alloc _) ⟨wr.heap.size, 0, none⟩ 1 1 [.int .u32 ((x : Int) - ((q : Int) + (y : Int)))] rfl rfl (one_cell _ _ _) (one_ok _) (by unfold maxLen; omega) (by omega) (by have := hbel.size; simp; omega) ?_; intro v' w1 hown' hgrow _)
          have R := Built.step (X := (x : Int) - ((q : Int) + (y : Int))) (d := (x - (q + y))) (unhide HB) (by omega) (by omega) (by rw [unhide HK]; exact hown') hgrow
          have S := Dg.minus_step xs ys os k q 0 x y (x - (q + y)) (unhide HK) (unhide HX) (unhide HY) (by omega) (unhide HV)
          clear hown' hgrow hown
          go_wp2_with fail
          go_roundw
          case rel =>
            refine ⟨os ++ [(x - (q + y))], 0, ?_, ?_, R, by omega, ?_, hide ?_⟩
            · go_num
            · rw [List.length_append, unhide HK]; go_num
            · rw [List.length_append, unhide HK]; simp; omega
            · rw [List.length_append, unhide HK]; exact S
          case measure => simp [intOf]; omega
      · skip
        have c1 : wr.cell? ⟨b, o + k, none⟩ = some (.int .u32 (xs.getD k 0)) := (hbel.cell (p := ⟨b, o + k, none⟩) hb1).trans (unhide HC1 k h1)
        have l1 := Dg.getD_lt xs (unhide HDA) k
        have l2 := Dg.getD_lt ys (unhide HDB) k
        obtain ⟨x, hx⟩ : ∃ x, xs.getD k 0 = x := ⟨_, rfl⟩
        obtain ⟨y, hy⟩ : ∃ y, ys.getD k 0 = y := ⟨_, rfl⟩
        rw [hx] at c1 l1
        rw [hy] at l2
        have y0 : y = 0 := by rw [← hy, List.getD_eq_getElem?_getD, List.getElem?_eq_none (by omega)]; rfl
        have Y0 := hide y0
        have HX := hide hx
        have HY := hide hy
        clear hx hy
        by_cases hlt : x < q
        · have hli : (x : Int) < (q : Int) := by omega
          have hlt2 : x < q + y := by omega
          clear y0
          go_wp2_with (at_builtin; refine wpList_append_own _ rfl _ _ 61 rfl w.heap.size 22 i0 (.int .u32 0) 1 4 Tryz.underlying61 hi hz0 hz1 hz2 rfl (by decide) _ _ _ rfl (hown.alloc _) ⟨wr.heap.size, 0, none⟩ 1 1 [.int .u32 ((x : Int) + 4294967296 - (q : Int))] rfl rfl (one_cell _ _ _) (one_ok _) (by unfold maxLen; omega) (by omega) (by have := hbel.size; simp; omega) ?_; intro v' w1 hown' hgrow _)
          have R := Built.step (X := (x : Int) + 4294967296 - (q : Int)) (d := (x + 4294967296 - (q + y))) (unhide HB) (by have e1 := unhide Y0; omega) (by omega) (by rw [unhide HK]; exact hown') hgrow
          have S := Dg.minus_step xs ys os k q 1 x y (x + 4294967296 - (q + y)) (unhide HK) (unhide HX) (unhide HY) (by omega) (unhide HV)
          clear hown' hgrow hown
          go_wp2_with fail
          go_roundw
          case rel =>
            refine ⟨os ++ [(x + 4294967296 - (q + y))], 1, ?_, ?_, R, by omega, ?_, hide ?_⟩
            · go_num
            · rw [List.length_append, unhide HK]; go_num
            · rw [List.length_append, unhide HK]; simp; omega
            · rw [List.length_append, unhide HK]; exact S
          case measure => simp [intOf]; omega
        · have hli : ¬ (x : Int) < (q : Int) := by omega
          have hlt2 : ¬ x < q + y := by omega
          clear y0
          go_wp2_with (at_builtin; refine wpList_append_own _ rfl _ _ 61 rfl w.heap.size 22 i0 (.int .u32 0) 1 4 Tryz.underlying61 hi hz0 hz1 hz2 rfl (by decide) _ _ _ rfl (hown.alloc _) ⟨wr.heap.size, 0, none⟩ 1 1 [.int .u32 ((x : Int) - (q : Int))] rfl rfl (one_cell _ _ _) (one_ok _) (by unfold maxLen; omega) (by omega) (by have := hbel.size; simp; omega) ?_; intro v' w1 hown' hgrow _)
          have R := Built.step (X := (x : Int) - (q : Int)) (d := (x - (q + y))) (unhide HB) (by have e1 := unhide Y0; omega) (by omega) (by rw [unhide HK]; exact hown') hgrow
          have S := Dg.minus_step xs ys os k q 0 x y (x - (q + y)) (unhide HK) (unhide HX) (unhide HY) (by omega) (unhide HV)
          clear hown' hgrow hown
          go_wp2_with fail
          go_roundw
          case rel =>
            refine ⟨os ++ [(x - (q + y))], 0, ?_, ?_, R, by omega, ?_, hide ?_⟩
            · go_num
            · rw [List.length_append, unhide HK]; go_num
            · rw [List.length_append, unhide HK]; simp; omega
            · rw [List.length_append, unhide HK]; exact S
          case measure => simp [intOf]; omega
    · have hkx : k = xs.length := by omega
      have e : Dg.natOf os = Dg.natOf xs - Dg.natOf ys := by
        have hv := unhide HV
        rw [hkx] at hv
        exact Dg.minus_end xs ys os q (by rw [unhide HK, hkx]) (unhide HB).2.2 (unhide HDA) (unhide HN) (unhide HP) hq hv
      have hp : 0 < os.length := by
        rcases Nat.eq_zero_or_pos os.length with h | h
        · have e2 : os = [] := List.length_eq_zero_iff.1 h
          rw [e2] at e; simp [Dg.natOf] at e
          have := unhide HP; omega
        · exact h
      obtain ⟨bb, cp, rfl, f2, f3⟩ := (unhide HB).form hp
      rw [unhide HK] at f2
      have HDS := hide (unhide HB).2.2
      have T := hide (trim_any bb 0 cp xs.length os wr f3 (by rw [unhide HK]; exact hlen) (by omega) (by rw [unhide HK]; exact f2) (unhide HDS))
      rw [unhide HK] at T ⊢
      have HE := hide e
      clear e f3 hkx hp
      go_wp2_with fail
      refine (unhide T).mono ?_
      rintro e w2 ⟨⟨v, rfl, hv⟩, rfl⟩
      go_wp2_with fail
      go_ret
      rw [unhide HE] at hv
      exact ⟨⟨v, rfl, hv⟩, hbel⟩

/-- Minus: the difference. -/
theorem minus_any (a b : Value) (N M K : Nat) (hK : K ≤ 1000) (w : World) (ha : Num w a N K) (hb : Num w b M K) (hp : M < N) :
    Calls Tryz.prog 118 #[a, b] w fun e w' => (∃ v, e = .returned v ∧ Num w' v (N - M) K) ∧ Below w.heap.size w w' := by
  obtain ⟨b, o, xs, cap, rfl, a2, a3, a4, rfl, a6, a7⟩ := ha
  obtain ⟨b', o', ys, cap', rfl, b2, b3, b4, rfl, b6, b7⟩ := hb
  refine (minus_some b o cap b' o' cap' xs ys w a7 b7 (by omega) (by omega) a4 b4 b6 hp).mono ?_
  rintro e w' ⟨⟨v, rfl, hv⟩, hb⟩
  exact ⟨⟨v, rfl, hv.le (by omega)⟩, hb⟩

set_option maxRecDepth 100000 in
set_option maxHeartbeats 2000000 in
theorem twice_some (b o cap : Nat) (xs : List Nat) (K : Nat) (w : World) (ha : Lies w b o xs) (hlx : xs.length ≤ 1000) (hK : K ≤ 10000) (hda : ∀ d ∈ xs, d < 4294967296) :
    Calls Tryz.prog 103 #[.slice (some ⟨b, o, none⟩) xs.length cap, .int .i64 K] w fun e w' => (∃ v, e = .returned v ∧ Num w' v (Dg.natOf xs * 2 ^ K) (K / 32 + xs.length + 1)) ∧ Below w.heap.size w w' := by
  obtain ⟨hb1, hc1⟩ := ha
  have HC1 := hide hc1
  have HDA := hide hda
  clear hc1 hda
  obtain ⟨i0, hi, hz0, hz1, hz2⟩ := info_parts Tryz.infoU32
  go_enter Tryz.func103, Tryz.ntmps103
  go_wp2
  go_loopw [5, 6] (fun v i wr => ∃ j : Nat, i = .int .i64 j ∧ Built w wr v (List.replicate j 0) ∧ j ≤ K / 32) (fun _ i _ => K / 32 - (intOf i).toNat)
  case atStart => exact ⟨0, rfl, Built.nil w, by omega⟩
  case round =>
    obtain ⟨j, rfl, hB, hj⟩ := hrel
    have hown := hB.1
    have hbel := hB.2.1
    rw [List.length_replicate] at hown
    have HB := hide hB
    clear hB
    by_cases hlt : j < K / 32
    · have hji : (j : Int) < (K : Int) / 32 := by omega
      go_wp2_with (at_builtin; refine wpList_append_own _ rfl _ _ 61 rfl w.heap.size 22 i0 (.int .u32 0) 1 4 Tryz.underlying61 hi hz0 hz1 hz2 rfl (by decide) _ _ _ rfl (hown.alloc _) ⟨wr.heap.size, 0, none⟩ 1 1 [.int .u32 (0)] rfl rfl (one_cell _ _ _) (one_ok _) (by unfold maxLen; omega) (by omega) (by have := hbel.size; simp; omega) ?_; intro v' w1 hown' hgrow _)
      have R := Built.step (X := 0) (d := 0) (unhide HB) rfl (by omega) (by rw [List.length_replicate]; exact hown') hgrow
      rw [← List.replicate_succ'] at R
      clear hown' hgrow hown
      go_wp2_with fail
      go_roundw
      case rel => exact ⟨j + 1, by go_num, R, by omega⟩
      case measure => simp [intOf]; omega
    · have hji : ¬ (j : Int) < (K : Int) / 32 := by omega
      have HJ := hide (show j = K / 32 by omega)
      have HB0 := HB
      clear hown hbel HB
      have hj31 : j ≤ 400 := by omega
      go_wp2_with fail
      clear hji hlt
      go_loopw [5, 7, 8] (fun v c i wr => ∃ os : List Nat, ∃ q n : Nat, c = .int .u64 q ∧ i = .int .i64 n ∧ Hid (os.length = j + n) ∧ Built w wr v os ∧ q < 4294967296 ∧ n ≤ xs.length ∧ Hid (Dg.natOf os + 4294967296 ^ (j + n) * q = Dg.natOf (xs.take n) * 2 ^ K))
        (fun _ _ i _ => xs.length - (intOf i).toNat)
      case atStart => exact ⟨List.replicate j 0, 0, 0, rfl, rfl, hide (by simp), unhide HB0, by omega, by omega, hide (by simp [Dg.natOf, Dg.natOf_replicate])⟩
      case round =>
        obtain ⟨os, q, n, rfl, rfl, HK, hB, hq, hn, HV⟩ := hrel
        have hown := hB.1
        have hbel := hB.2.1
        rw [unhide HK] at hown
        have HB := hide hB
        clear hB HB0
        by_cases hlt : n < xs.length
        · have hni : (n : Int) < (xs.length : Int) := by omega
          have c1 : wr.cell? ⟨b, o + n, none⟩ = some (.int .u32 (xs.getD n 0)) := (hbel.cell (p := ⟨b, o + n, none⟩) hb1).trans (unhide HC1 n hlt)
          have l1 := Dg.getD_lt xs (unhide HDA) n
          obtain ⟨x, hx⟩ : ∃ x, xs.getD n 0 = x := ⟨_, rfl⟩
          rw [hx] at c1 l1
          have HX := hide hx
          have hr : ((K : Int) % 32).toNat = K % 32 := by omega
          have hp : 2 ^ (K % 32) ≤ 2 ^ 31 := Nat.pow_le_pow_right (by decide) (by omega)
          have hp2 : x * 2 ^ (K % 32) ≤ 4294967295 * 2 ^ 31 := Nat.mul_le_mul (by omega) hp
          obtain ⟨P, hP⟩ : ∃ P, P = x * 2 ^ (K % 32) := ⟨_, rfl⟩
          rw [← hP] at hp2
          have hw : IntKind.u64.wrap ((x : Int) * 2 ^ ((K : Int) % 32).toNat) = (P : Int) := by
            rw [hr, Flt.pow_cast, ← Int.natCast_mul, ← hP]
            exact wrap_u64_in _ (by omega) (by omega)
          have HP := hide hP
          clear hx hr hp hP
          go_wp2_with (at_builtin; refine wpList_append_own _ rfl _ _ 61 rfl w.heap.size 22 i0 (.int .u32 0) 1 4 Tryz.underlying61 hi hz0 hz1 hz2 rfl (by decide) _ _ _ rfl (hown.alloc _) ⟨wr.heap.size, 0, none⟩ 1 1 [.int .u32 (((P : Int) + (q : Int)) % 4294967296)] rfl rfl (one_cell _ _ _) (one_ok _) (by unfold maxLen; omega) (by omega) (by have := hbel.size; simp; omega) ?_; intro v' w1 hown' hgrow _)
          have R := Built.step (X := ((P : Int) + (q : Int)) % 4294967296) (d := (P + q) % 4294967296) (unhide HB) (by omega) (by omega) (by rw [unhide HK]; exact hown') hgrow
          have S := Dg.twice_step xs os n j (K % 32) K q x (unhide HK) (unhide HX) (by rw [unhide HJ]; omega) (unhide HV)
          rw [← unhide HP] at S
          clear hown' hgrow hown hw
          go_wp2_with fail
          go_roundw
          case rel =>
            refine ⟨os ++ [(P + q) % 4294967296], (P + q) / 4294967296, n + 1, by go_num, by go_num, hide ?_, R, by omega, by omega, hide S⟩
            rw [List.length_append, unhide HK]; simp; omega
          case measure => simp [intOf]; omega
        · have hni : ¬ (n : Int) < (xs.length : Int) := by omega
          go_wp2_with (at_builtin; refine wpList_append_own _ rfl _ _ 61 rfl w.heap.size 22 i0 (.int .u32 0) 1 4 Tryz.underlying61 hi hz0 hz1 hz2 rfl (by decide) _ _ _ rfl (hown.alloc _) ⟨wr.heap.size, 0, none⟩ 1 1 [.int .u32 ((q : Int))] rfl rfl (one_cell _ _ _) (one_ok _) (by unfold maxLen; omega) (by omega) (by have := hbel.size; simp; omega) ?_; intro v' w1 hown' hgrow _)
          have R := Built.step (X := (q : Int)) (d := q) (unhide HB) rfl hq (by rw [unhide HK]; exact hown') hgrow
          have hN : Dg.natOf (os ++ [q]) = Dg.natOf xs * 2 ^ K := by
            rw [Dg.natOf_snoc, unhide HK, unhide HV, Dg.natOf_take_ge xs n (by omega)]
          obtain ⟨bb, cp, rfl, f2, f3⟩ := R.form (by simp)
          have hlen : (os ++ [q]).length = j + n + 1 := by rw [List.length_append, unhide HK]; rfl
          have T := hide (trim_any bb 0 cp (K / 32 + xs.length + 1) (os ++ [q]) w1 f3 (by rw [hlen]; omega) (by omega) f2 R.2.2)
          rw [hlen] at T ⊢
          rw [hN] at T
          have hbel1 := R.2.1
          clear hown' hgrow hown R f3 f2 hN hlen
          go_wp2_with fail
          refine (unhide T).mono ?_
          rintro e w2 ⟨⟨v, rfl, hv⟩, rfl⟩
          go_wp2_with fail
          go_ret
          exact ⟨⟨v, rfl, hv⟩, hbel1⟩

/-- Twice: times a power of two. -/
theorem twice_any (a : Value) (N L K : Nat) (hL : L ≤ 1000) (hK : K ≤ 10000) (w : World) (ha : Num w a N L) :
    Calls Tryz.prog 103 #[a, .int .i64 K] w fun e w' => (∃ v, e = .returned v ∧ Num w' v (N * 2 ^ K) (K / 32 + L + 1)) ∧ Below w.heap.size w w' := by
  obtain ⟨b, o, xs, cap, rfl, a2, a3, a4, rfl, a6, a7⟩ := ha
  refine (twice_some b o cap xs K w a7 (by omega) hK a4).mono ?_
  rintro e w' ⟨⟨v, rfl, hv⟩, hb⟩
  exact ⟨⟨v, rfl, hv.le (by omega)⟩, hb⟩
end Go.Proofs.YtkbniebahledmabGreat

/-
  The walk of the document's product of whole numbers.
-/
namespace Go.Proofs.YtkbniebahledmabGreat
open Go.RowKit
set_option linter.unusedVariables false

/-- A row that the call itself made, of as many digits as it was made for. -/
def Made (w wr : World) (g n : Nat) (os : List Nat) : Prop :=
  os.length = n ∧ wr.ownsRow w.heap.size 22 1 (.slice (some ⟨g, 0, none⟩) n n) n (os.map fun (d : Nat) => Value.int .u32 (d : Int)) ∧ Below w.heap.size w wr ∧ (∀ d ∈ os, d < 4294967296) ∧ w.heap.size ≤ g
theorem Made.cell {w wr : World} {g n : Nat} {os : List Nat} (h : Made w wr g n os) (j : Nat) (hj : j < n) : wr.cell? ⟨g, j, none⟩ = some (.int .u32 (os.getD j 0)) := by
  have hl := h.1
  rw [h.2.1.cellAt j (by omega), List.getElem?_map, List.getElem?_eq_getElem (by omega), List.getD_eq_getElem?_getD, List.getElem?_eq_getElem (by omega)]; rfl
theorem Made.stored {w wr : World} {g n : Nat} {os : List Nat} (h : Made w wr g n os) (j : Nat) (X : Int) (d : Nat) (hX : X = (d : Int)) (hd : d < 4294967296) :
    Made w (wr.setCell ⟨g, j, none⟩ (.int .u32 X)) g n (os.set j d) := by
  obtain ⟨h1, h2, h3, h4, h5⟩ := h
  subst hX
  refine ⟨by simpa using h1, ?_, h3.setCell h5 _, ?_, h5⟩
  · have := (h2.stored j (.int .u32 (d : Int))).1
    rw [← List.map_set] at this
    exact this
  · intro x hx
    rcases List.mem_or_eq_of_mem_set hx with h | h
    · exact h4 x h
    · omega
theorem Made.drewN {w wr : World} {g n : Nat} {os : List Nat} (h : Made w wr g n os) (k : Nat) : Made w (wr.drewN k) g n os :=
  ⟨h.1, h.2.1, bl_drewN h.2.2.1 k, h.2.2.2.1, h.2.2.2.2⟩
theorem Made.lies {w wr : World} {g n : Nat} {os : List Nat} (h : Made w wr g n os) : Lies wr g 0 os := by
  refine ⟨(h.2.1.lt g rfl).2, fun i hi => ?_⟩
  have := h.cell i (by have := h.1; omega)
  simpa using this

set_option maxRecDepth 100000 in
set_option maxHeartbeats 2000000 in
theorem times_some (b o cap b' o' cap' : Nat) (xs ys : List Nat) (w : World) (ha : Lies w b o xs) (hb : Lies w b' o' ys) (hlx : xs.length ≤ 1000) (hly : ys.length ≤ 1000)
    (hda : ∀ d ∈ xs, d < 4294967296) (hdb : ∀ d ∈ ys, d < 4294967296) :
    Calls Tryz.prog 122 #[.slice (some ⟨b, o, none⟩) xs.length cap, .slice (some ⟨b', o', none⟩) ys.length cap'] w fun e w' => (∃ v, e = .returned v ∧ Num w' v (Dg.natOf xs * Dg.natOf ys) (xs.length + ys.length)) ∧ Below w.heap.size w w' := by
  obtain ⟨hb1, hc1⟩ := ha
  obtain ⟨hb2, hc2⟩ := hb
  have HC1 := hide hc1
  have HC2 := hide hc2
  have HDA := hide hda
  have HDB := hide hdb
  clear hc1 hc2 hda hdb
  obtain ⟨i0, hi, hz0, hz1, hz2⟩ := info_parts Tryz.infoU32
  go_enter Tryz.func122, Tryz.ntmps122
  go_wp2_with (at_make; refine wpList_make_full _ rfl _ _ 61 rfl w.heap.size 22 i0 (.int .u32 0) 1 Tryz.underlying61 hi hz0 hz1 _ _ _ _ (xs.length + ys.length) rfl rfl (by omega) (by omega) (by rw [hz2]; omega) (by unfold maxLen; omega) (Nat.le_refl _) ?_; intro w1 hown hgrow)
  have M0 : Made w w1 w.heap.size (xs.length + ys.length) (List.replicate (xs.length + ys.length) 0) := by
    refine ⟨by simp, ?_, ?_, ?_, Nat.le_refl _⟩
    · have e : (madeCells (Value.int .u32 0).cells ((xs.length + ys.length) * 1)).toList = (List.replicate (xs.length + ys.length) 0).map fun (d : Nat) => Value.int .u32 (d : Int) := by
        rw [Nat.mul_one, show (Value.int .u32 0).cells = #[Value.int .u32 0] from rfl, toList_madeCells_one, List.map_replicate]; rfl
      rw [← e]; exact hown
    · exact (Below.refl _ _).grown hgrow (Nat.le_refl _) (fun k hk => by cases hk)
    · intro d hd; rw [List.mem_replicate] at hd; omega
  have HM0 := hide M0
  clear M0 hown hgrow
  go_loopw [6] (fun i wr => ∃ os : List Nat, ∃ n : Nat, i = .int .i64 n ∧ n ≤ xs.length ∧ Made w wr w.heap.size (xs.length + ys.length) os ∧ Hid (Dg.natOf os = Dg.natOf (xs.take n) * Dg.natOf ys) ∧ Hid (∀ j, n + ys.length ≤ j → os.getD j 0 = 0))
    (fun i _ => xs.length - (intOf i).toNat)
  case atStart =>
    refine ⟨_, 0, rfl, by omega, unhide HM0, hide ?_, hide ?_⟩
    · rw [Dg.natOf_replicate]; simp [Dg.natOf]
    · intro j _
      rw [List.getD_eq_getElem?_getD, List.getElem?_replicate]; split <;> rfl
  case round =>
    obtain ⟨os, n, rfl, hn, hM, HV, HZ⟩ := hrel
    have hbel := hM.2.2.1
    have HM := hide hM
    clear hM HM0
    by_cases h1 : n < xs.length
    · have h1i : (n : Int) < (xs.length : Int) := by omega
      have l1 := Dg.getD_lt xs (unhide HDA) n
      obtain ⟨x, hx⟩ : ∃ x, xs.getD n 0 = x := ⟨_, rfl⟩
      rw [hx] at l1
      have HX := hide hx
      clear hx
      go_wp2_with fail
      go_loopw [7, 8] (fun c k wr => ∃ os2 : List Nat, ∃ q m : Nat, c = .int .u64 q ∧ k = .int .i64 m ∧ m ≤ ys.length ∧ q < 4294967296 ∧ Made w wr w.heap.size (xs.length + ys.length) os2 ∧ Hid (Dg.natOf os2 + 4294967296 ^ (n + m) * q = Dg.natOf os + 4294967296 ^ n * (x * Dg.natOf (ys.take m))) ∧ Hid (∀ j, n + ys.length ≤ j → os2.getD j 0 = 0))
        (fun _ k _ => ys.length - (intOf k).toNat)
      case atStart => exact ⟨os, 0, 0, rfl, rfl, by omega, by omega, unhide HM, hide (by simp [Dg.natOf]), HZ⟩
      case round =>
        obtain ⟨os2, q, m, rfl, rfl, hm, hq, hM2, HV2, HZ2⟩ := hrel
        have hbel2 := hM2.2.2.1
        have HM2 := hide hM2
        clear hM2
        by_cases h2 : m < ys.length
        · have h2i : (m : Int) < (ys.length : Int) := by omega
          have hnm : (n : Int) + (m : Int) < (xs.length : Int) + (ys.length : Int) := by omega
          have l2 := Dg.getD_lt ys (unhide HDB) m
          have l3 := Dg.getD_lt os2 (unhide HM2).2.2.2.1 (n + m)
          have c1 : wr.cell? ⟨b, o + n, none⟩ = some (.int .u32 (xs.getD n 0)) := (hbel2.cell (p := ⟨b, o + n, none⟩) hb1).trans (unhide HC1 n h1)
          have c2 : wr.cell? ⟨b', o' + m, none⟩ = some (.int .u32 (ys.getD m 0)) := (hbel2.cell (p := ⟨b', o' + m, none⟩) hb2).trans (unhide HC2 m h2)
          have c3 : wr.cell? ⟨w.heap.size, n + m, none⟩ = some (.int .u32 (os2.getD (n + m) 0)) := (unhide HM2).cell (n + m) (by omega)
          have z3 : wr.frozen? ⟨w.heap.size, n + m, none⟩ = false := (unhide HM2).2.1.frozenAt (n + m)
          rw [unhide HX] at c1
          obtain ⟨y, hy⟩ : ∃ y, ys.getD m 0 = y := ⟨_, rfl⟩
          obtain ⟨d, hd⟩ : ∃ d, os2.getD (n + m) 0 = d := ⟨_, rfl⟩
          rw [hy] at c2 l2
          rw [hd] at c3 l3
          obtain ⟨p, hp⟩ : ∃ p, p = x * y := ⟨_, rfl⟩
          have hp2 : p ≤ 4294967295 * 4294967295 := by rw [hp]; exact Nat.mul_le_mul (by omega) (by omega)
          have hw : IntKind.u64.wrap ((x : Int) * (y : Int)) = (p : Int) := by
            rw [← Int.natCast_mul, ← hp]; exact wrap_u64_in _ (by omega) (by omega)
          have HY := hide hy
          have HD := hide hd
          have HP := hide hp
          clear hy hd hp
          go_wp2_with fail
          go_quiet (fail)
          go_wp2_with fail
          have S := Dg.times_step os os2 ys n m q x y d (by rw [(unhide HM2).1]; omega) (unhide HY) (unhide HD) (unhide HV2)
          rw [← unhide HP] at S
          refine ⟨⟨os2.set (n + m) ((p + d + q) % 4294967296), (p + d + q) / 4294967296, m + 1, by go_num, by go_num, by omega, by omega, ((unhide HM2).drewN nq).stored (n + m) _ _ (by omega) (by omega), hide S, hide ?_⟩, ?_⟩
          · intro j hj
            rw [Dg.getD_set_far _ _ _ _ (by omega)]; exact unhide HZ2 j hj
          · simp [intOf]; omega
        · have h2i : ¬ (m : Int) < (ys.length : Int) := by omega
          have hmE : m = ys.length := by omega
          have hnm : (n : Int) + (ys.length : Int) < (xs.length : Int) + (ys.length : Int) := by omega
          have c3 : wr.cell? ⟨w.heap.size, n + ys.length, none⟩ = some (.int .u32 (os2.getD (n + ys.length) 0)) := (unhide HM2).cell (n + ys.length) (by omega)
          have z3 : wr.frozen? ⟨w.heap.size, n + ys.length, none⟩ = false := (unhide HM2).2.1.frozenAt (n + ys.length)
          have HME := hide hmE
          clear hmE
          go_wp2_with fail
          have hv2 := unhide HV2
          rw [unhide HME] at hv2
          have S := Dg.times_end os os2 xs ys n q x (by rw [(unhide HM2).1]; omega) (unhide HX) (unhide HZ2 _ (Nat.le_refl _)) (unhide HV) hv2
          refine ⟨⟨os2.set (n + ys.length) q, n + 1, by go_num, by omega, (unhide HM2).stored (n + ys.length) _ _ rfl hq, hide S, hide ?_⟩, ?_⟩
          · intro j hj
            rw [Dg.getD_set_far _ _ _ _ (by omega)]; exact unhide HZ2 j (by omega)
          · simp [intOf]; omega
    · have h1i : ¬ (n : Int) < (xs.length : Int) := by omega
      have e : Dg.natOf os = Dg.natOf xs * Dg.natOf ys := by
        rw [unhide HV, Dg.natOf_take_ge xs n (by omega)]
      have hM := unhide HM
      have T := hide (trim_any w.heap.size 0 (xs.length + ys.length) (xs.length + ys.length) os wr hM.lies (by rw [hM.1]; exact Nat.le_refl _) (by omega) (by rw [hM.1]; exact Nat.le_refl _) hM.2.2.2.1)
      rw [hM.1, e] at T
      clear e hM
      go_wp2_with fail
      refine (unhide T).mono ?_
      rintro e w2 ⟨⟨v, rfl, hv⟩, rfl⟩
      go_wp2_with fail
      go_ret
      exact ⟨⟨v, rfl, hv⟩, hbel⟩

/-- Times: the product. -/
theorem times_any (a b : Value) (N M K L : Nat) (hK : K ≤ 1000) (hL : L ≤ 1000) (w : World) (ha : Num w a N K) (hb : Num w b M L) :
    Calls Tryz.prog 122 #[a, b] w fun e w' => (∃ v, e = .returned v ∧ Num w' v (N * M) (K + L)) ∧ Below w.heap.size w w' := by
  obtain ⟨b, o, xs, cap, rfl, a2, a3, a4, rfl, a6, a7⟩ := ha
  obtain ⟨b', o', ys, cap', rfl, b2, b3, b4, rfl, b6, b7⟩ := hb
  refine (times_some b o cap b' o' cap' xs ys w a7 b7 (by omega) (by omega) a4 b4).mono ?_
  rintro e w' ⟨⟨v, rfl, hv⟩, hb⟩
  exact ⟨⟨v, rfl, hv.le (by omega)⟩, hb⟩
end Go.Proofs.YtkbniebahledmabGreat

/-
  Walks of the document's amounts, its search for a float, and its rounding.
-/
namespace Go.Proofs.YtkbniebahledmabGreat
open Go.RowKit
set_option linter.unusedVariables false

theorem Num.cast {w : World} {v : Value} {N N' K : Nat} (h : Num w v N K) (e : N = N') : Num w v N' K := e ▸ h

set_option maxRecDepth 100000 in
set_option maxHeartbeats 1000000 in
/-- Amount: of bits without a sign. -/
theorem amount_any (m : Nat) (hm : m ≤ 2139095041) (w : World) :
    Calls Tryz.prog 101 #[.int .u32 m] w fun e w' => (∃ v, e = .returned v ∧ Num w' v (Flt.A m) 12) ∧ Below w.heap.size w w' := by
  by_cases h : m < 8388608
  · have h0 : (m : Int) / 8388608 = 0 := by omega
    have h1 : (m : Int) % 8388608 = (m : Int) := by omega
    go_enter Tryz.func101, Tryz.ntmps101
    go_wp2_with fail
    refine (of_any (m : Int) (by omega) (by omega) _).mono ?_
    rintro e w1 ⟨⟨v, rfl, hv⟩, hb1⟩
    go_wp2_with fail
    go_ret
    refine ⟨⟨v, rfl, ?_⟩, hb1⟩
    refine (hv.cast ?_).le (by omega)
    unfold Flt.A
    rw [if_pos h]; omega
  · have hne : ¬ (m : Int) / 8388608 = 0 := by omega
    have hne' : ((m : Int) / 8388608 == 0) = false := by simp [hne]
    have hq1 : (1 : Int) ≤ (m : Int) / 8388608 := by omega
    have hq2 : (m : Int) / 8388608 ≤ 255 := by omega
    clear hne
    go_enter Tryz.func101, Tryz.ntmps101
    go_wp2_with fail
    refine (of_any _ (by omega) (by omega) _).mono ?_
    rintro e w1 ⟨⟨v, rfl, hv⟩, hb1⟩
    go_wp2_with fail
    rw [show (m : Int) / 8388608 - 1 = ((m / 8388608 - 1 : Nat) : Int) by omega]
    refine (twice_any v _ 2 (m / 8388608 - 1) (by omega) (by omega) _ hv).mono ?_
    rintro e w2 ⟨⟨v2, rfl, hv2⟩, hb2⟩
    go_wp2_with fail
    go_ret
    refine ⟨⟨v2, rfl, ?_⟩, bl_tr hb1 hb2⟩
    refine (hv2.cast ?_).le (by omega)
    unfold Flt.A
    rw [if_neg h]; congr 1

theorem cmpN_le (N M : Nat) : cmpN N M ≤ 0 ↔ N ≤ M := by unfold cmpN; (repeat' split) <;> omega
theorem cmpN_eq (N M : Nat) : cmpN N M = 0 ↔ N = M := by unfold cmpN; (repeat' split) <;> omega
theorem cmpN_lt (N M : Nat) : cmpN N M < 0 ↔ N < M := by unfold cmpN; (repeat' split) <;> omega

set_option maxRecDepth 100000 in
set_option maxHeartbeats 2000000 in
/-- least: the greatest float whose amount, times q, is at most p. -/
theorem least_any (p q : Value) (P Q K : Nat) (hK : K ≤ 500) (hQ : 0 < Q) (w : World) (hp : Num w p P K) (hq : Num w q Q K) :
    Calls Tryz.prog 121 #[p, q] w fun e w' => (∃ m : Nat, e = .returned (.int .u32 m) ∧ Flt.IsFl P Q m) ∧ Below w.heap.size w w' := by
  have HP := hide hp
  have HQ := hide hq
  clear hp hq
  go_enter Tryz.func121, Tryz.ntmps121
  go_wp2_with fail
  go_loopw [5, 6] (fun lo hi wr => ∃ l h : Nat, lo = .int .u32 l ∧ hi = .int .u32 h ∧ l < h ∧ h ≤ 2139095041 ∧ Hid (Flt.A l * Q ≤ P) ∧ Hid (h = 2139095041 ∨ P < Flt.A h * Q) ∧ Below w.heap.size w wr)
    (fun lo hi _ => (intOf hi).toNat - (intOf lo).toNat)
  case atStart => exact ⟨0, 2139095041, rfl, rfl, by omega, by omega, hide (by rw [Flt.A_zero]; omega), hide (.inl rfl), Below.refl _ _⟩
  case round =>
    obtain ⟨l, h, rfl, rfl, hlt, hh, HL, HH, hbel⟩ := hrel
    by_cases hgo : 1 < h - l
    · have hgi : (1 : Int) < (h : Int) - (l : Int) := by omega
      obtain ⟨mm, hmm⟩ : ∃ mm, l + (h - l) / 2 = mm := ⟨_, rfl⟩
      have hmi : (l : Int) + ((h : Int) - (l : Int)) / 2 = (mm : Int) := by omega
      have m1 : l < mm := by omega
      have m2 : mm < h := by omega
      have HMM := hide hmm
      clear hmm
      go_wp2_with fail
      refine (amount_any mm (by omega) _).mono ?_
      rintro e w1 ⟨⟨v1, rfl, hv1⟩, hb1⟩
      go_wp2_with fail
      refine (times_any v1 q _ Q 12 K (by omega) (by omega) _ hv1 ((unhide HQ).below (bl_tr hbel hb1))).mono ?_
      rintro e w2 ⟨⟨v2, rfl, hv2⟩, hb2⟩
      go_wp2_with fail
      refine (compare_any v2 p _ P (12 + K) (by omega) _ hv2 (((unhide HP).below (bl_tr (bl_tr hbel hb1) hb2)).le (by omega))).mono ?_
      rintro e w3 ⟨rfl, hb3⟩
      have hbel3 := bl_tr (bl_tr (bl_tr hbel hb1) hb2) hb3
      by_cases hc : Flt.A mm * Q ≤ P
      · have hcm := (cmpN_le (Flt.A mm * Q) P).2 hc
        generalize cmpN (Flt.A mm * Q) P = c at hcm ⊢
        have HC := hide hc
        clear hc
        go_wp2_with fail
        go_roundw
        case rel => exact ⟨mm, h, rfl, rfl, m2, hh, HC, HH, hbel3⟩
        case measure => simp [intOf]; omega
      · have hcm : ¬ cmpN (Flt.A mm * Q) P ≤ 0 := fun h => hc ((cmpN_le _ _).1 h)
        generalize cmpN (Flt.A mm * Q) P = c at hcm ⊢
        have HC := hide hc
        clear hc
        go_wp2_with fail
        go_roundw
        case rel => exact ⟨l, mm, rfl, rfl, m1, by omega, HL, hide (.inr (by have := unhide HC; omega)), hbel3⟩
        case measure => simp [intOf]; omega
    · have hgi : ¬ (1 : Int) < (h : Int) - (l : Int) := by omega
      have hE : h = l + 1 := by omega
      go_wp2_with fail
      go_ret
      refine ⟨⟨l, rfl, by omega, unhide HL, fun hl => ?_⟩, hbel⟩
      rcases unhide HH with h1 | h1
      · omega
      · rw [hE] at h1; exact h1
end Go.Proofs.YtkbniebahledmabGreat

/-
  The walk of the document's rounding.
-/
namespace Go.Proofs.YtkbniebahledmabGreat
open Go.RowKit
set_option linter.unusedVariables false

set_option maxRecDepth 100000 in
set_option maxHeartbeats 2000000 in
theorem rounded_1_false (p q : Value) (P Q K : Nat) (hK : K ≤ 400) (hQ : 0 < Q) (w : World) (hp : Num w p P K) (hq : Num w q Q K) :
    Calls Tryz.prog 104 #[.int .i64 1, .bool false, p, q] w fun e w' => (∃ r : Nat, e = .returned (.int .u32 (Flt.signBit false + (r : Int))) ∧ Flt.RN 1 false P Q r) ∧ Below w.heap.size w w' := by
  have HP := hide hp
  have HQ := hide hq
  clear hp hq
  go_enter Tryz.func104, Tryz.ntmps104
  go_wp2_with fail
  refine (least_any p q P Q K (by omega) hQ _ (unhide HP) (unhide HQ)).mono ?_
  rintro e x1 ⟨⟨m, rfl, hfl⟩, hb1⟩
  have hm := hfl.1
  have HF := hide hfl
  clear hfl
  go_wp2_with fail
  refine (amount_any m (by omega) _).mono ?_
  rintro e x2 ⟨⟨v2, rfl, hv2⟩, hb2⟩
  have hbel2 := bl_tr hb1 hb2
  go_wp2_with fail
  refine (times_any v2 q _ Q 12 K (by omega) (by omega) _ hv2 ((unhide HQ).below hbel2)).mono ?_
  rintro e x3 ⟨⟨v3, rfl, hv3⟩, hb3⟩
  have hbel3 := bl_tr hbel2 hb3
  go_wp2_with fail
  refine (compare_any v3 p _ P (12 + K) (by omega) _ hv3 (((unhide HP).below hbel3).le (by omega))).mono ?_
  rintro e x4 ⟨rfl, hb4⟩
  have hbel4 := bl_tr hbel3 hb4
  have hcz := cmpN_eq (Flt.A m * Q) P
  generalize cmpN (Flt.A m * Q) P = c at hcz ⊢
  have HCZ := hide hcz
  clear hcz hv2 hv3 hb1 hb2 hb3 hb4
  by_cases hI : m = 2139095040
  · subst hI
    go_wp2_with fail
    go_ret
    refine ⟨⟨2139095040, ret_int ?_, 2139095040, unhide HF, ?_⟩, hbel4⟩
    · simp [Flt.signBit]
    · have hiw : Flt.inW 1 false = false := by rfl
      unfold Flt.pick; rw [if_pos rfl]; simp [hiw]
  · have hI' : ((m : Int) == 2139095040) = false := by simp; omega
    by_cases hx : c = 0
    · have hx' : (c == 0) = true := by simp [hx]
      have hA := (unhide HCZ).1 hx
      have HA := hide hA
      clear hx hA
      go_wp2_with fail
      go_ret
      refine ⟨⟨m, ret_int ?_, m, unhide HF, ?_⟩, hbel4⟩
      · simp [Flt.signBit]
      · unfold Flt.pick; rw [if_neg hI, if_pos (.inl (unhide HA))]
    · have hx' : (c == 0) = false := by simp [hx]
      have hA : ¬ Flt.A m * Q = P := fun h => hx ((unhide HCZ).2 h)
      have HA := hide hA
      clear hx hA
      go_wp2_with fail
      go_ret
      refine ⟨⟨m + 1, ret_int ?_, m, unhide HF, ?_⟩, hbel4⟩
      · first | (simp [Flt.signBit]; done) | (simp [Flt.signBit]; omega)
      · have hiw : Flt.inW 1 false = false := by rfl
        have how : Flt.outW 1 false = true := by rfl
        unfold Flt.pick; rw [if_neg hI, if_neg (by rw [hiw]; exact fun h => h.elim (unhide HA) (by simp)), if_pos how]

set_option maxRecDepth 100000 in
set_option maxHeartbeats 2000000 in
theorem rounded_1_true (p q : Value) (P Q K : Nat) (hK : K ≤ 400) (hQ : 0 < Q) (w : World) (hp : Num w p P K) (hq : Num w q Q K) :
    Calls Tryz.prog 104 #[.int .i64 1, .bool true, p, q] w fun e w' => (∃ r : Nat, e = .returned (.int .u32 (Flt.signBit true + (r : Int))) ∧ Flt.RN 1 true P Q r) ∧ Below w.heap.size w w' := by
  have HP := hide hp
  have HQ := hide hq
  clear hp hq
  go_enter Tryz.func104, Tryz.ntmps104
  go_wp2_with fail
  refine (least_any p q P Q K (by omega) hQ _ (unhide HP) (unhide HQ)).mono ?_
  rintro e x1 ⟨⟨m, rfl, hfl⟩, hb1⟩
  have hm := hfl.1
  have HF := hide hfl
  clear hfl
  go_wp2_with fail
  refine (amount_any m (by omega) _).mono ?_
  rintro e x2 ⟨⟨v2, rfl, hv2⟩, hb2⟩
  have hbel2 := bl_tr hb1 hb2
  go_wp2_with fail
  refine (times_any v2 q _ Q 12 K (by omega) (by omega) _ hv2 ((unhide HQ).below hbel2)).mono ?_
  rintro e x3 ⟨⟨v3, rfl, hv3⟩, hb3⟩
  have hbel3 := bl_tr hbel2 hb3
  go_wp2_with fail
  refine (compare_any v3 p _ P (12 + K) (by omega) _ hv3 (((unhide HP).below hbel3).le (by omega))).mono ?_
  rintro e x4 ⟨rfl, hb4⟩
  have hbel4 := bl_tr hbel3 hb4
  have hcz := cmpN_eq (Flt.A m * Q) P
  generalize cmpN (Flt.A m * Q) P = c at hcz ⊢
  have HCZ := hide hcz
  clear hcz hv2 hv3 hb1 hb2 hb3 hb4
  by_cases hI : m = 2139095040
  · subst hI
    go_wp2_with fail
    go_ret
    refine ⟨⟨2139095039, ret_int ?_, 2139095040, unhide HF, ?_⟩, hbel4⟩
    · simp [Flt.signBit]
    · have hiw : Flt.inW 1 true = true := by rfl
      unfold Flt.pick; rw [if_pos rfl]; simp [hiw]
  · have hI' : ((m : Int) == 2139095040) = false := by simp; omega
    by_cases hx : c = 0
    · have hx' : (c == 0) = true := by simp [hx]
      clear hx
      go_wp2_with fail
      go_ret
      refine ⟨⟨m, ret_int ?_, m, unhide HF, ?_⟩, hbel4⟩
      · simp [Flt.signBit]
      · have hiw : Flt.inW 1 true = true := by rfl
        unfold Flt.pick; rw [if_neg hI, if_pos (.inr hiw)]
    · have hx' : (c == 0) = false := by simp [hx]
      clear hx
      go_wp2_with fail
      go_ret
      refine ⟨⟨m, ret_int ?_, m, unhide HF, ?_⟩, hbel4⟩
      · simp [Flt.signBit]
      · have hiw : Flt.inW 1 true = true := by rfl
        unfold Flt.pick; rw [if_neg hI, if_pos (.inr hiw)]

set_option maxRecDepth 100000 in
set_option maxHeartbeats 2000000 in
theorem rounded_2_false (p q : Value) (P Q K : Nat) (hK : K ≤ 400) (hQ : 0 < Q) (w : World) (hp : Num w p P K) (hq : Num w q Q K) :
    Calls Tryz.prog 104 #[.int .i64 2, .bool false, p, q] w fun e w' => (∃ r : Nat, e = .returned (.int .u32 (Flt.signBit false + (r : Int))) ∧ Flt.RN 2 false P Q r) ∧ Below w.heap.size w w' := by
  have HP := hide hp
  have HQ := hide hq
  clear hp hq
  go_enter Tryz.func104, Tryz.ntmps104
  go_wp2_with fail
  refine (least_any p q P Q K (by omega) hQ _ (unhide HP) (unhide HQ)).mono ?_
  rintro e x1 ⟨⟨m, rfl, hfl⟩, hb1⟩
  have hm := hfl.1
  have HF := hide hfl
  clear hfl
  go_wp2_with fail
  refine (amount_any m (by omega) _).mono ?_
  rintro e x2 ⟨⟨v2, rfl, hv2⟩, hb2⟩
  have hbel2 := bl_tr hb1 hb2
  go_wp2_with fail
  refine (times_any v2 q _ Q 12 K (by omega) (by omega) _ hv2 ((unhide HQ).below hbel2)).mono ?_
  rintro e x3 ⟨⟨v3, rfl, hv3⟩, hb3⟩
  have hbel3 := bl_tr hbel2 hb3
  go_wp2_with fail
  refine (compare_any v3 p _ P (12 + K) (by omega) _ hv3 (((unhide HP).below hbel3).le (by omega))).mono ?_
  rintro e x4 ⟨rfl, hb4⟩
  have hbel4 := bl_tr hbel3 hb4
  have hcz := cmpN_eq (Flt.A m * Q) P
  generalize cmpN (Flt.A m * Q) P = c at hcz ⊢
  have HCZ := hide hcz
  clear hcz hv2 hv3 hb1 hb2 hb3 hb4
  by_cases hI : m = 2139095040
  · subst hI
    go_wp2_with fail
    go_ret
    refine ⟨⟨2139095039, ret_int ?_, 2139095040, unhide HF, ?_⟩, hbel4⟩
    · simp [Flt.signBit]
    · have hiw : Flt.inW 2 false = true := by rfl
      unfold Flt.pick; rw [if_pos rfl]; simp [hiw]
  · have hI' : ((m : Int) == 2139095040) = false := by simp; omega
    by_cases hx : c = 0
    · have hx' : (c == 0) = true := by simp [hx]
      clear hx
      go_wp2_with fail
      go_ret
      refine ⟨⟨m, ret_int ?_, m, unhide HF, ?_⟩, hbel4⟩
      · simp [Flt.signBit]
      · have hiw : Flt.inW 2 false = true := by rfl
        unfold Flt.pick; rw [if_neg hI, if_pos (.inr hiw)]
    · have hx' : (c == 0) = false := by simp [hx]
      clear hx
      go_wp2_with fail
      go_ret
      refine ⟨⟨m, ret_int ?_, m, unhide HF, ?_⟩, hbel4⟩
      · simp [Flt.signBit]
      · have hiw : Flt.inW 2 false = true := by rfl
        unfold Flt.pick; rw [if_neg hI, if_pos (.inr hiw)]

set_option maxRecDepth 100000 in
set_option maxHeartbeats 2000000 in
theorem rounded_2_true (p q : Value) (P Q K : Nat) (hK : K ≤ 400) (hQ : 0 < Q) (w : World) (hp : Num w p P K) (hq : Num w q Q K) :
    Calls Tryz.prog 104 #[.int .i64 2, .bool true, p, q] w fun e w' => (∃ r : Nat, e = .returned (.int .u32 (Flt.signBit true + (r : Int))) ∧ Flt.RN 2 true P Q r) ∧ Below w.heap.size w w' := by
  have HP := hide hp
  have HQ := hide hq
  clear hp hq
  go_enter Tryz.func104, Tryz.ntmps104
  go_wp2_with fail
  refine (least_any p q P Q K (by omega) hQ _ (unhide HP) (unhide HQ)).mono ?_
  rintro e x1 ⟨⟨m, rfl, hfl⟩, hb1⟩
  have hm := hfl.1
  have HF := hide hfl
  clear hfl
  go_wp2_with fail
  refine (amount_any m (by omega) _).mono ?_
  rintro e x2 ⟨⟨v2, rfl, hv2⟩, hb2⟩
  have hbel2 := bl_tr hb1 hb2
  go_wp2_with fail
  refine (times_any v2 q _ Q 12 K (by omega) (by omega) _ hv2 ((unhide HQ).below hbel2)).mono ?_
  rintro e x3 ⟨⟨v3, rfl, hv3⟩, hb3⟩
  have hbel3 := bl_tr hbel2 hb3
  go_wp2_with fail
  refine (compare_any v3 p _ P (12 + K) (by omega) _ hv3 (((unhide HP).below hbel3).le (by omega))).mono ?_
  rintro e x4 ⟨rfl, hb4⟩
  have hbel4 := bl_tr hbel3 hb4
  have hcz := cmpN_eq (Flt.A m * Q) P
  generalize cmpN (Flt.A m * Q) P = c at hcz ⊢
  have HCZ := hide hcz
  clear hcz hv2 hv3 hb1 hb2 hb3 hb4
  by_cases hI : m = 2139095040
  · subst hI
    go_wp2_with fail
    go_ret
    refine ⟨⟨2139095040, ret_int ?_, 2139095040, unhide HF, ?_⟩, hbel4⟩
    · simp [Flt.signBit]
    · have hiw : Flt.inW 2 true = false := by rfl
      unfold Flt.pick; rw [if_pos rfl]; simp [hiw]
  · have hI' : ((m : Int) == 2139095040) = false := by simp; omega
    by_cases hx : c = 0
    · have hx' : (c == 0) = true := by simp [hx]
      have hA := (unhide HCZ).1 hx
      have HA := hide hA
      clear hx hA
      go_wp2_with fail
      go_ret
      refine ⟨⟨m, ret_int ?_, m, unhide HF, ?_⟩, hbel4⟩
      · simp [Flt.signBit]
      · unfold Flt.pick; rw [if_neg hI, if_pos (.inl (unhide HA))]
    · have hx' : (c == 0) = false := by simp [hx]
      have hA : ¬ Flt.A m * Q = P := fun h => hx ((unhide HCZ).2 h)
      have HA := hide hA
      clear hx hA
      go_wp2_with fail
      go_ret
      refine ⟨⟨m + 1, ret_int ?_, m, unhide HF, ?_⟩, hbel4⟩
      · first | (simp [Flt.signBit]; done) | (simp [Flt.signBit]; omega)
      · have hiw : Flt.inW 2 true = false := by rfl
        have how : Flt.outW 2 true = true := by rfl
        unfold Flt.pick; rw [if_neg hI, if_neg (by rw [hiw]; exact fun h => h.elim (unhide HA) (by simp)), if_pos how]

set_option maxRecDepth 100000 in
set_option maxHeartbeats 2000000 in
theorem rounded_o_false (way : Int) (w1 : (way == 1) = false) (w2 : (way == 2) = false) (p q : Value) (P Q K : Nat) (hK : K ≤ 400) (hQ : 0 < Q) (w : World) (hp : Num w p P K) (hq : Num w q Q K) :
    Calls Tryz.prog 104 #[.int .i64 way, .bool false, p, q] w fun e w' => (∃ r : Nat, e = .returned (.int .u32 (Flt.signBit false + (r : Int))) ∧ Flt.RN way false P Q r) ∧ Below w.heap.size w w' := by
  have HP := hide hp
  have HQ := hide hq
  clear hp hq
  go_enter Tryz.func104, Tryz.ntmps104
  go_wp2_with fail
  refine (least_any p q P Q K (by omega) hQ _ (unhide HP) (unhide HQ)).mono ?_
  rintro e x1 ⟨⟨m, rfl, hfl⟩, hb1⟩
  have hm := hfl.1
  have HF := hide hfl
  clear hfl
  go_wp2_with fail
  refine (amount_any m (by omega) _).mono ?_
  rintro e x2 ⟨⟨v2, rfl, hv2⟩, hb2⟩
  have hbel2 := bl_tr hb1 hb2
  go_wp2_with fail
  refine (times_any v2 q _ Q 12 K (by omega) (by omega) _ hv2 ((unhide HQ).below hbel2)).mono ?_
  rintro e x3 ⟨⟨v3, rfl, hv3⟩, hb3⟩
  have hbel3 := bl_tr hbel2 hb3
  go_wp2_with fail
  refine (compare_any v3 p _ P (12 + K) (by omega) _ hv3 (((unhide HP).below hbel3).le (by omega))).mono ?_
  rintro e x4 ⟨rfl, hb4⟩
  have hbel4 := bl_tr hbel3 hb4
  have hcz := cmpN_eq (Flt.A m * Q) P
  generalize cmpN (Flt.A m * Q) P = c at hcz ⊢
  have HCZ := hide hcz
  clear hcz hv2 hv3 hb1 hb2 hb3 hb4
  by_cases hI : m = 2139095040
  · subst hI
    go_wp2_with fail
    go_ret
    refine ⟨⟨2139095040, ret_int ?_, 2139095040, unhide HF, ?_⟩, hbel4⟩
    · simp [Flt.signBit]
    · have hiw : Flt.inW way false = false := by unfold Flt.inW; simp [WalkArith.int_ne w1, WalkArith.int_ne w2]
      unfold Flt.pick; rw [if_pos rfl]; simp [hiw]
  · have hI' : ((m : Int) == 2139095040) = false := by simp; omega
    by_cases hx : c = 0
    · have hx' : (c == 0) = true := by simp [hx]
      have hA := (unhide HCZ).1 hx
      have HA := hide hA
      clear hx hA
      go_wp2_with fail
      go_ret
      refine ⟨⟨m, ret_int ?_, m, unhide HF, ?_⟩, hbel4⟩
      · simp [Flt.signBit]
      · unfold Flt.pick; rw [if_neg hI, if_pos (.inl (unhide HA))]
    · have hx' : (c == 0) = false := by simp [hx]
      have hA : ¬ Flt.A m * Q = P := fun h => hx ((unhide HCZ).2 h)
      have HA := hide hA
      clear hx hA
      go_wp2_with fail
      refine (amount_any m (by omega) _).mono ?_
      rintro e x5 ⟨⟨v5, rfl, hv5⟩, hb5⟩
      have hbel5 := bl_tr hbel4 hb5
      go_wp2_with fail
      rw [show (m : Int) + 1 = ((m + 1 : Nat) : Int) by omega]
      refine (amount_any (m + 1) (by omega) _).mono ?_
      rintro e x6 ⟨⟨v6, rfl, hv6⟩, hb6⟩
      have hbel6 := bl_tr hbel5 hb6
      go_wp2_with fail
      refine (plus_any v5 v6 _ _ 12 (by omega) _ (hv5.below hb6) hv6 (by have := Flt.A_lt_succ m; omega)).mono ?_
      rintro e x7 ⟨⟨v7, rfl, hv7⟩, hb7⟩
      have hbel7 := bl_tr hbel6 hb7
      go_wp2_with fail
      refine (times_any v7 q _ Q 13 K (by omega) (by omega) _ hv7 ((unhide HQ).below hbel7)).mono ?_
      rintro e x8 ⟨⟨v8, rfl, hv8⟩, hb8⟩
      have hbel8 := bl_tr hbel7 hb8
      go_wp2_with fail
      refine (twice_any p P K 1 (by omega) (by omega) _ ((unhide HP).below hbel8)).mono ?_
      rintro e x9 ⟨⟨v9, rfl, hv9⟩, hb9⟩
      have hbel9 := bl_tr hbel8 hb9
      go_wp2_with fail
      refine (compare_any v8 v9 _ _ (14 + K) (by omega) _ ((hv8.below hb9).le (by omega)) (hv9.le (by omega))).mono ?_
      rintro e x10 ⟨rfl, hb10⟩
      have hbel10 := bl_tr hbel9 hb10
      have hc1 := cmpN_lt ((Flt.A m + Flt.A (m + 1)) * Q) (P * 2 ^ 1)
      have hc2 := cmpN_eq ((Flt.A m + Flt.A (m + 1)) * Q) (P * 2 ^ 1)
      generalize cmpN ((Flt.A m + Flt.A (m + 1)) * Q) (P * 2 ^ 1) = d at hc1 hc2 ⊢
      rw [show P * 2 ^ 1 = 2 * P by omega] at hc1 hc2
      have HC1 := hide hc1
      have HC2 := hide hc2
      clear hc1 hc2 hv5 hv6 hv7 hv8 hv9 hb5 hb6 hb7 hb8 hb9 hb10
      have hiw : Flt.inW way false = false := by unfold Flt.inW; simp [WalkArith.int_ne w1, WalkArith.int_ne w2]
      have how : Flt.outW way false = false := by unfold Flt.outW; simp [WalkArith.int_ne w1, WalkArith.int_ne w2]
      have pk : ∀ u : Prop, ∀ [Decidable u], (u ↔ ((Flt.A m + Flt.A (m + 1)) * Q < 2 * P ∨ ((Flt.A m + Flt.A (m + 1)) * Q = 2 * P ∧ m % 2 = 1))) → Flt.pick way false P Q m = if u then m + 1 else m := by
        intro u _ hu
        unfold Flt.pick
        rw [if_neg hI, if_neg (by rw [hiw]; exact fun h => h.elim (unhide HA) (by simp)), if_neg (by rw [how]; simp)]
        by_cases hq : u
        · rw [if_pos hq, if_pos (hu.1 hq)]
        · rw [if_neg hq, if_neg (fun h => hq (hu.2 h))]
      have PK := hide pk
      clear pk hiw how
      rcases Int.lt_trichotomy d 0 with hd | hd | hd
      · go_wp2_with fail
        go_ret
        refine ⟨⟨m + 1, ret_int ?_, m, unhide HF, ?_⟩, hbel10⟩
        · first | (simp [Flt.signBit]; done) | (simp [Flt.signBit]; omega)
        · rw [unhide PK True (by simp; exact .inl ((unhide HC1).1 hd))]; simp
      · have hd0 : (d == 0) = true := by simp [hd]
        have hd1 : ¬ d < 0 := by omega
        have HD := hide hd
        clear hd
        by_cases hodd : m % 2 = 1
        · have ho : ((m : Int) % 2 == 1) = true := by simp; omega
          go_wp2_with fail
          go_ret
          refine ⟨⟨m + 1, ret_int ?_, m, unhide HF, ?_⟩, hbel10⟩
          · first | (simp [Flt.signBit]; done) | (simp [Flt.signBit]; omega)
          · rw [unhide PK True (by simp; exact .inr ⟨(unhide HC2).1 (unhide HD), hodd⟩)]; simp
        · have ho : ((m : Int) % 2 == 1) = false := by simp; omega
          go_wp2_with fail
          go_ret
          refine ⟨⟨m, ret_int ?_, m, unhide HF, ?_⟩, hbel10⟩
          · simp [Flt.signBit]
          · rw [unhide PK False ⟨fun h => h.elim, fun h => ?_⟩]; simp
            rcases h with h | ⟨_, h⟩
            · have := (unhide HC2).1 (unhide HD); omega
            · exact hodd h
      · have hd0 : (d == 0) = false := by simp; omega
        have hd1 : ¬ d < 0 := by omega
        go_wp2_with fail
        go_ret
        refine ⟨⟨m, ret_int ?_, m, unhide HF, ?_⟩, hbel10⟩
        · simp [Flt.signBit]
        · rw [unhide PK False ⟨fun h => h.elim, fun h => ?_⟩]; simp
          rcases h with h | ⟨h, _⟩
          · have := (unhide HC1).2 h; omega
          · have := (unhide HC2).2 h; omega

set_option maxRecDepth 100000 in
set_option maxHeartbeats 2000000 in
theorem rounded_o_true (way : Int) (w1 : (way == 1) = false) (w2 : (way == 2) = false) (p q : Value) (P Q K : Nat) (hK : K ≤ 400) (hQ : 0 < Q) (w : World) (hp : Num w p P K) (hq : Num w q Q K) :
    Calls Tryz.prog 104 #[.int .i64 way, .bool true, p, q] w fun e w' => (∃ r : Nat, e = .returned (.int .u32 (Flt.signBit true + (r : Int))) ∧ Flt.RN way true P Q r) ∧ Below w.heap.size w w' := by
  have HP := hide hp
  have HQ := hide hq
  clear hp hq
  go_enter Tryz.func104, Tryz.ntmps104
  go_wp2_with fail
  refine (least_any p q P Q K (by omega) hQ _ (unhide HP) (unhide HQ)).mono ?_
  rintro e x1 ⟨⟨m, rfl, hfl⟩, hb1⟩
  have hm := hfl.1
  have HF := hide hfl
  clear hfl
  go_wp2_with fail
  refine (amount_any m (by omega) _).mono ?_
  rintro e x2 ⟨⟨v2, rfl, hv2⟩, hb2⟩
  have hbel2 := bl_tr hb1 hb2
  go_wp2_with fail
  refine (times_any v2 q _ Q 12 K (by omega) (by omega) _ hv2 ((unhide HQ).below hbel2)).mono ?_
  rintro e x3 ⟨⟨v3, rfl, hv3⟩, hb3⟩
  have hbel3 := bl_tr hbel2 hb3
  go_wp2_with fail
  refine (compare_any v3 p _ P (12 + K) (by omega) _ hv3 (((unhide HP).below hbel3).le (by omega))).mono ?_
  rintro e x4 ⟨rfl, hb4⟩
  have hbel4 := bl_tr hbel3 hb4
  have hcz := cmpN_eq (Flt.A m * Q) P
  generalize cmpN (Flt.A m * Q) P = c at hcz ⊢
  have HCZ := hide hcz
  clear hcz hv2 hv3 hb1 hb2 hb3 hb4
  by_cases hI : m = 2139095040
  · subst hI
    go_wp2_with fail
    go_ret
    refine ⟨⟨2139095040, ret_int ?_, 2139095040, unhide HF, ?_⟩, hbel4⟩
    · simp [Flt.signBit]
    · have hiw : Flt.inW way true = false := by unfold Flt.inW; simp [WalkArith.int_ne w1, WalkArith.int_ne w2]
      unfold Flt.pick; rw [if_pos rfl]; simp [hiw]
  · have hI' : ((m : Int) == 2139095040) = false := by simp; omega
    by_cases hx : c = 0
    · have hx' : (c == 0) = true := by simp [hx]
      have hA := (unhide HCZ).1 hx
      have HA := hide hA
      clear hx hA
      go_wp2_with fail
      go_ret
      refine ⟨⟨m, ret_int ?_, m, unhide HF, ?_⟩, hbel4⟩
      · simp [Flt.signBit]
      · unfold Flt.pick; rw [if_neg hI, if_pos (.inl (unhide HA))]
    · have hx' : (c == 0) = false := by simp [hx]
      have hA : ¬ Flt.A m * Q = P := fun h => hx ((unhide HCZ).2 h)
      have HA := hide hA
      clear hx hA
      go_wp2_with fail
      refine (amount_any m (by omega) _).mono ?_
      rintro e x5 ⟨⟨v5, rfl, hv5⟩, hb5⟩
      have hbel5 := bl_tr hbel4 hb5
      go_wp2_with fail
      rw [show (m : Int) + 1 = ((m + 1 : Nat) : Int) by omega]
      refine (amount_any (m + 1) (by omega) _).mono ?_
      rintro e x6 ⟨⟨v6, rfl, hv6⟩, hb6⟩
      have hbel6 := bl_tr hbel5 hb6
      go_wp2_with fail
      refine (plus_any v5 v6 _ _ 12 (by omega) _ (hv5.below hb6) hv6 (by have := Flt.A_lt_succ m; omega)).mono ?_
      rintro e x7 ⟨⟨v7, rfl, hv7⟩, hb7⟩
      have hbel7 := bl_tr hbel6 hb7
      go_wp2_with fail
      refine (times_any v7 q _ Q 13 K (by omega) (by omega) _ hv7 ((unhide HQ).below hbel7)).mono ?_
      rintro e x8 ⟨⟨v8, rfl, hv8⟩, hb8⟩
      have hbel8 := bl_tr hbel7 hb8
      go_wp2_with fail
      refine (twice_any p P K 1 (by omega) (by omega) _ ((unhide HP).below hbel8)).mono ?_
      rintro e x9 ⟨⟨v9, rfl, hv9⟩, hb9⟩
      have hbel9 := bl_tr hbel8 hb9
      go_wp2_with fail
      refine (compare_any v8 v9 _ _ (14 + K) (by omega) _ ((hv8.below hb9).le (by omega)) (hv9.le (by omega))).mono ?_
      rintro e x10 ⟨rfl, hb10⟩
      have hbel10 := bl_tr hbel9 hb10
      have hc1 := cmpN_lt ((Flt.A m + Flt.A (m + 1)) * Q) (P * 2 ^ 1)
      have hc2 := cmpN_eq ((Flt.A m + Flt.A (m + 1)) * Q) (P * 2 ^ 1)
      generalize cmpN ((Flt.A m + Flt.A (m + 1)) * Q) (P * 2 ^ 1) = d at hc1 hc2 ⊢
      rw [show P * 2 ^ 1 = 2 * P by omega] at hc1 hc2
      have HC1 := hide hc1
      have HC2 := hide hc2
      clear hc1 hc2 hv5 hv6 hv7 hv8 hv9 hb5 hb6 hb7 hb8 hb9 hb10
      have hiw : Flt.inW way true = false := by unfold Flt.inW; simp [WalkArith.int_ne w1, WalkArith.int_ne w2]
      have how : Flt.outW way true = false := by unfold Flt.outW; simp [WalkArith.int_ne w1, WalkArith.int_ne w2]
      have pk : ∀ u : Prop, ∀ [Decidable u], (u ↔ ((Flt.A m + Flt.A (m + 1)) * Q < 2 * P ∨ ((Flt.A m + Flt.A (m + 1)) * Q = 2 * P ∧ m % 2 = 1))) → Flt.pick way true P Q m = if u then m + 1 else m := by
        intro u _ hu
        unfold Flt.pick
        rw [if_neg hI, if_neg (by rw [hiw]; exact fun h => h.elim (unhide HA) (by simp)), if_neg (by rw [how]; simp)]
        by_cases hq : u
        · rw [if_pos hq, if_pos (hu.1 hq)]
        · rw [if_neg hq, if_neg (fun h => hq (hu.2 h))]
      have PK := hide pk
      clear pk hiw how
      rcases Int.lt_trichotomy d 0 with hd | hd | hd
      · go_wp2_with fail
        go_ret
        refine ⟨⟨m + 1, ret_int ?_, m, unhide HF, ?_⟩, hbel10⟩
        · first | (simp [Flt.signBit]; done) | (simp [Flt.signBit]; omega)
        · rw [unhide PK True (by simp; exact .inl ((unhide HC1).1 hd))]; simp
      · have hd0 : (d == 0) = true := by simp [hd]
        have hd1 : ¬ d < 0 := by omega
        have HD := hide hd
        clear hd
        by_cases hodd : m % 2 = 1
        · have ho : ((m : Int) % 2 == 1) = true := by simp; omega
          go_wp2_with fail
          go_ret
          refine ⟨⟨m + 1, ret_int ?_, m, unhide HF, ?_⟩, hbel10⟩
          · first | (simp [Flt.signBit]; done) | (simp [Flt.signBit]; omega)
          · rw [unhide PK True (by simp; exact .inr ⟨(unhide HC2).1 (unhide HD), hodd⟩)]; simp
        · have ho : ((m : Int) % 2 == 1) = false := by simp; omega
          go_wp2_with fail
          go_ret
          refine ⟨⟨m, ret_int ?_, m, unhide HF, ?_⟩, hbel10⟩
          · simp [Flt.signBit]
          · rw [unhide PK False ⟨fun h => h.elim, fun h => ?_⟩]; simp
            rcases h with h | ⟨_, h⟩
            · have := (unhide HC2).1 (unhide HD); omega
            · exact hodd h
      · have hd0 : (d == 0) = false := by simp; omega
        have hd1 : ¬ d < 0 := by omega
        go_wp2_with fail
        go_ret
        refine ⟨⟨m, ret_int ?_, m, unhide HF, ?_⟩, hbel10⟩
        · simp [Flt.signBit]
        · rw [unhide PK False ⟨fun h => h.elim, fun h => ?_⟩]; simp
          rcases h with h | ⟨h, _⟩
          · have := (unhide HC1).2 h; omega
          · have := (unhide HC2).2 h; omega

/-- Rounded: what the document words. -/
theorem rounded_any (way : Int) (neg : Bool) (p q : Value) (P Q K : Nat) (hK : K ≤ 400) (hQ : 0 < Q) (w : World) (hp : Num w p P K) (hq : Num w q Q K) :
    Calls Tryz.prog 104 #[.int .i64 way, .bool neg, p, q] w fun e w' => (∃ r : Nat, e = .returned (.int .u32 (Flt.signBit neg + (r : Int))) ∧ Flt.RN way neg P Q r) ∧ Below w.heap.size w w' := by
  by_cases h1 : way = 1
  · subst h1
    cases neg
    · exact rounded_1_false p q P Q K hK hQ w hp hq
    · exact rounded_1_true p q P Q K hK hQ w hp hq
  · by_cases h2 : way = 2
    · subst h2
      cases neg
      · exact rounded_2_false p q P Q K hK hQ w hp hq
      · exact rounded_2_true p q P Q K hK hQ w hp hq
    · have w1 : (way == 1) = false := by simp [h1]
      have w2 : (way == 2) = false := by simp [h2]
      cases neg
      · exact rounded_o_false way w1 w2 p q P Q K hK hQ w hp hq
      · exact rounded_o_true way w1 w2 p q P Q K hK hQ w hp hq
end Go.Proofs.YtkbniebahledmabGreat
