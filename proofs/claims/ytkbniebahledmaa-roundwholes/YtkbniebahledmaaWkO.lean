/-
  Walks of the document's whole numbers: comparing, sums, differences, powers of two.
-/
import Derived.Test.YtkbniebahledmaaWkN
namespace Go.Proofs.Ytkbniebahledmaa
open Go.RowKit
set_option linter.unusedVariables false

theorem Try.infoU32 : (Try.prog.info? 22).map (fun i => (i.zero, i.size, i.bytes)) = some (some (.int .u32 0), 1, 4) := by kernel_rfl

set_option maxRecDepth 100000 in
set_option maxHeartbeats 1000000 in
theorem compare_diff (ad ad' : Option Addr) (n cap n' cap' : Nat) (w : World) (hn : n ≤ 1000000) (hn' : n' ≤ 1000000) (h : n ≠ n') :
    Calls Try.prog 36 #[.slice ad n cap, .slice ad' n' cap'] w fun e w' => e = .returned (.int .i64 (if n < n' then -1 else 1)) ∧ w' = w := by
  have h' : ((n : Int) == (n' : Int)) = false := by simp; omega
  by_cases hlt : n < n'
  · rw [if_pos hlt]
    have hi : (n : Int) < (n' : Int) := by omega
    go_enter Try.func36, Try.ntmps36
    go_wp2
    go_ret
    exact ⟨rfl, rfl⟩
  · rw [if_neg hlt]
    have hi : ¬ (n : Int) < (n' : Int) := by omega
    go_enter Try.func36, Try.ntmps36
    go_wp2
    go_ret
    exact ⟨rfl, rfl⟩

/-- Compare: as the numbers stand. -/
theorem compare_any (a b : Value) (N M K : Nat) (hK : K ≤ 1000000) (w : World) (ha : Num w a N K) (hb : Num w b M K) :
    Calls Try.prog 36 #[a, b] w fun e w' => e = .returned (.int .i64 (cmpN N M)) ∧ Below w.heap.size w w' := by
  obtain ⟨b, o, xs, cap, rfl, a2, a3, a4, rfl, a6, a7⟩ := ha
  obtain ⟨b', o', ys, cap', rfl, b2, b3, b4, rfl, b6, b7⟩ := hb
  by_cases hl : xs.length = ys.length
  · rw [← hl]
    refine (compare_same b o cap b' o' cap' xs ys w a7 b7 hl (by omega) a4 b4).mono ?_
    rintro e w' ⟨rfl, n, rfl⟩
    exact ⟨rfl, bl_drewN (Below.refl _ _) _⟩
  · refine (compare_diff _ _ _ cap _ cap' w (by omega) (by omega) hl).mono ?_
    rintro e w' ⟨rfl, rfl⟩
    refine ⟨ret_int ?_, Below.refl _ _⟩
    unfold cmpN
    rcases Nat.lt_or_ge xs.length ys.length with h | h
    · rw [if_pos h, if_pos (Dg.len_lt_of xs ys a4 b6 h)]
    · have := Dg.len_lt_of ys xs b4 a6 (by omega)
      rw [if_neg (by omega), if_neg (by omega), if_pos this]

/-- A row that the call itself builds: its digits, and nothing else has turned. -/
def Built (w wr : World) (v : Value) (os : List Nat) : Prop :=
  wr.ownsRow w.heap.size 22 1 v os.length (os.map fun (d : Nat) => Value.int .u32 (d : Int)) ∧ Below w.heap.size w wr ∧ ∀ d ∈ os, d < 4294967296
theorem Built.nil (w : World) : Built w w (.slice none 0 0) [] := ⟨World.ownsRow_nil _ _ _ _, Below.refl _ _, by simp⟩
theorem Built.step {w wr w1 : World} {v v' : Value} {os : List Nat} {ob : Obj} {X : Int} {d : Nat} (h : Built w wr v os) (hX : X = (d : Int)) (hd : d < 4294967296)
    (hown : w1.ownsRow w.heap.size 22 1 v' (os.length + 1) ((os.map fun (d : Nat) => Value.int .u32 (d : Int)) ++ [.int .u32 X])) (hg : (wr.alloc ob).grownBy w1 v.ownBlock) :
    Built w w1 v' (os ++ [d]) := by
  obtain ⟨h1, h2, h3⟩ := h
  subst hX
  refine ⟨by simpa using hown, ?_, ?_⟩
  · refine (h2.alloc h2.size ob).grown hg (by have := h2.size; simp; omega) ?_
    intro k hk
    exact (h1.lt k hk).1
  · intro x hx
    rw [List.mem_append] at hx
    rcases hx with hx | hx
    · exact h3 x hx
    · simp at hx; omega
/-- What is built may be read. -/
theorem Built.form {w wr : World} {v : Value} {os : List Nat} (h : Built w wr v os) (hp : 0 < os.length) : ∃ b cap, v = .slice (some ⟨b, 0, none⟩) os.length cap ∧ os.length ≤ cap ∧ Lies wr b 0 os := by
  obtain ⟨⟨_, h1⟩, h2, h3⟩ := h
  rcases h1 with ⟨rfl, h0⟩ | ⟨g, cap, cur, rfl, hb, hh, hc, hm, hs, ht⟩
  · omega
  · refine ⟨g, cap, rfl, hc, ?_, fun i hi => ?_⟩
    · rcases Nat.lt_or_ge g wr.heap.size with h | h
      · exact h
      · rw [Array.getElem?_eq_none h] at hh; cases hh
    · have e : cur.toList[i]? = some (.int .u32 (os.getD i 0 : Int)) := by
        have e1 : (cur.toList.take (os.length * 1))[i]? = cur.toList[i]? := List.getElem?_take_of_lt (by omega)
        rw [← e1, ht, List.getElem?_map, List.getElem?_eq_getElem hi, List.getD_eq_getElem?_getD, List.getElem?_eq_getElem hi]; rfl
      simp [World.cell?, hh]
      simpa using e

theorem one_cell (w : World) (x : Value) (t : TypeId) : ∀ j u, [x][j]? = some u → (w.alloc (.cells #[x] t)).cell? ((⟨w.heap.size, 0, none⟩ : Addr).add j) = some u := by
  intro j u hj
  match j, hj with
  | 0, hj => simp at hj; subst hj; simp [Addr.add]
theorem one_ok (x : Int) : ∀ u ∈ [Value.int .u32 x], u.oneCell' = true := by
  intro u hu; simp at hu; subst hu; rfl

set_option maxRecDepth 100000 in
set_option maxHeartbeats 2000000 in
theorem plus_some (b o cap b' o' cap' : Nat) (xs ys : List Nat) (w : World) (ha : Lies w b o xs) (hb : Lies w b' o' ys) (hlx : xs.length ≤ 1000) (hly : ys.length ≤ 1000)
    (hda : ∀ d ∈ xs, d < 4294967296) (hdb : ∀ d ∈ ys, d < 4294967296) (hpos : 0 < Dg.natOf xs + Dg.natOf ys) :
    Calls Try.prog 58 #[.slice (some ⟨b, o, none⟩) xs.length cap, .slice (some ⟨b', o', none⟩) ys.length cap'] w fun e w' => (∃ v, e = .returned v ∧ Num w' v (Dg.natOf xs + Dg.natOf ys) (max xs.length ys.length + 1)) ∧ Below w.heap.size w w' := by
  obtain ⟨hb1, hc1⟩ := ha
  obtain ⟨hb2, hc2⟩ := hb
  have HC1 := hide hc1
  have HC2 := hide hc2
  have HDA := hide hda
  have HDB := hide hdb
  have HP := hide hpos
  clear hc1 hc2 hda hdb hpos
  obtain ⟨i0, hi, hz0, hz1, hz2⟩ := info_parts Try.infoU32
  go_enter Try.func58, Try.ntmps58
  go_wp2
  go_loopw [5, 6, 7] (fun v c i wr => ∃ os : List Nat, ∃ q : Nat, c = .int .u64 q ∧ i = .int .i64 os.length ∧ Built w wr v os ∧ q ≤ 1 ∧ os.length ≤ max xs.length ys.length + 1 ∧ Hid (max xs.length ys.length < os.length → q = 0) ∧ Hid (Dg.natOf os + 4294967296 ^ os.length * q = Dg.natOf (xs.take os.length) + Dg.natOf (ys.take os.length)))
    (fun _ _ i _ => max xs.length ys.length + 1 - (intOf i).toNat)
  case atStart => exact ⟨[], 0, rfl, rfl, Built.nil w, by omega, by simp, hide (fun _ => rfl), hide (by simp [Dg.natOf])⟩
  case round =>
    obtain ⟨os, q, rfl, rfl, hB, hq, hlen, HM, HV⟩ := hrel
    obtain ⟨k, hk⟩ : ∃ k, os.length = k := ⟨_, rfl⟩
    have hown := hB.1
    have hbel := hB.2.1
    rw [hk] at hlen HM HV hown ⊢
    have HK := hide hk
    have HB := hide hB
    clear hk hB
    by_cases h1 : k < xs.length
    · by_cases h2 : k < ys.length
      · skip
        have c1 : wr.cell? ⟨b, o + k, none⟩ = some (.int .u32 (xs.getD k 0)) := (hbel.cell (p := ⟨b, o + k, none⟩) hb1).trans (unhide HC1 k h1)
        have c2 : wr.cell? ⟨b', o' + k, none⟩ = some (.int .u32 (ys.getD k 0)) := (hbel.cell (p := ⟨b', o' + k, none⟩) hb2).trans (unhide HC2 k h2)
        have l1 := Dg.getD_lt xs (unhide HDA) k
        have l2 := Dg.getD_lt ys (unhide HDB) k
        obtain ⟨x, hx⟩ : ∃ x, xs.getD k 0 = x := ⟨_, rfl⟩
        obtain ⟨y, hy⟩ : ∃ y, ys.getD k 0 = y := ⟨_, rfl⟩
        rw [hx] at c1 l1
        rw [hy] at c2 l2
        have HX := hide hx
        have HY := hide hy
        clear hx hy
        go_wp2_with (at_builtin; refine wpList_append_own _ rfl _ _ 42 rfl w.heap.size 22 i0 (.int .u32 0) 1 4 Try.underlying42 hi hz0 hz1 hz2 rfl (by decide) _ _ _ rfl (hown.alloc _) ⟨wr.heap.size, 0, none⟩ 1 1 [.int .u32 (((q : Int) + (x : Int) + (y : Int)) % 4294967296)] rfl rfl (one_cell _ _ _) (one_ok _) (by unfold maxLen; omega) (by omega) (by have := hbel.size; simp; omega) ?_; intro v' w1 hown' hgrow _)
        have R := Built.step (X := ((q : Int) + (x : Int) + (y : Int)) % 4294967296) (d := (q + x + y) % 4294967296) (unhide HB) (by omega) (by omega) (by rw [unhide HK]; exact hown') hgrow
        have S := Dg.plus_step xs ys os k q x y (unhide HK) (unhide HX) (unhide HY) (unhide HV)
        have hsz : (q + x + y) / 4294967296 ≤ 1 := by omega
        have hlast : max xs.length ys.length < k + 1 → (q + x + y) / 4294967296 = 0 := by
          intro hm
          exfalso; omega
        clear hown' hgrow hown
        go_wp2_with fail
        go_roundw
        case rel =>
          refine ⟨os ++ [(q + x + y) % 4294967296], (q + x + y) / 4294967296, ?_, ?_, R, hsz, ?_, hide ?_, hide ?_⟩
          · go_num
          · rw [List.length_append, unhide HK]; go_num
          · rw [List.length_append, unhide HK]; simp; omega
          · rw [List.length_append, unhide HK]; exact hlast
          · rw [List.length_append, unhide HK]; exact S
        case measure => simp [intOf]; omega
      · skip
        have c1 : wr.cell? ⟨b, o + k, none⟩ = some (.int .u32 (xs.getD k 0)) := (hbel.cell (p := ⟨b, o + k, none⟩) hb1).trans (unhide HC1 k h1)
        have l1 := Dg.getD_lt xs (unhide HDA) k
        have l2 := Dg.getD_lt ys (unhide HDB) k
        obtain ⟨x, hx⟩ : ∃ x, xs.getD k 0 = x := ⟨_, rfl⟩
        obtain ⟨y, hy⟩ : ∃ y, ys.getD k 0 = y := ⟨_, rfl⟩
        rw [hx] at c1 l1
        rw [hy] at l2
        have y0 : y = 0 := by rw [← hy, List.getD_eq_getElem?_getD, List.getElem?_eq_none (by omega)]; rfl
        have HX := hide hx
        have HY := hide hy
        have Y0 := hide y0
        clear y0
        clear hx hy
        go_wp2_with (at_builtin; refine wpList_append_own _ rfl _ _ 42 rfl w.heap.size 22 i0 (.int .u32 0) 1 4 Try.underlying42 hi hz0 hz1 hz2 rfl (by decide) _ _ _ rfl (hown.alloc _) ⟨wr.heap.size, 0, none⟩ 1 1 [.int .u32 (((q : Int) + (x : Int)) % 4294967296)] rfl rfl (one_cell _ _ _) (one_ok _) (by unfold maxLen; omega) (by omega) (by have := hbel.size; simp; omega) ?_; intro v' w1 hown' hgrow _)
        have R := Built.step (X := ((q : Int) + (x : Int)) % 4294967296) (d := (q + x + y) % 4294967296) (unhide HB) (by have e1 := unhide Y0; omega) (by omega) (by rw [unhide HK]; exact hown') hgrow
        have S := Dg.plus_step xs ys os k q x y (unhide HK) (unhide HX) (unhide HY) (unhide HV)
        have hsz : (q + x + y) / 4294967296 ≤ 1 := by omega
        have hlast : max xs.length ys.length < k + 1 → (q + x + y) / 4294967296 = 0 := by
          intro hm
          exfalso; omega
        clear hown' hgrow hown
        go_wp2_with fail
        go_roundw
        case rel =>
          refine ⟨os ++ [(q + x + y) % 4294967296], (q + x + y) / 4294967296, ?_, ?_, R, hsz, ?_, hide ?_, hide ?_⟩
          · have e1 := unhide Y0; go_num
          · rw [List.length_append, unhide HK]; go_num
          · rw [List.length_append, unhide HK]; simp; omega
          · rw [List.length_append, unhide HK]; exact hlast
          · rw [List.length_append, unhide HK]; exact S
        case measure => simp [intOf]; omega
    · by_cases h2 : k < ys.length
      · skip
        have c2 : wr.cell? ⟨b', o' + k, none⟩ = some (.int .u32 (ys.getD k 0)) := (hbel.cell (p := ⟨b', o' + k, none⟩) hb2).trans (unhide HC2 k h2)
        have l1 := Dg.getD_lt xs (unhide HDA) k
        have l2 := Dg.getD_lt ys (unhide HDB) k
        obtain ⟨x, hx⟩ : ∃ x, xs.getD k 0 = x := ⟨_, rfl⟩
        obtain ⟨y, hy⟩ : ∃ y, ys.getD k 0 = y := ⟨_, rfl⟩
        rw [hx] at l1
        rw [hy] at c2 l2
        have x0 : x = 0 := by rw [← hx, List.getD_eq_getElem?_getD, List.getElem?_eq_none (by omega)]; rfl
        have HX := hide hx
        have HY := hide hy
        have X0 := hide x0
        clear x0
        clear hx hy
        go_wp2_with (at_builtin; refine wpList_append_own _ rfl _ _ 42 rfl w.heap.size 22 i0 (.int .u32 0) 1 4 Try.underlying42 hi hz0 hz1 hz2 rfl (by decide) _ _ _ rfl (hown.alloc _) ⟨wr.heap.size, 0, none⟩ 1 1 [.int .u32 (((q : Int) + (y : Int)) % 4294967296)] rfl rfl (one_cell _ _ _) (one_ok _) (by unfold maxLen; omega) (by omega) (by have := hbel.size; simp; omega) ?_; intro v' w1 hown' hgrow _)
        have R := Built.step (X := ((q : Int) + (y : Int)) % 4294967296) (d := (q + x + y) % 4294967296) (unhide HB) (by have e1 := unhide X0; omega) (by omega) (by rw [unhide HK]; exact hown') hgrow
        have S := Dg.plus_step xs ys os k q x y (unhide HK) (unhide HX) (unhide HY) (unhide HV)
        have hsz : (q + x + y) / 4294967296 ≤ 1 := by omega
        have hlast : max xs.length ys.length < k + 1 → (q + x + y) / 4294967296 = 0 := by
          intro hm
          exfalso; omega
        clear hown' hgrow hown
        go_wp2_with fail
        go_roundw
        case rel =>
          refine ⟨os ++ [(q + x + y) % 4294967296], (q + x + y) / 4294967296, ?_, ?_, R, hsz, ?_, hide ?_, hide ?_⟩
          · have e1 := unhide X0; go_num
          · rw [List.length_append, unhide HK]; go_num
          · rw [List.length_append, unhide HK]; simp; omega
          · rw [List.length_append, unhide HK]; exact hlast
          · rw [List.length_append, unhide HK]; exact S
        case measure => simp [intOf]; omega
      · by_cases hq0 : 0 < q
        · have hqi : (0 : Int) < (q : Int) := by omega
          have hkm : k ≤ max xs.length ys.length := by
            rcases Nat.lt_or_ge (max xs.length ys.length) k with h | h
            · have := unhide HM h; omega
            · exact h
          have l1 := Dg.getD_lt xs (unhide HDA) k
          have l2 := Dg.getD_lt ys (unhide HDB) k
          obtain ⟨x, hx⟩ : ∃ x, xs.getD k 0 = x := ⟨_, rfl⟩
          obtain ⟨y, hy⟩ : ∃ y, ys.getD k 0 = y := ⟨_, rfl⟩
          rw [hx] at l1
          rw [hy] at l2
          have x0 : x = 0 := by rw [← hx, List.getD_eq_getElem?_getD, List.getElem?_eq_none (by omega)]; rfl
          have y0 : y = 0 := by rw [← hy, List.getD_eq_getElem?_getD, List.getElem?_eq_none (by omega)]; rfl
          have HX := hide hx
          have HY := hide hy
          have X0 := hide x0
          clear x0
          have Y0 := hide y0
          clear y0
          clear hx hy
          go_wp2_with (at_builtin; refine wpList_append_own _ rfl _ _ 42 rfl w.heap.size 22 i0 (.int .u32 0) 1 4 Try.underlying42 hi hz0 hz1 hz2 rfl (by decide) _ _ _ rfl (hown.alloc _) ⟨wr.heap.size, 0, none⟩ 1 1 [.int .u32 (((q : Int)) % 4294967296)] rfl rfl (one_cell _ _ _) (one_ok _) (by unfold maxLen; omega) (by omega) (by have := hbel.size; simp; omega) ?_; intro v' w1 hown' hgrow _)
          have R := Built.step (X := ((q : Int)) % 4294967296) (d := (q + x + y) % 4294967296) (unhide HB) (by have e1 := unhide X0; have e2 := unhide Y0; omega) (by omega) (by rw [unhide HK]; exact hown') hgrow
          have S := Dg.plus_step xs ys os k q x y (unhide HK) (unhide HX) (unhide HY) (unhide HV)
          have hsz : (q + x + y) / 4294967296 ≤ 1 := by omega
          have hlast : max xs.length ys.length < k + 1 → (q + x + y) / 4294967296 = 0 := by
            intro hm
            rw [unhide X0, unhide Y0]; omega
          clear hown' hgrow hown
          go_wp2_with fail
          go_roundw
          case rel =>
            refine ⟨os ++ [(q + x + y) % 4294967296], (q + x + y) / 4294967296, ?_, ?_, R, hsz, ?_, hide ?_, hide ?_⟩
            · have e1 := unhide X0; have e2 := unhide Y0; go_num
            · rw [List.length_append, unhide HK]; go_num
            · rw [List.length_append, unhide HK]; simp; omega
            · rw [List.length_append, unhide HK]; exact hlast
            · rw [List.length_append, unhide HK]; exact S
          case measure => simp [intOf]; omega
        · have hq1 : q = 0 := by omega
          subst hq1
          have e : Dg.natOf os = Dg.natOf xs + Dg.natOf ys := by
            have := unhide HV
            rw [Dg.natOf_take_ge xs k (by omega), Dg.natOf_take_ge ys k (by omega)] at this
            simpa using this
          have hp : 0 < os.length := by
            rcases Nat.eq_zero_or_pos os.length with h | h
            · have e2 : os = [] := List.length_eq_zero_iff.1 h
              rw [e2] at e; simp [Dg.natOf] at e
              have := unhide HP; omega
            · exact h
          obtain ⟨bb, cp, rfl, f2, f3⟩ := (unhide HB).form hp
          rw [unhide HK] at f2
          have F3 := hide f3
          clear f3
          have HDS := hide (unhide HB).2.2
          have HE := hide e
          clear e
          rw [unhide HK]
          have T := hide (trim_any bb 0 cp (max xs.length ys.length + 1) os wr (unhide F3) (by rw [unhide HK]; exact hlen) (by omega) (by rw [unhide HK]; exact f2) (unhide HDS))
          rw [unhide HK] at T
          go_wp2_with fail
          refine (unhide T).mono ?_
          rintro e w2 ⟨⟨v, rfl, hv⟩, rfl⟩
          go_wp2_with fail
          go_ret
          rw [unhide HE] at hv
          exact ⟨⟨v, rfl, hv⟩, hbel⟩
end Go.Proofs.Ytkbniebahledmaa
