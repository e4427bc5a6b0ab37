import Derived.Test.YtbepkmehnghmcaaIM

/-
  Layer 5: the document's Bytes.
-/
namespace Go.Proofs.Ytbepkmehnghmcaa
open Go.RowKit
set_option linter.unusedVariables false

theorem own_eq {α : Type} {t : TypeId} {f : α → Value} {w wr : World} {v : Value} {xs ys : List α} (h : OwnG t f w wr v xs) (e : xs = ys) : OwnG t f w wr v ys := by subst e; exact h
theorem Try.infoU8 : (Try.prog.info? 5).map (fun i => (i.zero, i.size, i.bytes)) = some (some (.int .u8 0), 1, 1) := by kernel_rfl
/-- The first k bytes of a number, the least first. -/
def leL (X : Int) : Nat → List Int
  | 0 => []
  | k + 1 => leL X k ++ [X / 256 ^ k % 256]
theorem leL_length (X : Int) : ∀ k, (leL X k).length = k
  | 0 => rfl
  | k + 1 => by simp [leL, leL_length X k]
theorem leL_wf (X : Int) : ∀ k, ∀ x ∈ leL X k, (Lit.int .u8 x).wf = true
  | 0, x, h => by cases h
  | k + 1, x, h => by
    rcases List.mem_append.1 h with g | g
    · exact leL_wf X k x g
    · simp at g; subst g
      simp [Lit.wf, IntKind.min, IntKind.max, IntKind.signed, IntKind.bits]; omega
theorem div_step (X : Int) (k : Nat) : X / 256 ^ k / 256 = X / 256 ^ (k + 1) := by
  rw [Int.pow_succ, Int.ediv_ediv_of_nonneg (Int.pow_nonneg (by decide))]
/-- All bytes of a list, so many each. -/
def bytesOf {α : Type} (f : α → Int) (k : Nat) (xs : List α) : List Int := xs.flatMap fun x => leL (f x) k
theorem bytesOf_length {α : Type} (f : α → Int) (k : Nat) (xs : List α) : (bytesOf f k xs).length = xs.length * k := by
  induction xs with
  | nil => simp [bytesOf]
  | cons x r ih => simp only [bytesOf, List.flatMap_cons, List.length_append, leL_length, List.length_cons] at *; rw [ih, Nat.succ_mul]; omega
theorem bytesOf_snoc {α : Type} (f : α → Int) (k : Nat) (xs : List α) (x : α) : bytesOf f k (xs ++ [x]) = bytesOf f k xs ++ leL (f x) k := by simp [bytesOf]
theorem bytesOf_wf {α : Type} (f : α → Int) (k : Nat) (xs : List α) : ∀ x ∈ bytesOf f k xs, (Lit.int .u8 x).wf = true := by
  intro x hx
  obtain ⟨y, _, hy⟩ := List.mem_flatMap.1 hx
  exact leL_wf _ _ x hy
def b01 (b : Bool) : Int := if b then 1 else 0
def toU (x : Int) : Int := x % 18446744073709551616
/-- Bytes: the bytes and the error. -/
def bytesL (T : Ten) : List Int := if T.1 = 1 then bytesOf id 4 T.2.2.1 else if T.1 = 7 then bytesOf toU 8 T.2.2.2.1 else bytesOf b01 1 T.2.2.2.2
def bytesV (T : Ten) : List Int := if checkV T = 0 then bytesL T else []

set_option maxRecDepth 100000 in
set_option maxHeartbeats 4000000 in
theorem rbytes_check (T : Ten) (A : TA) (w : World) (h : TenIn w T A) (hc : checkV T ≠ 0) :
    Calls Try.prog 29 #[tenV T A] w fun e w' => (∃ q c, e = .returned (.tuple #[.slice q (bytesV T).length c, .int .i64 (checkV T)]) ∧ Ints .u8 w' q c (bytesV T)) ∧ Below w.heap.size w w' := by
  obtain ⟨ty, ds, fs, is, bs⟩ := T
  obtain ⟨pd, cd, pf, cf, pi, ci, pb, cb⟩ := A
  have CK := hide (fun w h => rcheck_any (ty, ds, fs, is, bs) ⟨pd, cd, pf, cf, pi, ci, pb, cb⟩ w h)
  have H := hide h
  have e2 : bytesV (ty, ds, fs, is, bs) = [] := by unfold bytesV; rw [if_neg hc]
  rw [e2]
  obtain ⟨E, hE⟩ : ∃ E, checkV (ty, ds, fs, is, bs) = E := ⟨_, rfl⟩
  rw [hE] at CK hc ⊢
  have hen : (E != 0) = true := bneT hc
  unfold tenV tenCells at CK
  simp only at CK
  unfold tenV tenCells
  simp only
  clear e2 hc h hE
  go_enter Try.func29, Try.ntmps29
  go_wp2_with fail
  refine (unhide CK _ ((unhide H).below (al1 _ _))).mono ?_
  rintro e w1 ⟨rfl, hb⟩
  have B1 := hide (bl_tr (al1 _ _) hb)
  clear hb CK
  go_wp2_with fail
  go_ret2
  exact ⟨⟨none, 0, rfl, nilInts _ _⟩, unhide B1⟩

set_option maxRecDepth 100000 in
set_option maxHeartbeats 8000000 in
theorem rbytes_F (ds fs is : List Int) (bs : List Bool) (A : TA) (w : World) (h : TenIn w (1, ds, fs, is, bs) A) (hc : checkV (1, ds, fs, is, bs) = 0) :
    Calls Try.prog 29 #[tenV (1, ds, fs, is, bs) A] w fun e w' => (∃ q c, e = .returned (.tuple #[.slice q (bytesOf id 4 fs).length c, .int .i64 0]) ∧ Ints .u8 w' q c (bytesOf id 4 fs)) ∧ Below w.heap.size w w' := by
  obtain ⟨pd, cd, pf, cf, pi, ci, pb, cb⟩ := A
  obtain ⟨i1, hi1, y1, z1, b1⟩ := info_parts Try.infoU8
  have CK := hide (fun w h => rcheck_any (1, ds, fs, is, bs) ⟨pd, cd, pf, cf, pi, ci, pb, cb⟩ w h)
  have H := hide h
  obtain ⟨sf, si, sb⟩ := check_small hc
  simp only at sf si sb
  obtain ⟨lf, li, lb⟩ := check_lens hc
  have hsum : (fs.length : Int) + (is.length : Int) + (bs.length : Int) = (fs.length : Int) := by simp only at lf li lb; simp at lf li lb; rw [li, lb]; simp
  rw [hc] at CK
  unfold tenV tenCells at CK
  simp only at CK
  unfold tenV tenCells
  simp only
  clear hc h lf li lb
  go_enter Try.func29, Try.ntmps29
  go_wp2_with fail
  refine (unhide CK _ ((unhide H).below (al1 _ _))).mono ?_
  rintro e w1 ⟨rfl, hb⟩
  have X0 := hide (Box.below (Box.new w #[.int .i64 1, .slice pd ds.length cd, .slice pf fs.length cf, .slice pi is.length ci, .slice pb bs.length cb] 27) hb)
  have x0 := (unhide X0).cell
  have B1 := hide (bl_tr (al1 _ _) hb)
  clear hb CK
  go_wp2_with fail
  clear x0
  go_loopw [5, 6] (fun v iv wr => ∃ n : Nat, iv = .int .i64 n ∧ n ≤ fs.length ∧ OwnG 5 (Value.int .u8) w1 wr v (bytesOf id 4 (fs.take n))) (fun _ iv _ => fs.length - (intOf iv).toNat)
  case atStart => exact ⟨0, rfl, by omega, by simpa [bytesOf] using OwnG.nil (f := Value.int .u8) 5 w1 w1 (Below.refl _ _)⟩
  case round =>
    obtain ⟨n, rfl, hn, hO⟩ := hrel
    have O := hide hO
    have x0 := ((unhide X0).below hO.2).cell
    have zz := ((unhide X0).below hO.2).lt
    clear hO
    by_cases hlt : n < fs.length
    · have hi : (n : Int) < (fs.length : Int) := by omega
      obtain ⟨b, o, hq, hb, hc⟩ := (unhide H).2.2.1.lies (show 0 < fs.length by omega)
      simp only at hq
      subst hq
      have k1 : wr.cell? ⟨b, o + n, none⟩ = some (.int .u32 (fs.getD n 0)) := (((unhide B1).trans ((unhide O).2.mono (unhide B1).size)).cell (p := ⟨b, o + n, none⟩) hb).trans (hc n hlt)
      have HT := hide (take_succ fs n hlt)
      obtain ⟨r0, r1⟩ := wf_u32_iff ((unhide H).2.2.1.wf n hlt)
      simp only at r0 r1
      have hl : (bytesOf id 4 (fs.take n)).length = n * 4 := by rw [bytesOf_length, List.length_take]; congr 1; omega
      clear hc
      generalize fs.getD n 0 = x at k1 HT r0 r1
      have u0 : 0 ≤ x := r0
      have u1 : x < 18446744073709551616 := by omega
      have hX : id x = x := rfl
      have HX : Hid (id x = x) := hide rfl
      go_wp2_with fail
      go_loopw [5, 7, 8] (fun v yv kv wq => ∃ j : Nat, ∃ y : Int, kv = .int .i64 j ∧ yv = .int .u64 y ∧ j ≤ 4 ∧ 0 ≤ y ∧ y < 18446744073709551616 ∧ Hid (y = (x) / 256 ^ j) ∧ OwnG 5 (Value.int .u8) w1 wq v (bytesOf id 4 (fs.take n) ++ leL (x) j)) (fun _ _ kv _ => 4 - (intOf kv).toNat)
      case atStart => exact ⟨0, x, rfl, rfl, by omega, u0, u1, hide (by simp), by simpa [leL] using unhide O⟩
      case round =>
        obtain ⟨j, y, rfl, rfl, hj, v0, v1, HY, hQ⟩ := hrel
        have Q := hide hQ
        have x1 := ((unhide X0).below hQ.2).cell
        have zq := ((unhide X0).below hQ.2).lt
        clear hQ
        have RW := hide (fun w => rwidth_any 1 w)
        unfold widthV at RW
        simp only [if_true] at RW
        by_cases hjl : j < 4
        · have hji : (j : Int) < 4 := by omega
          have d0 : 0 ≤ y / 256 := by omega
          have d1 : y / 256 < 18446744073709551616 := by omega
          have m0 : 0 ≤ y % 256 := by omega
          have m1 : y % 256 < 256 := by omega
          have hl2 : (bytesOf id 4 (fs.take n) ++ leL (x) j).length = n * 4 + j := by rw [List.length_append, hl, leL_length]
          have HS : Hid (leL (x) (j + 1) = leL (x) j ++ [y % 256]) := hide (by rw [unhide HY]; rfl)
          have HY2 : Hid (y / 256 = (x) / 256 ^ (j + 1)) := hide (by rw [unhide HY]; exact div_step _ _)
          obtain ⟨m, hm⟩ : ∃ m, y % 256 = m := ⟨_, rfl⟩
          rw [hm] at m0 m1 HS
          have hwr : IntKind.u8.wrap m = m := by rw [IntKind.wrap_u8]; omega
          clear HY
          go_wp2_with (first | (go_at_call 22; (refine (unhide RW _).mono ?_; rintro e w5 ⟨rfl, rfl⟩)) | (at_builtin; (refine wpList_append_ls rfl _ _ 43 rfl w1 5 i1 (.int .u8 0) 1 Try.underlying43 hi1 y1 z1 b1 rfl (int_one .u8) _ (bytesOf id 4 (fs.take n) ++ leL (x) j) rfl ((unhide Q).below (al1 _ _)) (some ⟨_, 0, none⟩) 1 [m] rfl (ls_one _ _ _) (by unfold maxLen; rw [hl2]; simp <;> omega) (by rw [hl2]; simp <;> omega) ?_; intro v2 w2 O2; have HO2 := hide O2; clear O2)))
          go_roundw
          case rel => exact ⟨j + 1, y / 256, by go_num, rfl, by omega, d0, d1, HY2, by rw [unhide HS, ← List.append_assoc]; exact unhide HO2⟩
          case measure => simp [intOf]; omega
        · have hji : ¬ (j : Int) < 4 := by omega
          have ej : j = 4 := by omega
          subst ej
          have O3 := hide (own_eq (unhide Q) (show _ = bytesOf id 4 (fs.take (n + 1)) by rw [unhide HT, bytesOf_snoc, unhide HX]))
          clear Q HY
          go_wp2_with (go_at_call 22; (refine (unhide RW _).mono ?_; rintro e w5 ⟨rfl, rfl⟩))
          go_roundw
          case rel => exact ⟨n + 1, by go_num, by omega, unhide O3⟩
          case measure => simp [intOf]; omega
    · have hi : ¬ (n : Int) < (fs.length : Int) := by omega
      obtain ⟨q, c, hv, hL, _⟩ := (unhide O).form
      have hB := (unhide O).2
      rw [List.take_of_length_le (by omega)] at hv hL
      subst hv
      have HL := hide hL
      have BB := hide (bl_tr (unhide B1) hB)
      clear hL hB O
      go_wp2_with fail
      go_ret2
      exact ⟨⟨q, c, rfl, (unhide HL).ints (bytesOf_wf _ _ _)⟩, unhide BB⟩

set_option maxRecDepth 100000 in
set_option maxHeartbeats 8000000 in
theorem rbytes_I (ds fs is : List Int) (bs : List Bool) (A : TA) (w : World) (h : TenIn w (7, ds, fs, is, bs) A) (hc : checkV (7, ds, fs, is, bs) = 0) :
    Calls Try.prog 29 #[tenV (7, ds, fs, is, bs) A] w fun e w' => (∃ q c, e = .returned (.tuple #[.slice q (bytesOf toU 8 is).length c, .int .i64 0]) ∧ Ints .u8 w' q c (bytesOf toU 8 is)) ∧ Below w.heap.size w w' := by
  obtain ⟨pd, cd, pf, cf, pi, ci, pb, cb⟩ := A
  obtain ⟨i1, hi1, y1, z1, b1⟩ := info_parts Try.infoU8
  have CK := hide (fun w h => rcheck_any (7, ds, fs, is, bs) ⟨pd, cd, pf, cf, pi, ci, pb, cb⟩ w h)
  have H := hide h
  obtain ⟨sf, si, sb⟩ := check_small hc
  simp only at sf si sb
  obtain ⟨lf, li, lb⟩ := check_lens hc
  have hsum : (fs.length : Int) + (is.length : Int) + (bs.length : Int) = (is.length : Int) := by simp only at lf li lb; simp at lf li lb; rw [lf, lb]; simp
  rw [hc] at CK
  unfold tenV tenCells at CK
  simp only at CK
  unfold tenV tenCells
  simp only
  clear hc h lf li lb
  go_enter Try.func29, Try.ntmps29
  go_wp2_with fail
  refine (unhide CK _ ((unhide H).below (al1 _ _))).mono ?_
  rintro e w1 ⟨rfl, hb⟩
  have X0 := hide (Box.below (Box.new w #[.int .i64 7, .slice pd ds.length cd, .slice pf fs.length cf, .slice pi is.length ci, .slice pb bs.length cb] 27) hb)
  have x0 := (unhide X0).cell
  have B1 := hide (bl_tr (al1 _ _) hb)
  clear hb CK
  go_wp2_with fail
  clear x0
  go_loopw [5, 6] (fun v iv wr => ∃ n : Nat, iv = .int .i64 n ∧ n ≤ is.length ∧ OwnG 5 (Value.int .u8) w1 wr v (bytesOf toU 8 (is.take n))) (fun _ iv _ => is.length - (intOf iv).toNat)
  case atStart => exact ⟨0, rfl, by omega, by simpa [bytesOf] using OwnG.nil (f := Value.int .u8) 5 w1 w1 (Below.refl _ _)⟩
  case round =>
    obtain ⟨n, rfl, hn, hO⟩ := hrel
    have O := hide hO
    have x0 := ((unhide X0).below hO.2).cell
    have zz := ((unhide X0).below hO.2).lt
    clear hO
    by_cases hlt : n < is.length
    · have hi : (n : Int) < (is.length : Int) := by omega
      obtain ⟨b, o, hq, hb, hc⟩ := (unhide H).2.2.2.1.lies (show 0 < is.length by omega)
      simp only at hq
      subst hq
      have k1 : wr.cell? ⟨b, o + n, none⟩ = some (.int .i64 (is.getD n 0)) := (((unhide B1).trans ((unhide O).2.mono (unhide B1).size)).cell (p := ⟨b, o + n, none⟩) hb).trans (hc n hlt)
      have HT := hide (take_succ is n hlt)
      obtain ⟨r0, r1⟩ := (unhide H).2.2.2.1.i64 n hlt
      simp only at r0 r1
      have hl : (bytesOf toU 8 (is.take n)).length = n * 8 := by rw [bytesOf_length, List.length_take]; congr 1; omega
      clear hc
      generalize is.getD n 0 = x at k1 HT r0 r1
      have u0 : 0 ≤ toU x := by unfold toU; omega
      have u1 : toU x < 18446744073709551616 := by unfold toU; omega
      have hcv : x % 18446744073709551616 = toU x := rfl
      go_wp2_with fail
      go_loopw [5, 7, 8] (fun v yv kv wq => ∃ j : Nat, ∃ y : Int, kv = .int .i64 j ∧ yv = .int .u64 y ∧ j ≤ 8 ∧ 0 ≤ y ∧ y < 18446744073709551616 ∧ Hid (y = (toU x) / 256 ^ j) ∧ OwnG 5 (Value.int .u8) w1 wq v (bytesOf toU 8 (is.take n) ++ leL (toU x) j)) (fun _ _ kv _ => 8 - (intOf kv).toNat)
      case atStart => exact ⟨0, toU x, rfl, rfl, by omega, u0, u1, hide (by simp), by simpa [leL] using unhide O⟩
      case round =>
        obtain ⟨j, y, rfl, rfl, hj, v0, v1, HY, hQ⟩ := hrel
        have Q := hide hQ
        have x1 := ((unhide X0).below hQ.2).cell
        have zq := ((unhide X0).below hQ.2).lt
        clear hQ
        have RW := hide (fun w => rwidth_any 7 w)
        unfold widthV at RW
        simp only [show ¬ ((7 : Int) = 1) by decide, if_false, if_true] at RW
        by_cases hjl : j < 8
        · have hji : (j : Int) < 8 := by omega
          have d0 : 0 ≤ y / 256 := by omega
          have d1 : y / 256 < 18446744073709551616 := by omega
          have m0 : 0 ≤ y % 256 := by omega
          have m1 : y % 256 < 256 := by omega
          have hl2 : (bytesOf toU 8 (is.take n) ++ leL (toU x) j).length = n * 8 + j := by rw [List.length_append, hl, leL_length]
          have HS : Hid (leL (toU x) (j + 1) = leL (toU x) j ++ [y % 256]) := hide (by rw [unhide HY]; rfl)
          have HY2 : Hid (y / 256 = (toU x) / 256 ^ (j + 1)) := hide (by rw [unhide HY]; exact div_step _ _)
          obtain ⟨m, hm⟩ : ∃ m, y % 256 = m := ⟨_, rfl⟩
          rw [hm] at m0 m1 HS
          have hwr : IntKind.u8.wrap m = m := by rw [IntKind.wrap_u8]; omega
          clear HY
          go_wp2_with (first | (go_at_call 22; (refine (unhide RW _).mono ?_; rintro e w5 ⟨rfl, rfl⟩)) | (at_builtin; (refine wpList_append_ls rfl _ _ 43 rfl w1 5 i1 (.int .u8 0) 1 Try.underlying43 hi1 y1 z1 b1 rfl (int_one .u8) _ (bytesOf toU 8 (is.take n) ++ leL (toU x) j) rfl ((unhide Q).below (al1 _ _)) (some ⟨_, 0, none⟩) 1 [m] rfl (ls_one _ _ _) (by unfold maxLen; rw [hl2]; simp <;> omega) (by rw [hl2]; simp <;> omega) ?_; intro v2 w2 O2; have HO2 := hide O2; clear O2)))
          go_roundw
          case rel => exact ⟨j + 1, y / 256, by go_num, rfl, by omega, d0, d1, HY2, by rw [unhide HS, ← List.append_assoc]; exact unhide HO2⟩
          case measure => simp [intOf]; omega
        · have hji : ¬ (j : Int) < 8 := by omega
          have ej : j = 8 := by omega
          subst ej
          have O3 := hide (own_eq (unhide Q) (show _ = bytesOf toU 8 (is.take (n + 1)) by rw [unhide HT, bytesOf_snoc]))
          clear Q HY
          go_wp2_with (go_at_call 22; (refine (unhide RW _).mono ?_; rintro e w5 ⟨rfl, rfl⟩))
          go_roundw
          case rel => exact ⟨n + 1, by go_num, by omega, unhide O3⟩
          case measure => simp [intOf]; omega
    · have hi : ¬ (n : Int) < (is.length : Int) := by omega
      obtain ⟨q, c, hv, hL, _⟩ := (unhide O).form
      have hB := (unhide O).2
      rw [List.take_of_length_le (by omega)] at hv hL
      subst hv
      have HL := hide hL
      have BB := hide (bl_tr (unhide B1) hB)
      clear hL hB O
      go_wp2_with fail
      go_ret2
      exact ⟨⟨q, c, rfl, (unhide HL).ints (bytesOf_wf _ _ _)⟩, unhide BB⟩

set_option maxRecDepth 100000 in
set_option maxHeartbeats 8000000 in
theorem rbytes_B (ds fs is : List Int) (bs : List Bool) (A : TA) (w : World) (h : TenIn w (9, ds, fs, is, bs) A) (hc : checkV (9, ds, fs, is, bs) = 0) :
    Calls Try.prog 29 #[tenV (9, ds, fs, is, bs) A] w fun e w' => (∃ q c, e = .returned (.tuple #[.slice q (bytesOf b01 1 bs).length c, .int .i64 0]) ∧ Ints .u8 w' q c (bytesOf b01 1 bs)) ∧ Below w.heap.size w w' := by
  obtain ⟨pd, cd, pf, cf, pi, ci, pb, cb⟩ := A
  obtain ⟨i1, hi1, y1, z1, b1⟩ := info_parts Try.infoU8
  have CK := hide (fun w h => rcheck_any (9, ds, fs, is, bs) ⟨pd, cd, pf, cf, pi, ci, pb, cb⟩ w h)
  have H := hide h
  obtain ⟨sf, si, sb⟩ := check_small hc
  simp only at sf si sb
  obtain ⟨lf, li, lb⟩ := check_lens hc
  have hsum : (fs.length : Int) + (is.length : Int) + (bs.length : Int) = (bs.length : Int) := by simp only at lf li lb; simp at lf li lb; rw [lf, li]; simp
  rw [hc] at CK
  unfold tenV tenCells at CK
  simp only at CK
  unfold tenV tenCells
  simp only
  clear hc h lf li lb
  go_enter Try.func29, Try.ntmps29
  go_wp2_with fail
  refine (unhide CK _ ((unhide H).below (al1 _ _))).mono ?_
  rintro e w1 ⟨rfl, hb⟩
  have X0 := hide (Box.below (Box.new w #[.int .i64 9, .slice pd ds.length cd, .slice pf fs.length cf, .slice pi is.length ci, .slice pb bs.length cb] 27) hb)
  have x0 := (unhide X0).cell
  have B1 := hide (bl_tr (al1 _ _) hb)
  clear hb CK
  go_wp2_with fail
  clear x0
  go_loopw [5, 6] (fun v iv wr => ∃ n : Nat, iv = .int .i64 n ∧ n ≤ bs.length ∧ OwnG 5 (Value.int .u8) w1 wr v (bytesOf b01 1 (bs.take n))) (fun _ iv _ => bs.length - (intOf iv).toNat)
  case atStart => exact ⟨0, rfl, by omega, by simpa [bytesOf] using OwnG.nil (f := Value.int .u8) 5 w1 w1 (Below.refl _ _)⟩
  case round =>
    obtain ⟨n, rfl, hn, hO⟩ := hrel
    have O := hide hO
    have x0 := ((unhide X0).below hO.2).cell
    have zz := ((unhide X0).below hO.2).lt
    clear hO
    by_cases hlt : n < bs.length
    · have hi : (n : Int) < (bs.length : Int) := by omega
      obtain ⟨b, o, hq, hb, hc⟩ := (unhide H).2.2.2.2.lies (show 0 < bs.length by omega)
      simp only at hq
      subst hq
      have k1 : wr.cell? ⟨b, o + n, none⟩ = some (.bool (bs.getD n false)) := (((unhide B1).trans ((unhide O).2.mono (unhide B1).size)).cell (p := ⟨b, o + n, none⟩) hb).trans (hc n hlt)
      have HT : Hid (bs.take (n + 1) = bs.take n ++ [bs.getD n false]) := hide (take_getD bs n hlt)
      have hl : (bytesOf b01 1 (bs.take n)).length = n * 1 := by rw [bytesOf_length, List.length_take]; congr 1; omega
      clear hc
      generalize bs.getD n false = x at k1 HT
      cases x
      · have u0 : (0 : Int) ≤ (0 : Int) := by decide
        have u1 : (0 : Int) < 18446744073709551616 := by decide
        have HX : Hid (b01 false = (0 : Int)) := hide rfl
        go_wp2_with fail
        go_loopw [5, 7, 8] (fun v yv kv wq => ∃ j : Nat, ∃ y : Int, kv = .int .i64 j ∧ yv = .int .u64 y ∧ j ≤ 1 ∧ 0 ≤ y ∧ y < 18446744073709551616 ∧ Hid (y = ((0 : Int)) / 256 ^ j) ∧ OwnG 5 (Value.int .u8) w1 wq v (bytesOf b01 1 (bs.take n) ++ leL ((0 : Int)) j)) (fun _ _ kv _ => 1 - (intOf kv).toNat)
        case atStart => exact ⟨0, (0 : Int), rfl, rfl, by omega, u0, u1, hide (by simp), by simpa [leL] using unhide O⟩
        case round =>
          obtain ⟨j, y, rfl, rfl, hj, v0, v1, HY, hQ⟩ := hrel
          have Q := hide hQ
          have x1 := ((unhide X0).below hQ.2).cell
          have zq := ((unhide X0).below hQ.2).lt
          clear hQ
          have RW := hide (fun w => rwidth_any 9 w)
          unfold widthV at RW
          simp only [show ¬ ((9 : Int) = 1) by decide, show ¬ ((9 : Int) = 7) by decide, if_false, if_true] at RW
          by_cases hjl : j < 1
          · have hji : (j : Int) < 1 := by omega
            have d0 : 0 ≤ y / 256 := by omega
            have d1 : y / 256 < 18446744073709551616 := by omega
            have m0 : 0 ≤ y % 256 := by omega
            have m1 : y % 256 < 256 := by omega
            have hl2 : (bytesOf b01 1 (bs.take n) ++ leL ((0 : Int)) j).length = n * 1 + j := by rw [List.length_append, hl, leL_length]
            have HS : Hid (leL ((0 : Int)) (j + 1) = leL ((0 : Int)) j ++ [y % 256]) := hide (by rw [unhide HY]; rfl)
            have HY2 : Hid (y / 256 = ((0 : Int)) / 256 ^ (j + 1)) := hide (by rw [unhide HY]; exact div_step _ _)
            obtain ⟨m, hm⟩ : ∃ m, y % 256 = m := ⟨_, rfl⟩
            rw [hm] at m0 m1 HS
            have hwr : IntKind.u8.wrap m = m := by rw [IntKind.wrap_u8]; omega
            clear HY
            go_wp2_with (first | (go_at_call 22; (refine (unhide RW _).mono ?_; rintro e w5 ⟨rfl, rfl⟩)) | (at_builtin; (refine wpList_append_ls rfl _ _ 43 rfl w1 5 i1 (.int .u8 0) 1 Try.underlying43 hi1 y1 z1 b1 rfl (int_one .u8) _ (bytesOf b01 1 (bs.take n) ++ leL ((0 : Int)) j) rfl ((unhide Q).below (al1 _ _)) (some ⟨_, 0, none⟩) 1 [m] rfl (ls_one _ _ _) (by unfold maxLen; rw [hl2]; simp <;> omega) (by rw [hl2]; simp <;> omega) ?_; intro v2 w2 O2; have HO2 := hide O2; clear O2)))
            go_roundw
            case rel => exact ⟨j + 1, y / 256, by go_num, rfl, by omega, d0, d1, HY2, by rw [unhide HS, ← List.append_assoc]; exact unhide HO2⟩
            case measure => simp [intOf]; omega
          · have hji : ¬ (j : Int) < 1 := by omega
            have ej : j = 1 := by omega
            subst ej
            have O3 := hide (own_eq (unhide Q) (show _ = bytesOf b01 1 (bs.take (n + 1)) by rw [unhide HT, bytesOf_snoc, unhide HX]))
            clear Q HY
            go_wp2_with (go_at_call 22; (refine (unhide RW _).mono ?_; rintro e w5 ⟨rfl, rfl⟩))
            go_roundw
            case rel => exact ⟨n + 1, by go_num, by omega, unhide O3⟩
            case measure => simp [intOf]; omega
      · have u0 : (0 : Int) ≤ (1 : Int) := by decide
        have u1 : (1 : Int) < 18446744073709551616 := by decide
        have HX : Hid (b01 true = (1 : Int)) := hide rfl
        go_wp2_with fail
        go_loopw [5, 7, 8] (fun v yv kv wq => ∃ j : Nat, ∃ y : Int, kv = .int .i64 j ∧ yv = .int .u64 y ∧ j ≤ 1 ∧ 0 ≤ y ∧ y < 18446744073709551616 ∧ Hid (y = ((1 : Int)) / 256 ^ j) ∧ OwnG 5 (Value.int .u8) w1 wq v (bytesOf b01 1 (bs.take n) ++ leL ((1 : Int)) j)) (fun _ _ kv _ => 1 - (intOf kv).toNat)
        case atStart => exact ⟨0, (1 : Int), rfl, rfl, by omega, u0, u1, hide (by simp), by simpa [leL] using unhide O⟩
        case round =>
          obtain ⟨j, y, rfl, rfl, hj, v0, v1, HY, hQ⟩ := hrel
          have Q := hide hQ
          have x1 := ((unhide X0).below hQ.2).cell
          have zq := ((unhide X0).below hQ.2).lt
          clear hQ
          have RW := hide (fun w => rwidth_any 9 w)
          unfold widthV at RW
          simp only [show ¬ ((9 : Int) = 1) by decide, show ¬ ((9 : Int) = 7) by decide, if_false, if_true] at RW
          by_cases hjl : j < 1
          · have hji : (j : Int) < 1 := by omega
            have d0 : 0 ≤ y / 256 := by omega
            have d1 : y / 256 < 18446744073709551616 := by omega
            have m0 : 0 ≤ y % 256 := by omega
            have m1 : y % 256 < 256 := by omega
            have hl2 : (bytesOf b01 1 (bs.take n) ++ leL ((1 : Int)) j).length = n * 1 + j := by rw [List.length_append, hl, leL_length]
            have HS : Hid (leL ((1 : Int)) (j + 1) = leL ((1 : Int)) j ++ [y % 256]) := hide (by rw [unhide HY]; rfl)
            have HY2 : Hid (y / 256 = ((1 : Int)) / 256 ^ (j + 1)) := hide (by rw [unhide HY]; exact div_step _ _)
            obtain ⟨m, hm⟩ : ∃ m, y % 256 = m := ⟨_, rfl⟩
            rw [hm] at m0 m1 HS
            have hwr : IntKind.u8.wrap m = m := by rw [IntKind.wrap_u8]; omega
            clear HY
            go_wp2_with (first | (go_at_call 22; (refine (unhide RW _).mono ?_; rintro e w5 ⟨rfl, rfl⟩)) | (at_builtin; (refine wpList_append_ls rfl _ _ 43 rfl w1 5 i1 (.int .u8 0) 1 Try.underlying43 hi1 y1 z1 b1 rfl (int_one .u8) _ (bytesOf b01 1 (bs.take n) ++ leL ((1 : Int)) j) rfl ((unhide Q).below (al1 _ _)) (some ⟨_, 0, none⟩) 1 [m] rfl (ls_one _ _ _) (by unfold maxLen; rw [hl2]; simp <;> omega) (by rw [hl2]; simp <;> omega) ?_; intro v2 w2 O2; have HO2 := hide O2; clear O2)))
            go_roundw
            case rel => exact ⟨j + 1, y / 256, by go_num, rfl, by omega, d0, d1, HY2, by rw [unhide HS, ← List.append_assoc]; exact unhide HO2⟩
            case measure => simp [intOf]; omega
          · have hji : ¬ (j : Int) < 1 := by omega
            have ej : j = 1 := by omega
            subst ej
            have O3 := hide (own_eq (unhide Q) (show _ = bytesOf b01 1 (bs.take (n + 1)) by rw [unhide HT, bytesOf_snoc, unhide HX]))
            clear Q HY
            go_wp2_with (go_at_call 22; (refine (unhide RW _).mono ?_; rintro e w5 ⟨rfl, rfl⟩))
            go_roundw
            case rel => exact ⟨n + 1, by go_num, by omega, unhide O3⟩
            case measure => simp [intOf]; omega
    · have hi : ¬ (n : Int) < (bs.length : Int) := by omega
      obtain ⟨q, c, hv, hL, _⟩ := (unhide O).form
      have hB := (unhide O).2
      rw [List.take_of_length_le (by omega)] at hv hL
      subst hv
      have HL := hide hL
      have BB := hide (bl_tr (unhide B1) hB)
      clear hL hB O
      go_wp2_with fail
      go_ret2
      exact ⟨⟨q, c, rfl, (unhide HL).ints (bytesOf_wf _ _ _)⟩, unhide BB⟩
end Go.Proofs.Ytbepkmehnghmcaa
