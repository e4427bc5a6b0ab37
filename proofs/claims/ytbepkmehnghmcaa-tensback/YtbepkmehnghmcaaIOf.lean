import Derived.Test.YtbepkmehnghmcaaIO

/-
  Layer 5: the document's FromBytes, of one type.
-/
namespace Go.Proofs.Ytbepkmehnghmcaa
open Go.RowKit
set_option linter.unusedVariables false

set_option maxRecDepth 100000 in
set_option maxHeartbeats 8000000 in
theorem rfrom_F (p2 p3 : Option Addr) (c2 c3 : Nat) (ds2 b : List Int) (w : World) (h2 : Ints .i64 w p2 c2 ds2) (h3 : Ints .u8 w p3 c3 b) (hn : (sizeV ds2).2 = 0) :
    Calls Try.prog 31 #[.int .i64 1, .slice p2 ds2.length c2, .slice p3 b.length c3] w fun e w' => (∃ C, e = .returned (.tuple #[tenV (fromV 1 ds2 b) C, .int .i64 (fromE 1 ds2 b)]) ∧ TenOwn w.heap.size w' (fromV 1 ds2 b) C) ∧ Below w.heap.size w w' := by
  have e0 : newE 1 ds2 = 0 := by unfold newE; rw [if_neg (by decide), hn]
  have NW := hide (fun w h => rnew_any 1 p2 c2 ds2 w rfl h)
  have SZ := hide (fun w h => rsize_any p2 c2 ds2 w h)
  have RW := hide (fun w => rwidth_any 1 w)
  have hwv : widthV 1 = 4 := by decide
  rw [hwv] at RW
  obtain ⟨N, hN, hN4⟩ := size_nat ds2
  have hnt : newV 1 ds2 = (1, ds2, partL (elF b) 0 (upL N) 0, [], []) := by
    unfold newV; rw [if_pos e0, partL_zero, upL_length]; unfold newT; rw [hN]; simp
  rw [e0, hnt] at NW
  rw [hn, hN] at SZ
  have hbl := h3.len
  have H2 := hide h2
  have H3 := hide h3
  have hlen0 : (partL (elF b) 0 (upL N) 0).length = N := by rw [partL_length _ _ _ _ (by omega), upL_length]
  unfold tenV tenCells at NW
  simp only [hlen0, List.length_nil] at NW
  by_cases hl : (b.length : Int) = (N : Int) * 4
  · have hbn : b.length = N * 4 := by omega
    have hlb : ((b.length : Int) != (N : Int) * 4) = false := bneF hl
    have HBN := hide hbn
    have FG : True → fromE 1 ds2 b = 0 ∧ fromV 1 ds2 b = fromT 1 ds2 b := fun _ => by
      have e1 : fromE 1 ds2 b = 0 := by unfold fromE; rw [if_neg (by rw [e0]; simp), if_neg (by rw [hN, hwv]; simp; omega), if_neg (fun h => absurd h.1 (by decide))]
      exact ⟨e1, by unfold fromV; rw [if_pos e1]⟩
    have HFG := hide FG
    have HFT : Hid (fromT 1 ds2 b = (1, ds2, (upL N).map (elF b), [], [])) := hide (by unfold fromT; rw [hN]; simp)
    obtain ⟨E, hE⟩ : ∃ E, fromE 1 ds2 b = E := ⟨_, rfl⟩
    obtain ⟨V, hV⟩ : ∃ V, fromV 1 ds2 b = V := ⟨_, rfl⟩
    rw [hE, hV] at HFG ⊢
    clear e0 hnt hn hl hE hV hlen0 hbn h2 h3 FG hwv hN
    go_enter Try.func31, Try.ntmps31
    go_wp2_with fail
    refine (unhide NW _ ((unhide H2).below (al1 _ _))).mono ?_
    rintro e w2 ⟨⟨C, rfl, hO⟩, hb⟩
    obtain ⟨qd, ed, qf, ef, qi, ei, qb, eb⟩ := C
    have X2 := hide (Box.below (Box.new w #[.int .i64 0, .slice none 0 0, .slice none 0 0, .slice none 0 0, .slice none 0 0] 27) hb)
    have B2 := hide (bl_tr (al1 _ _) hb)
    have BN := hide hb
    have O2 := hide hO
    simp only [alloc_size] at O2 BN
    simp only
    have z2 : w.heap.size < w2.heap.size := (unhide X2).lt
    have x2 := (unhide X2).cell
    have y2 := (unhide X2).frozen
    clear hb hO NW
    go_wp2_with fail
    refine (unhide SZ _ ((unhide H2).below (bl_tr (unhide B2) (al1 _ _)))).mono ?_
    rintro e w3 ⟨rfl, rfl⟩
    clear SZ
    go_wp2_with fail
    refine (unhide RW _).mono ?_
    rintro e w3 ⟨rfl, rfl⟩
    go_wp2_with fail
    clear x2 y2 hlb
    go_loopw [13] (fun iv wr => ∃ n : Nat, iv = .int .i64 n ∧ n ≤ N ∧ Hid (True) ∧ TenOwn (w.heap.size + 1) wr (1, ds2, partL (elF b) 0 (upL N) n, [], []) ⟨qd, ed, qf, ef, qi, ei, qb, eb⟩ ∧ Below (w.heap.size + 1) w2 wr ∧ w2.heap.size < wr.heap.size ∧ Box wr w.heap.size #[.int .i64 0, .slice none 0 0, .slice none 0 0, .slice none 0 0, .slice none 0 0] 27 ∧ Box wr w2.heap.size #[.int .i64 1, .slice qd ds2.length ed, .slice qf N ef, .slice qi 0 ei, .slice qb 0 eb] 27) (fun iv _ => N - (intOf iv).toNat)
    case atStart => exact ⟨0, rfl, by omega, hide (trivial), (unhide O2).below (al1 _ _), (Below.refl _ _).alloc (by omega) _, by simp, (unhide X2).alloc _, Box.new _ _ _⟩
    case round =>
      obtain ⟨n, rfl, hn, HN, hO, hB, hz, h1, h5⟩ := hrel
      have BR := hide hB
      have OO := hide hO
      have BW := hide (show Below w.heap.size w wr from (unhide B2).trans (hB.mono (by omega)))
      have XB := hide h1
      have XC := hide h5
      have c1 := h1.cell
      have f1 := h1.frozen
      have c5 := h5.cell
      have zz := h1.lt
      clear hB hO h1 h5
      by_cases hlt : n < N
      · have hi : (n : Int) < (N : Int) := by omega
        have hbl2 : n * 4 + 4 ≤ b.length := by rw [unhide HBN]; omega
        obtain ⟨b3, o3, rfl, hb3, hc3⟩ := (unhide H3).lies (show 0 < b.length by omega)
        have HC : Hid (∀ i, i < b.length → wr.cell? ⟨b3, o3 + i, none⟩ = some (.int .u8 (b.getD i 0))) := hide (fun i hi => ((unhide BW).cell (p := ⟨b3, o3 + i, none⟩) hb3).trans (hc3 i hi))
        have HHR := hide (hv_range (unhide H3).2.2.1 (n * 4) 4 (by omega) hbl2)
        obtain ⟨b4, o4, hq4, hb4, hc4⟩ := (unhide OO).1.2.2.1.lies (show 0 < (partL (elF b) 0 (upL N) n).length by rw [partL_length _ _ _ _ (by rw [upL_length]; omega), upL_length]; omega)
        simp only at hq4
        subst hq4
        have hb4b : w.heap.size + 1 ≤ b4 := ((unhide OO).2.2.1 b4 o4 rfl (show 0 < (partL (elF b) 0 (upL N) n).length by rw [partL_length _ _ _ _ (by rw [upL_length]; omega), upL_length]; omega)).1
        have hpl : (partL (elF b) 0 (upL N) n).length = N := by rw [partL_length _ _ _ _ (by rw [upL_length]; omega), upL_length]
        have z4 : wr.frozen? ⟨b4, o4 + n, none⟩ = false := ((unhide OO).2.2.1 b4 o4 rfl (show 0 < (partL (elF b) 0 (upL N) n).length by rw [hpl]; omega)).2 n (by rw [hpl]; exact hlt)
        have k4 := hc4 n (show n < (partL (elF b) 0 (upL N) n).length by rw [hpl]; exact hlt)
        obtain ⟨b6, o6, hq6, hb6, _⟩ := (unhide O2).1.2.2.1.lies (show 0 < (partL (elF b) 0 (upL N) 0).length by rw [partL_length _ _ _ _ (by omega), upL_length]; omega)
        simp only [Option.some.injEq, Addr.mk.injEq] at hq6
        obtain ⟨rfl, rfl, _⟩ := hq6
        have HPS : Hid (∀ x, x = elF b (n : Int) → (partL (elF b) 0 (upL N) n).set n x = partL (elF b) 0 (upL N) (n + 1)) := hide (fun x hx => partL_set _ _ (upL N) n (by rw [upL_length]; exact hlt) x (by rw [upL_getD N n hlt]; exact hx))
        have STO := hide (fun x (hx : (Lit.int .u32 x).wf = true) => (unhide OO).storeF n (show n < (partL (elF b) 0 (upL N) n).length by rw [hpl]; exact hlt) x hx)
        have HPL := hide hpl
        have hb4x : b4 ≠ w.heap.size := by omega
        have hb4y : b4 ≠ w2.heap.size := by omega
        simp only at k4
        generalize (partL (elF b) 0 (upL N) n).getD n 0 = x4 at k4
        clear hc3 hc4 hpl OO
        go_wp2_with fail
        go_loop [14, 15] (fun xv kv => ∃ m : Nat, ∃ y : Int, kv = .int .i64 (4 - 1 - (m : Int)) ∧ xv = .int .u64 y ∧ m ≤ 4 ∧ 0 ≤ y ∧ y < 18446744073709551616 ∧ Hid (y = hv b (n * 4) 4 m)) (fun _ kv => (intOf kv + 1).toNat)
        case atStart => exact ⟨0, 0, by go_num, rfl, by omega, by omega, by omega, hide rfl⟩
        case round =>
          obtain ⟨m, y, rfl, rfl, hm, v0, v1, HY⟩ := hrel
          by_cases hml : m < 4
          · have hge : (0 : Int) ≤ 4 - 1 - (m : Int) := by omega
            obtain ⟨j, hj⟩ : ∃ j : Nat, 4 - 1 - m = j := ⟨_, rfl⟩
            have hji : (4 : Int) - 1 - (m : Int) = (j : Int) := by omega
            have hoff : (n : Int) * 4 + (j : Int) = ((n * 4 + j : Nat) : Int) := by omega
            have hof2 : n * 4 + j < b.length := by omega
            have hof3 : ((n * 4 + j : Nat) : Int) < (b.length : Int) := by omega
            have k3 := unhide HC (n * 4 + j) hof2
            have HS : Hid (hv b (n * 4) 4 (m + 1) = hv b (n * 4) 4 m * 256 + b.getD (n * 4 + j) 0) := hide (by rw [← hj]; rfl)
            obtain ⟨s0, s1⟩ := unhide HHR (m + 1) (by omega)
            have s2 := pow_le (m + 1) (by omega)
            rw [unhide HS, ← unhide HY] at s0 s1
            have hx8 := (unhide H3).2.2.1 _ (getD_mem5 hof2)
            obtain ⟨t0, t1⟩ : 0 ≤ b.getD (n * 4 + j) 0 ∧ b.getD (n * 4 + j) 0 < 256 := by
              simp [Lit.wf, IntKind.min, IntKind.max, IntKind.signed, IntKind.bits] at hx8
              constructor <;> simp <;> omega
            have s3 : y * 256 + b.getD (n * 4 + j) 0 < 18446744073709551616 := by omega
            obtain ⟨jj, hjj⟩ : ∃ jj : Nat, n * 4 + j = jj := ⟨_, rfl⟩
            rw [hjj] at hoff hof2 hof3 k3 HS s0 s3 t0 t1
            generalize b.getD jj 0 = xb at k3 HS s0 s3 t0 t1
            have hjw : (j : Int) - 1 = 4 - 1 - ((m + 1 : Nat) : Int) := by omega
            have HJW := hide hjw
            have s4 : y * 256 < 18446744073709551616 := by omega
            clear s1 s2 hx8 hj hjj hjw
            rw [hji]
            go_wp2_with fail
            go_round
            case rel => exact ⟨m + 1, y * 256 + xb, by rw [← unhide HJW], rfl, by omega, s0, s3, hide (by rw [unhide HS, unhide HY])⟩
            case measure => simp [intOf]
          · have hge : ¬ (0 : Int) ≤ 4 - 1 - (m : Int) := by omega
            have em : m = 4 := by omega
            subst em
            obtain ⟨s0, s1⟩ := unhide HHR 4 (by omega)
            rw [← unhide HY] at s0 s1
            have s2 : y < 4294967296 := by have : (256 : Int) ^ 4 = 4294967296 := by decide
                                           omega
            have O3 := hide (unhide STO y (WalkArith5 s0 s2))
            rw [unhide HPS y (by unfold elF; rw [Int.toNat_natCast, unhide HY])] at O3
            have hwr : IntKind.u32.wrap y = y := by rw [IntKind.wrap_u32]; omega
            clear s1 HPS STO
            go_wp2_with fail
            go_roundw
            case rel => exact ⟨n + 1, by go_num, by omega, hide trivial, unhide O3, (unhide BR).setCell (by omega) _, by simpa [World.setCell] using hz, (unhide XB).other (Ne.symm hb4x) _ _, (unhide XC).other (Ne.symm hb4y) _ _⟩
            case measure => simp [intOf]; omega
      · have hi : ¬ (n : Int) < (N : Int) := by omega
        have en : n = N := by omega
        obtain ⟨g1, g2⟩ := unhide HFG trivial
        subst g1
        have hOF := unhide OO
        rw [partL_all _ _ (upL N) n (by rw [upL_length]; exact en)] at hOF
        rw [unhide HFT] at g2
        subst g2
        have HOF := hide hOF
        have hml : ((upL N).map (elF b)).length = N := by rw [List.length_map, upL_length]
        clear hOF OO HFG
        go_wp2_with fail
        refine bodyPost_ret (v := .tuple #[.agg #[.int .i64 1, .slice qd ds2.length ed, .slice qf N ef, .slice qi 0 ei, .slice qb 0 eb], .int .i64 0]) (by simp [results, Try.results31, go_sem, ((unhide XB).set5 (.int .i64 1) (.slice qd ds2.length ed) (.slice qf N ef) (.slice qi 0 ei) (.slice qb 0 eb)).cell]) rfl ⟨⟨⟨qd, ed, qf, ef, qi, ei, qb, eb⟩, by simp [tenV, tenCells, upL_length], ?_⟩, bset5 (unhide BW) (by omega) _ _ _ _ _⟩
        exact ((unhide HOF).mid ((Mid.refl w.heap.size (w.heap.size + 1) _).set5 (by omega) (by omega) _ _ _ _ _) (by omega)).mono (by omega)
  · have hlb : ((b.length : Int) != (N : Int) * 4) = true := bneT hl
    have e1 : fromE 1 ds2 b = 3 := by unfold fromE; rw [if_neg (by rw [e0]; simp), if_pos (by rw [hN, hwv]; omega)]
    have e2 : fromV 1 ds2 b = noTen := by unfold fromV; rw [if_neg (by rw [e1]; decide)]
    rw [e1, e2]
    clear e0 e1 e2 hnt hn hl hlen0 h2 h3 hwv hN
    go_enter Try.func31, Try.ntmps31
    go_wp2_with fail
    refine (unhide NW _ ((unhide H2).below (al1 _ _))).mono ?_
    rintro e w2 ⟨⟨C, rfl, hO⟩, hb⟩
    obtain ⟨qd, ed, qf, ef, qi, ei, qb, eb⟩ := C
    have X2 := hide (Box.below (Box.new w #[.int .i64 0, .slice none 0 0, .slice none 0 0, .slice none 0 0, .slice none 0 0] 27) hb)
    have B2 := hide (bl_tr (al1 _ _) hb)
    simp only
    have z2 : w.heap.size < w2.heap.size := (unhide X2).lt
    have x2 := (unhide X2).cell
    have y2 := (unhide X2).frozen
    clear hb hO NW
    go_wp2_with fail
    refine (unhide SZ _ ((unhide H2).below (bl_tr (unhide B2) (al1 _ _)))).mono ?_
    rintro e w3 ⟨rfl, rfl⟩
    clear SZ
    go_wp2_with fail
    refine (unhide RW _).mono ?_
    rintro e w3 ⟨rfl, rfl⟩
    go_wp2_with fail
    exact bodyPost_ret (v := .tuple #[tenV noTen noTA, .int .i64 3]) (by simp [results, Try.results31, go_sem, tenV, tenCells, noTen, noTA, (((unhide X2).set5 (.int .i64 0) (.slice none 0 0) (.slice none 0 0) (.slice none 0 0) (.slice none 0 0)).alloc (.cells #[.int .i64 1, .slice qd ds2.length ed, .slice qf N ef, .slice qi 0 ei, .slice qb 0 eb] 27)).cell]) rfl ⟨⟨noTA, rfl, noTen_own _ _⟩, (bset5 (unhide B2) (by omega) _ _ _ _ _).alloc (by simp [World.setCell]; omega) _⟩
end Go.Proofs.Ytbepkmehnghmcaa
