import Derived.Test.YtbepkmehnghmcaaIL

/-
  Layer 5: the document's Pick, of one type.
-/
namespace Go.Proofs.Ytbepkmehnghmcaa
open Go.RowKit
set_option linter.unusedVariables false

set_option maxRecDepth 100000 in
set_option maxHeartbeats 8000000 in
theorem rpick_I (ds fs is : List Int) (bs : List Bool) (A : TA) (p2 p3 : Option Addr) (c2 c3 : Nat) (ds2 at' : List Int) (w : World) (h : TenIn w (7, ds, fs, is, bs) A) (h2 : Ints .i64 w p2 c2 ds2) (h3 : Ints .i64 w p3 c3 at') (hc : checkV (7, ds, fs, is, bs) = 0) (hn : (sizeV ds2).2 = 0) (hl : (at'.length : Int) = (sizeV ds2).1) :
    Calls Try.prog 25 #[tenV (7, ds, fs, is, bs) A, .slice p2 ds2.length c2, .slice p3 at'.length c3] w fun e w' => (∃ C, e = .returned (.tuple #[tenV (pickV (7, ds, fs, is, bs) ds2 at') C, .int .i64 (pickE (7, ds, fs, is, bs) ds2 at')]) ∧ TenOwn w.heap.size w' (pickV (7, ds, fs, is, bs) ds2 at') C) ∧ Below w.heap.size w w' := by
  obtain ⟨pd, cd, pf, cf, pi, ci, pb, cb⟩ := A
  have e0 := newE_of (ds := ds2) hc
  simp only at e0
  have PB := hide (pick_bad hc hn hl)
  have PG := hide (pick_good hc hn hl)
  have CK := hide (fun w h => rcheck_any (7, ds, fs, is, bs) ⟨pd, cd, pf, cf, pi, ci, pb, cb⟩ w h)
  have NW := hide (fun w h => rnew_any 7 p2 c2 ds2 w rfl h)
  have SZ := hide (fun w h => rsize_any p2 c2 ds2 w h)
  obtain ⟨sf, si, sb⟩ := check_small hc
  simp only at sf si sb
  obtain ⟨lf, li, lb⟩ := check_lens hc
  have hnt : newV 7 ds2 = (7, ds2, [], partL (pkI is) 0 at' 0, []) := by
    unfold newV; rw [if_pos (by rw [e0, hn]), partL_zero]; unfold newT; rw [← hl]; simp
  rw [hc] at CK
  rw [e0, hn, hnt] at NW
  rw [hn, ← hl] at SZ
  have hal : at'.length ≤ 4096 := by obtain ⟨n, g1, g2⟩ := size_nat ds2; omega
  have hhv : haveN (7, ds, fs, is, bs) = is.length := by
    unfold haveN; simp only at lf li lb ⊢; simp at lf li lb; rw [lf, lb]; simp
  have hsum : (fs.length : Int) + (is.length : Int) + (bs.length : Int) = (is.length : Int) := by have := hhv; unfold haveN at this; simp only at this; omega
  have HHV := hide hhv
  obtain ⟨E, hE⟩ : ∃ E, pickE (7, ds, fs, is, bs) ds2 at' = E := ⟨_, rfl⟩
  obtain ⟨V, hV⟩ : ∃ V, pickV (7, ds, fs, is, bs) ds2 at' = V := ⟨_, rfl⟩
  rw [hE, hV] at PB PG ⊢
  have H := hide h
  have H2 := hide h2
  have H3 := hide h3
  have hlen0 : (partL (pkI is) 0 at' 0).length = at'.length := partL_length _ _ _ _ (by omega)
  unfold tenV tenCells at CK NW
  simp only [hlen0, List.length_nil] at CK NW
  unfold tenV tenCells
  simp only
  clear e0 hnt hc h h2 h3 hn hl hE hV lf li lb hlen0 hhv
  go_enter Try.func25, Try.ntmps25
  go_wp2_with fail
  refine (unhide CK _ ((unhide H).below (al2 _ _ _))).mono ?_
  rintro e w1 ⟨rfl, hb⟩
  have X0 := hide (Box.below (Box.alloc (Box.new w #[.int .i64 7, .slice pd ds.length cd, .slice pf fs.length cf, .slice pi is.length ci, .slice pb bs.length cb] 27) _) hb)
  have X1 := hide (Box.below (Box.new (w.alloc _) #[.int .i64 0, .slice none 0 0, .slice none 0 0, .slice none 0 0, .slice none 0 0] 27) hb)
  simp only [alloc_size] at X1
  have B1 := hide (bl_tr (al2 _ _ _) hb)
  have x0 := (unhide X0).cell
  have x1 := (unhide X1).cell
  have y1 := (unhide X1).frozen
  have z1 : w.heap.size + 1 < w1.heap.size := (unhide X1).lt
  clear hb CK
  go_wp2_with fail
  refine (unhide NW w1 ((unhide H2).below (unhide B1))).mono ?_
  rintro e w2 ⟨⟨C, rfl, hO⟩, hb⟩
  obtain ⟨qd, ed, qf, ef, qi, ei, qb, eb⟩ := C
  have X2 := hide ((unhide X1).below hb)
  have X3 := hide ((unhide X0).below hb)
  have B2 := hide (bl_tr (unhide B1) hb)
  have O2 := hide hO
  have BN := hide hb
  simp only
  have z2 : w.heap.size + 1 < w2.heap.size := (unhide X2).lt
  have z3 : w.heap.size < w2.heap.size := by omega
  have z4 : w1.heap.size ≤ w2.heap.size := hb.size
  have x2 := (unhide X2).cell
  have x3 := (unhide X3).cell
  have y2 := (unhide X2).frozen
  clear x0 x1 y1 hb hO NW X0 X1
  go_wp2_with fail
  refine (unhide SZ _ ((unhide H2).below (bl_tr (unhide B2) (al1 _ _)))).mono ?_
  rintro e w3 ⟨rfl, rfl⟩
  clear SZ
  go_wp2_with fail
  clear x2 x3 y2
  go_loopw [14] (fun iv wr => ∃ n : Nat, iv = .int .i64 n ∧ n ≤ at'.length ∧ Hid (∀ a ∈ at'.take n, ¬ (a < -1 ∨ (is.length : Int) ≤ a)) ∧ TenOwn w1.heap.size wr (7, ds2, [], partL (pkI is) 0 at' n, []) ⟨qd, ed, qf, ef, qi, ei, qb, eb⟩ ∧ Below w1.heap.size w1 wr ∧ w2.heap.size < wr.heap.size ∧ Box wr w.heap.size #[.int .i64 7, .slice pd ds.length cd, .slice pf fs.length cf, .slice pi is.length ci, .slice pb bs.length cb] 27 ∧ Box wr (w.heap.size + 1) #[.int .i64 0, .slice none 0 0, .slice none 0 0, .slice none 0 0, .slice none 0 0] 27 ∧ Box wr w2.heap.size #[.int .i64 7, .slice qd ds2.length ed, .slice qf 0 ef, .slice qi at'.length ei, .slice qb 0 eb] 27) (fun iv _ => at'.length - (intOf iv).toNat)
  case atStart => exact ⟨0, rfl, by omega, hide (by simp), (unhide O2).below (al1 _ _), bl_tr (unhide BN) (al1 _ _), by simp, (unhide X3).alloc _, (unhide X2).alloc _, Box.new _ _ _⟩
  case round =>
    obtain ⟨n, rfl, hn, HN, hO, hB, hz, h0, h1, h5⟩ := hrel
    have BR := hide hB
    have OO := hide hO
    have BW := hide (show Below w.heap.size w wr from (unhide B1).trans (hB.mono (by omega)))
    have XA := hide h0
    have XB := hide h1
    have XC := hide h5
    have c0 := h0.cell
    have c1 := h1.cell
    have f1 := h1.frozen
    have c5 := h5.cell
    have zz := h1.lt
    have zz0 := h0.lt
    clear hB hO h0 h1 h5
    by_cases hlt : n < at'.length
    · have hi : (n : Int) < (at'.length : Int) := by omega
      obtain ⟨b3, o3, rfl, hb3, hc3⟩ := (unhide H3).lies (by omega)
      have k3 : wr.cell? ⟨b3, o3 + n, none⟩ = some (.int .i64 (at'.getD n 0)) := ((unhide BW).cell (p := ⟨b3, o3 + n, none⟩) hb3).trans (hc3 n hlt)
      obtain ⟨r0, r1⟩ := (unhide H3).i64 n hlt
      have HT := hide (take_succ at' n hlt)
      have HM := hide (getD_mem5 hlt)
      have HPS : Hid (∀ x, x = pkI is (at'.getD n 0) → (partL (pkI is) 0 at' n).set n x = partL (pkI is) 0 at' (n + 1)) := hide (fun x hx => partL_set _ _ at' n hlt x hx)
      have HPK : Hid (pkI is (at'.getD n 0) = 0 → partL (pkI is) 0 at' n = partL (pkI is) 0 at' (n + 1)) := hide (fun hx => partL_skip _ _ at' n hlt hx)
      have hpl : (partL (pkI is) 0 at' n).length = at'.length := partL_length _ _ _ _ (by omega)
      have HPL := hide hpl
      clear hc3 hpl
      generalize at'.getD n 0 = a at k3 r0 r1 HT HM HPS HPK
      by_cases hlo : a < -1
      · have t1 : decide (a < -1) = true := by simp [hlo]
        obtain ⟨g1, g2⟩ := unhide PB ⟨a, unhide HM, .inl hlo⟩
        subst g1
        subst g2
        clear HPS HPK PB PG
        go_wp2_with fail
        refine bodyPost_ret (v := .tuple #[tenV noTen noTA, .int .i64 2]) (by simp [results, Try.results25, go_sem, tenV, tenCells, noTen, noTA, ((unhide XB).set5 (.int .i64 0) (.slice none 0 0) (.slice none 0 0) (.slice none 0 0) (.slice none 0 0)).cell]) rfl ⟨⟨noTA, rfl, noTen_own _ _⟩, bset5 (unhide BW) (by omega) _ _ _ _ _⟩
      · have t1 : decide (a < -1) = false := by simp; omega
        by_cases hhi : (is.length : Int) ≤ a
        · have t2 : decide ((is.length : Int) ≤ a) = true := by simp [hhi]
          obtain ⟨g1, g2⟩ := unhide PB ⟨a, unhide HM, .inr (by rw [unhide HHV]; exact hhi)⟩
          subst g1
          subst g2
          clear HPS HPK PB PG
          go_wp2_with fail
          refine bodyPost_ret (v := .tuple #[tenV noTen noTA, .int .i64 2]) (by simp [results, Try.results25, go_sem, tenV, tenCells, noTen, noTA, ((unhide XB).set5 (.int .i64 0) (.slice none 0 0) (.slice none 0 0) (.slice none 0 0) (.slice none 0 0)).cell]) rfl ⟨⟨noTA, rfl, noTen_own _ _⟩, bset5 (unhide BW) (by omega) _ _ _ _ _⟩
        · have t2 : decide ((is.length : Int) ≤ a) = false := by simp; omega
          have HN2 : Hid (∀ a ∈ at'.take (n + 1), ¬ (a < -1 ∨ (is.length : Int) ≤ a)) := hide (by
            rw [unhide HT]; intro y hy
            rcases List.mem_append.1 hy with g | g
            · exact unhide HN y g
            · simp at g; subst g; omega)
          by_cases ha : 0 ≤ a
          · obtain ⟨j, hj⟩ : ∃ j : Nat, a = (j : Int) := ⟨a.toNat, by omega⟩
            subst hj
            have hjl : j < is.length := by omega
            obtain ⟨b4, o4, hq4, hb4, _⟩ := (unhide OO).1.2.2.2.1.lies (show 0 < (partL (pkI is) 0 at' n).length by rw [unhide HPL]; omega)
            simp only at hq4
            subst hq4
            have hb4b : w1.heap.size ≤ b4 := ((unhide OO).2.2.2.1 b4 o4 rfl (show 0 < (partL (pkI is) 0 at' n).length by rw [unhide HPL]; omega)).1
            obtain ⟨b6, o6, hq6, hb6, _⟩ := (unhide O2).1.2.2.2.1.lies (show 0 < (partL (pkI is) 0 at' 0).length by rw [partL_length _ _ _ _ (by omega)]; omega)
            simp only [Option.some.injEq, Addr.mk.injEq] at hq6
            obtain ⟨rfl, rfl, _⟩ := hq6
            have PT := rput_I w1.heap.size ds2 [] (partL (pkI is) 0 at' n) [] qd qf qb ed ef ei eb b4 o4 (7, ds, fs, is, bs) ⟨pd, cd, pf, cf, pi, ci, pb, cb⟩ n j wr.drew ((unhide OO).below (bdrew _)) ((unhide H).below (unhide BW).drew) (by show _ ≤ wr.heap.size; omega) (by rw [unhide HPL]; exact hlt) hjl
            have hpk : is.getD j 0 = pkI is (j : Int) := by unfold pkI; rw [if_neg (by omega)]; rfl
            simp only at PT
            rw [unhide HPS _ hpk] at PT
            unfold tenV tenCells at PT
            simp only [unhide HPL, List.length_nil] at PT
            have HPT := hide PT
            clear PT hpk HPS HPK
            go_wp2_with fail
            go_region_with (go_at_call 53; refine (unhide HPT).mono ?_; rintro e w6 ⟨rfl, hO6, hB6, hM6⟩; have BR6 := hide ((unhide BR).drew.trans hB6); have O6 := hide hO6; have Y0 := hide (((unhide XA).below (bdrew _)).mid hM6 (.inl (by omega))); have Y1 := hide (((unhide XB).below (bdrew _)).mid hM6 (.inl (by omega))); have Y5 := hide (((unhide XC).below (bdrew _)).mid hM6 (.inr (by omega))); have hz6 : wr.heap.size ≤ w6.heap.size := hM6.1; clear hO6 hB6 hM6)
            all_goals
              go_wp2_with fail
              go_roundw
              case rel => exact ⟨n + 1, by go_num, by omega, HN2, unhide O6, unhide BR6, by omega, unhide Y0, unhide Y1, unhide Y5⟩
              case measure => simp [intOf]; omega
          · have t3 : ¬ (0 : Int) ≤ a := ha
            have O6 : Hid (TenOwn w1.heap.size wr (7, ds2, [], partL (pkI is) 0 at' (n + 1), []) ⟨qd, ed, qf, ef, qi, ei, qb, eb⟩) := hide (by
              rw [← unhide HPK (by unfold pkI; rw [if_pos (by omega)])]; exact unhide OO)
            clear HPS HPK
            go_wp2_with fail
            go_roundw
            case rel => exact ⟨n + 1, by go_num, by omega, HN2, unhide O6, unhide BR, by omega, unhide XA, unhide XB, unhide XC⟩
            case measure => simp [intOf]; omega
    · have hi : ¬ (n : Int) < (at'.length : Int) := by omega
      have en : n = at'.length := by omega
      have hgood : ¬ ∃ a ∈ at', a < -1 ∨ (haveN (7, ds, fs, is, bs) : Int) ≤ a := by
        rintro ⟨a, g1, g2⟩
        rw [unhide HHV] at g2
        exact unhide HN a (by rw [en, List.take_length]; exact g1) g2
      obtain ⟨g1, g2⟩ := unhide PG hgood
      subst g1
      have hOF := unhide OO
      rw [partL_all _ _ at' n en] at hOF
      have hV : V = (7, ds2, [], at'.map (pkI is), []) := by rw [g2]; unfold pickT; simp
      subst hV
      have HOF := hide hOF
      clear hgood g2 hOF OO PB PG
      go_wp2_with fail
      refine bodyPost_ret (v := .tuple #[.agg #[.int .i64 7, .slice qd ds2.length ed, .slice qf 0 ef, .slice qi at'.length ei, .slice qb 0 eb], .int .i64 0]) (by simp [results, Try.results25, go_sem, ((unhide XB).set5 (.int .i64 7) (.slice qd ds2.length ed) (.slice qf 0 ef) (.slice qi at'.length ei) (.slice qb 0 eb)).cell]) rfl ⟨⟨⟨qd, ed, qf, ef, qi, ei, qb, eb⟩, by simp, ?_⟩, bset5 (unhide BW) (by omega) _ _ _ _ _⟩
      exact ((unhide HOF).mid ((Mid.refl (w.heap.size + 1) (w.heap.size + 2) _).set5 (by omega) (by omega) _ _ _ _ _) (by omega)).mono (by omega)
end Go.Proofs.Ytbepkmehnghmcaa
