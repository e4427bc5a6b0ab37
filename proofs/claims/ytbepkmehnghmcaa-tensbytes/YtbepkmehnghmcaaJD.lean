import Derived.Test.YtbepkmehnghmcaaJB

/-
  Layer 5: the code's Same.
-/
namespace Go.Proofs.Ytbepkmehnghmcaa
open Go.RowKit
set_option linter.unusedVariables false

set_option maxRecDepth 100000 in
set_option maxHeartbeats 4000000 in
theorem tsame_any (T U : Ten) (A C : TA) (w : World) (h : TenIn w T A) (k : TenIn w U C) :
    Calls Try.prog 18 #[tenV T A, tenV U C] w fun e w' => e = .returned (.bool (decide (T = U))) ∧ Below w.heap.size w w' := by
  obtain ⟨ty, ds, fs, is, bs⟩ := T
  obtain ⟨pd, cd, pf, cf, pi, ci, pb, cb⟩ := A
  obtain ⟨ty', ds', fs', is', bs'⟩ := U
  obtain ⟨pd', cd', pf', cf', pi', ci', pb', cb'⟩ := C
  obtain ⟨a0, a1, a2, a3, a4⟩ := h
  obtain ⟨b0, b1, b2, b3, b4⟩ := k
  simp only at a0 a1 a2 a3 a4 b0 b1 b2 b3 b4
  unfold tenV tenCells
  simp only
  have E1 := hide (fun v (hv : Below w.heap.size w v) => equal_int pd pd' cd cd' ds ds' v (a1.below hv).ls (b1.below hv).ls)
  have E2 := hide (fun v (hv : Below w.heap.size w v) => equal_uint32 pf pf' cf cf' fs fs' v (a2.below hv).ls (b2.below hv).ls)
  have E3 := hide (fun v (hv : Below w.heap.size w v) => equal_int64 pi pi' ci ci' is is' v (a3.below hv).ls (b3.below hv).ls)
  have E4 := hide (fun v (hv : Below w.heap.size w v) => equal_bool pb pb' cb cb' bs bs' v (a4.below hv) (b4.below hv))
  have HX : Hid (decide ((ty, ds, fs, is, bs) = (ty', ds', fs', is', bs')) = (decide (ty = ty') && (decide (ds = ds') && (decide (fs = fs') && (decide (is = is') && decide (bs = bs')))))) := hide (by
    simp only [Prod.mk.injEq, Bool.decide_and])
  rw [unhide HX]
  clear a1 a2 a3 a4 b1 b2 b3 b4 HX
  generalize decide (ds = ds') = d1 at E1 ⊢
  generalize decide (fs = fs') = d2 at E2 ⊢
  generalize decide (is = is') = d3 at E3 ⊢
  generalize decide (bs = bs') = d4 at E4 ⊢
  by_cases ht : ty = ty'
  · have tt : (ty == ty') = true := by simp [ht]
    rw [decide_eq_true ht]
    clear ht
    cases d1
    · go_enter Try.func18, Try.ntmps18
      go_wp2_with fail
      refine (unhide E1 _ (al2 _ _ _)).mono ?_
      rintro e w1 ⟨rfl, hb⟩
      have X1 := hide (Box.below (Box.alloc (Box.new w #[.int .i64 ty, .slice pd ds.length cd, .slice pf fs.length cf, .slice pi is.length ci, .slice pb bs.length cb] 27) _) hb)
      have Y1 := hide (Box.below (Box.new (w.alloc _) #[.int .i64 ty', .slice pd' ds'.length cd', .slice pf' fs'.length cf', .slice pi' is'.length ci', .slice pb' bs'.length cb'] 27) hb)
      simp only [alloc_size] at Y1
      have B1 := hide (bl_tr (al2 _ _ _) hb)
      have x1 := (unhide X1).cell
      have y1 := (unhide Y1).cell
      clear hb
      go_wp2_with fail
      go_ret
      exact ⟨ret_bool (by first | rfl | simp), unhide B1⟩
    · cases d2
      · go_enter Try.func18, Try.ntmps18
        go_wp2_with fail
        refine (unhide E1 _ (al2 _ _ _)).mono ?_
        rintro e w1 ⟨rfl, hb⟩
        have X1 := hide (Box.below (Box.alloc (Box.new w #[.int .i64 ty, .slice pd ds.length cd, .slice pf fs.length cf, .slice pi is.length ci, .slice pb bs.length cb] 27) _) hb)
        have Y1 := hide (Box.below (Box.new (w.alloc _) #[.int .i64 ty', .slice pd' ds'.length cd', .slice pf' fs'.length cf', .slice pi' is'.length ci', .slice pb' bs'.length cb'] 27) hb)
        simp only [alloc_size] at Y1
        have B1 := hide (bl_tr (al2 _ _ _) hb)
        have x1 := (unhide X1).cell
        have y1 := (unhide Y1).cell
        clear hb
        go_wp2_with fail
        refine (unhide E2 _ (unhide B1)).mono ?_
        rintro e w2 ⟨rfl, hb⟩
        have X2 := hide ((unhide X1).below hb)
        have Y2 := hide ((unhide Y1).below hb)
        have B2 := hide (bl_tr (unhide B1) hb)
        clear x1 y1
        have x2 := (unhide X2).cell
        have y2 := (unhide Y2).cell
        clear hb
        go_wp2_with fail
        go_ret
        exact ⟨ret_bool (by first | rfl | simp), unhide B2⟩
      · cases d3
        · go_enter Try.func18, Try.ntmps18
          go_wp2_with fail
          refine (unhide E1 _ (al2 _ _ _)).mono ?_
          rintro e w1 ⟨rfl, hb⟩
          have X1 := hide (Box.below (Box.alloc (Box.new w #[.int .i64 ty, .slice pd ds.length cd, .slice pf fs.length cf, .slice pi is.length ci, .slice pb bs.length cb] 27) _) hb)
          have Y1 := hide (Box.below (Box.new (w.alloc _) #[.int .i64 ty', .slice pd' ds'.length cd', .slice pf' fs'.length cf', .slice pi' is'.length ci', .slice pb' bs'.length cb'] 27) hb)
          simp only [alloc_size] at Y1
          have B1 := hide (bl_tr (al2 _ _ _) hb)
          have x1 := (unhide X1).cell
          have y1 := (unhide Y1).cell
          clear hb
          go_wp2_with fail
          refine (unhide E2 _ (unhide B1)).mono ?_
          rintro e w2 ⟨rfl, hb⟩
          have X2 := hide ((unhide X1).below hb)
          have Y2 := hide ((unhide Y1).below hb)
          have B2 := hide (bl_tr (unhide B1) hb)
          clear x1 y1
          have x2 := (unhide X2).cell
          have y2 := (unhide Y2).cell
          clear hb
          go_wp2_with fail
          refine (unhide E3 _ (unhide B2)).mono ?_
          rintro e w3 ⟨rfl, hb⟩
          have X3 := hide ((unhide X2).below hb)
          have Y3 := hide ((unhide Y2).below hb)
          have B3 := hide (bl_tr (unhide B2) hb)
          clear x2 y2
          have x3 := (unhide X3).cell
          have y3 := (unhide Y3).cell
          clear hb
          go_wp2_with fail
          go_ret
          exact ⟨ret_bool (by first | rfl | simp), unhide B3⟩
        · cases d4
          · go_enter Try.func18, Try.ntmps18
            go_wp2_with fail
            refine (unhide E1 _ (al2 _ _ _)).mono ?_
            rintro e w1 ⟨rfl, hb⟩
            have X1 := hide (Box.below (Box.alloc (Box.new w #[.int .i64 ty, .slice pd ds.length cd, .slice pf fs.length cf, .slice pi is.length ci, .slice pb bs.length cb] 27) _) hb)
            have Y1 := hide (Box.below (Box.new (w.alloc _) #[.int .i64 ty', .slice pd' ds'.length cd', .slice pf' fs'.length cf', .slice pi' is'.length ci', .slice pb' bs'.length cb'] 27) hb)
            simp only [alloc_size] at Y1
            have B1 := hide (bl_tr (al2 _ _ _) hb)
            have x1 := (unhide X1).cell
            have y1 := (unhide Y1).cell
            clear hb
            go_wp2_with fail
            refine (unhide E2 _ (unhide B1)).mono ?_
            rintro e w2 ⟨rfl, hb⟩
            have X2 := hide ((unhide X1).below hb)
            have Y2 := hide ((unhide Y1).below hb)
            have B2 := hide (bl_tr (unhide B1) hb)
            clear x1 y1
            have x2 := (unhide X2).cell
            have y2 := (unhide Y2).cell
            clear hb
            go_wp2_with fail
            refine (unhide E3 _ (unhide B2)).mono ?_
            rintro e w3 ⟨rfl, hb⟩
            have X3 := hide ((unhide X2).below hb)
            have Y3 := hide ((unhide Y2).below hb)
            have B3 := hide (bl_tr (unhide B2) hb)
            clear x2 y2
            have x3 := (unhide X3).cell
            have y3 := (unhide Y3).cell
            clear hb
            go_wp2_with fail
            refine (unhide E4 _ (unhide B3)).mono ?_
            rintro e w4 ⟨rfl, hb⟩
            have X4 := hide ((unhide X3).below hb)
            have Y4 := hide ((unhide Y3).below hb)
            have B4 := hide (bl_tr (unhide B3) hb)
            clear x3 y3
            have x4 := (unhide X4).cell
            have y4 := (unhide Y4).cell
            clear hb
            go_wp2_with fail
            go_ret
            exact ⟨ret_bool (by first | rfl | simp), unhide B4⟩
          · go_enter Try.func18, Try.ntmps18
            go_wp2_with fail
            refine (unhide E1 _ (al2 _ _ _)).mono ?_
            rintro e w1 ⟨rfl, hb⟩
            have X1 := hide (Box.below (Box.alloc (Box.new w #[.int .i64 ty, .slice pd ds.length cd, .slice pf fs.length cf, .slice pi is.length ci, .slice pb bs.length cb] 27) _) hb)
            have Y1 := hide (Box.below (Box.new (w.alloc _) #[.int .i64 ty', .slice pd' ds'.length cd', .slice pf' fs'.length cf', .slice pi' is'.length ci', .slice pb' bs'.length cb'] 27) hb)
            simp only [alloc_size] at Y1
            have B1 := hide (bl_tr (al2 _ _ _) hb)
            have x1 := (unhide X1).cell
            have y1 := (unhide Y1).cell
            clear hb
            go_wp2_with fail
            refine (unhide E2 _ (unhide B1)).mono ?_
            rintro e w2 ⟨rfl, hb⟩
            have X2 := hide ((unhide X1).below hb)
            have Y2 := hide ((unhide Y1).below hb)
            have B2 := hide (bl_tr (unhide B1) hb)
            clear x1 y1
            have x2 := (unhide X2).cell
            have y2 := (unhide Y2).cell
            clear hb
            go_wp2_with fail
            refine (unhide E3 _ (unhide B2)).mono ?_
            rintro e w3 ⟨rfl, hb⟩
            have X3 := hide ((unhide X2).below hb)
            have Y3 := hide ((unhide Y2).below hb)
            have B3 := hide (bl_tr (unhide B2) hb)
            clear x2 y2
            have x3 := (unhide X3).cell
            have y3 := (unhide Y3).cell
            clear hb
            go_wp2_with fail
            refine (unhide E4 _ (unhide B3)).mono ?_
            rintro e w4 ⟨rfl, hb⟩
            have X4 := hide ((unhide X3).below hb)
            have Y4 := hide ((unhide Y3).below hb)
            have B4 := hide (bl_tr (unhide B3) hb)
            clear x3 y3
            have x4 := (unhide X4).cell
            have y4 := (unhide Y4).cell
            clear hb
            go_wp2_with fail
            go_ret
            exact ⟨ret_bool (by first | rfl | simp), unhide B4⟩
  · have tt : (ty == ty') = false := by simp [ht]
    rw [decide_eq_false ht]
    clear ht
    go_enter Try.func18, Try.ntmps18
    go_wp2_with fail
    go_ret
    exact ⟨ret_bool (by first | rfl | simp), al2 _ _ _⟩
end Go.Proofs.Ytbepkmehnghmcaa
