/- For any two messages and every number: one behind the other they are one message with the fields of both, and so are the lists of that number; no condition. -/
import Derived.Test.YtbcmfgohbppndabRows
import Derived.WalkKit
import Derived.ProofKit
import Derived.OpenShut
import Derived.Below
import Derived.Carry
import Derived.Test.YtbcmfgohbppndabLN
namespace Go.Proofs.Ytbcmfgohbppndab.pbufJoins
open Go.ChangeShapes Go.WideShapes Go.ChangeAt Go.RowKit
set_option linter.unusedVariables false

theorem own : ownKnob Try.prog.godebug = none := by kernel_rfl
theorem laidOut : laidOutB Try.prog = true := by kernel_rfl

set_option maxRecDepth 100000 in
set_option maxHeartbeats 8000000 in
/-- The statement's call returns true, whatever came in. -/
theorem walk (p0 : Option Addr) (c0 : Nat) (x0 : List Int) (p1 : Option Addr) (c1 : Nat) (x1 : List Int) (a2 : Int) (W : World) (s0 : Ints .u8 W p0 c0 x0) (s1 : Ints .u8 W p1 c1 x1) (w2 : (Lit.int .i64 a2).wf = true) :
    Calls Try.prog 5 #[.slice p0 x0.length c0, .slice p1 x1.length c1, .int .i64 a2] W fun e W' => e = .returned (.bool true) ∧ Below W.heap.size W W' := by
  obtain ⟨i1, hi1, y1, z1, b1⟩ := info_parts Try.infoU8
  obtain ⟨i2, hi2, y2, z2, b2⟩ := info_parts Try.infoCF
  have S0 := hide s0
  have S1 := hide s1
  have n0 := s0.len
  have n1 := s1.len
  have HB0 := hide (wf_isB s0.2.2.1)
  have HB1 := hide (wf_isB s1.2.2.1)
  clear s0 s1 w2
  by_cases hbig : 4194304 < x0.length
  · have t0 : decide ((4194304 : Int) < (x0.length : Int)) = true := decide_eq_true (by omega)
    clear hi1 hi2
    go_enter Try.func5, Try.ntmps5
    go_wp2_with fail
    refine (awake6_any _).mono ?_
    rintro e w1 ⟨rfl, hb⟩
    have B := hide hb
    clear hb
    go_wp2_with fail
    go_ret
    exact ⟨rfl, unhide B⟩
  · have t0 : decide ((4194304 : Int) < (x0.length : Int)) = false := decide_eq_false (by omega)
    by_cases hbig2 : 4194304 - x0.length < x1.length
    · have t1 : decide ((4194304 : Int) - (x0.length : Int) < (x1.length : Int)) = true := decide_eq_true (by omega)
      clear hi1 hi2
      go_enter Try.func5, Try.ntmps5
      go_wp2_with fail
      refine (awake6_any _).mono ?_
      rintro e w1 ⟨rfl, hb⟩
      have B := hide hb
      clear hb
      go_wp2_with fail
      go_ret
      exact ⟨rfl, unhide B⟩
    · have t1 : decide ((4194304 : Int) - (x0.length : Int) < (x1.length : Int)) = false := decide_eq_false (by omega)
      have hs0 : x0.length ≤ 4194304 := by omega
      have hs1 : x1.length ≤ 4194304 := by omega
      have hsj : x0.length + x1.length ≤ 4194304 := by omega
      have hlj : (x0 ++ x1).length ≤ 4194304 := by rw [List.length_append]; omega
      have RA := hide (fun w h => cread_any p0 c0 x0 w h)
      have RB := hide (fun w h => cread_any p1 c1 x1 w h)
      have RJ := hide (fun q d w h => cread_any q d (x0 ++ x1) w h)
      have HSA := hide (fun L h => read_sum (L := L) (unhide HB0) hs0 h)
      have HSB := hide (fun L h => read_sum (L := L) (unhide HB1) hs1 h)
      have HSJ := hide (fun L h => read_sum (L := L) (isB_append (unhide HB0) (unhide HB1)) hlj h)
      have jn : ∀ l, readV x0 = (l, 0) → readV (x0 ++ x1) = if (readV x1).2 = 0 then (l ++ (readV x1).1, 0) else ([], 6) := fun l h => read_join (unhide HB0) h hsj
      have ea := readV_err x0
      rcases readV_code x0 hs0 with ca | ca
      · obtain ⟨A1, hA⟩ : ∃ A1, readV x0 = (A1, 0) := ⟨(readV x0).1, by rw [← ca]⟩
        have jn2 := jn A1 hA
        rw [hA] at RA HSA
        simp only at RA HSA
        rcases readV_code x1 hs1 with cb | cb
        · obtain ⟨B1, hB⟩ : ∃ B1, readV x1 = (B1, 0) := ⟨(readV x1).1, by rw [← cb]⟩
          rw [hB] at RB jn2 HSB
          simp only [if_true] at RB jn2 HSB
          rw [jn2] at RJ HSJ
          simp only at RJ HSJ
          clear jn jn2 ea ca cb hA hB
          go_enter Try.func5, Try.ntmps5
          go_wp2_with fail
          refine (awake6_any _).mono ?_
          rintro e w1 ⟨rfl, hb⟩
          have B := hide hb
          clear hb
          go_wp2_with fail
          refine (unhide RA _ ((unhide S0).below (unhide B))).mono ?_
          rintro e w2 ⟨v2, LA, rfl, hfa, hLA⟩
          obtain ⟨q2, d2, rfl, hF2⟩ := (unhide hLA).fls
          have F2 := hide hF2
          clear hF2
          have OA := hLA
          have HFA := hfa
          replace B := hide (bl_tr (unhide B) (unhide hLA).1.2)
          clear hLA hfa RA
          go_wp2_with fail
          refine (unhide RB _ ((unhide S1).below (unhide B))).mono ?_
          rintro e w3 ⟨v3, LB, rfl, hfb, hLB⟩
          obtain ⟨q3, d3, rfl, hF3⟩ := (unhide hLB).fls
          have OB := hLB
          have HFB := hfb
          have F3 := hide hF3
          have HX3 := hide (unhide hLB).1.2
          replace B := hide (bl_tr (unhide B) (unhide hLB).1.2)
          clear hLB hfb RB hF3
          go_wp2_with (at_builtin; first
            | (refine wpList_append_ls rfl (.tmp 48) (.tmp 49) 24 rfl w3 5 i1 (.int .u8 0) 1 Try.underlying24 hi1 y1 z1 b1 rfl (int_one .u8) _ x0 rfl (unhide OJ1) p1 c1 x1 rfl (unhide LJ1) (by unfold maxLen; omega) (by omega) ?_; intro v5 w5 O5; have OJ2 := hide O5; clear O5)
            | (refine wpList_append_ls rfl (.tmp 46) (.tmp 47) 24 rfl w3 5 i1 (.int .u8 0) 1 Try.underlying24 hi1 y1 z1 b1 rfl (int_one .u8) _ [] rfl (OwnG.empty _ _) p0 c0 x0 rfl (((unhide S0).below (unhide B)).below (al1p _ _)).ls (by unfold maxLen; simp only [List.length_nil]; omega) (by simp only [List.length_nil]; omega) ?_; intro v4 w4 O4; have OJ1 := hide O4; have LJ1 := hide ((unhide S1).below (bl_tr (unhide B) O4.2)).ls; clear O4))
          obtain ⟨q5, d5, hv5, hl5, _⟩ := (unhide OJ2).form
          subst hv5
          have I5 := hide (hl5.ints (isB_wf (isB_append (unhide HB0) (unhide HB1))))
          have BX := hide (unhide OJ2).2
          replace B := hide (bl_tr (unhide B) (unhide OJ2).2)
          clear hl5 OJ2
          refine (unhide RJ _ _ _ (unhide I5)).mono ?_
          rintro e w6 ⟨v6, LJ, rfl, hfj, hLJ⟩
          obtain ⟨q6, d6, rfl, hF6⟩ := (unhide hLJ).fls
          have OC := hLJ
          have HFJ := hfj
          have F6 := hide hF6
          have BY := hide (bl_tr (unhide BX) (unhide hLJ).1.2)
          replace B := hide (bl_tr (unhide B) (unhide hLJ).1.2)
          clear hLJ hfj RJ hF6 I5 BX
          have F2j := hide (((unhide F2).below (unhide HX3)).below (unhide BY))
          have F3j := hide ((unhide F3).below (unhide BY))
          have ha := unhide HSA LA (unhide HFA)
          have hbb := unhide HSB LB (unhide HFB)
          have hj := unhide HSJ LJ (unhide HFJ)
          clear F2 F3 OA OB OC HSA HSB HSJ
          go_wp2_with (at_builtin; first
            | (refine wpList_append_flds rfl (.tmp 84) (.tmp 85) 22 rfl w6 42 i2 _ 48 Try.underlying22 hi2 y2 z2 b2 rfl _ LA rfl (unhide OL1) q3 d3 LB rfl (unhide FL1) (by unfold maxLen; omega) (by omega) ?_; intro v8 w8 O8 G8; have OL2 := hide O8; clear O8 G8)
            | (refine wpList_append_flds rfl (.tmp 82) (.tmp 83) 22 rfl w6 42 i2 _ 48 Try.underlying22 hi2 y2 z2 b2 rfl _ [] rfl (OwnF.empty _ _) q2 d2 LA rfl ((unhide F2j).1.below (al1p _ _)) (by unfold maxLen; simp only [List.length_nil]; omega) (by simp only [List.length_nil]; omega) ?_; intro v7 w7 O7 G7; have OL1 := hide O7; have FL1 := hide ((unhide F3j).1.below O7.2); clear O7 G7))
          obtain ⟨q8, d8, hv8, hl8, _⟩ := (unhide OL2).form
          obtain ⟨LC, hLC⟩ : ∃ LC, LA ++ LB = LC := ⟨_, rfl⟩
          rw [hLC] at hv8 hl8
          subst hv8
          have BZ := hide (unhide OL2).2
          have FA8 := hide ((unhide F2j).below (unhide BZ))
          have FB8 := hide ((unhide F3j).below (unhide BZ))
          have FJ8 := hide ((unhide F6).below (unhide BZ))
          have F8 : Hid (Fls _ q8 d8 LC) := hide ⟨hl8, fun a ha => by
            rw [← hLC] at ha
            rcases List.mem_append.1 ha with g | g
            · exact (unhide FA8).2 a g
            · exact (unhide FB8).2 a g⟩
          replace B := hide (bl_tr (unhide B) (unhide BZ))
          clear hl8 OL2 F2j F3j F6 BZ BY HX3
          have IA := hide (fun w h => cints6_any q2 d2 LA a2 w h (by omega) (by omega))
          have IB := hide (fun w h => cints6_any q3 d3 LB a2 w h (by omega) (by omega))
          have IJ := hide (fun w h => cints6_any q6 d6 LJ a2 w h (by omega) (by omega))
          have EJ : LJ.map FA.f = LA.map FA.f ++ LB.map FA.f := by rw [unhide HFJ, unhide HFA, unhide HFB]
          have EQ := hide (fun w h1 h2 => equal6_any q6 q8 d6 d8 LJ LC w h1 h2)
          rw [decide_eq_true (show LJ.map FA.f = LC.map FA.f by rw [← hLC, EJ, List.map_append])] at EQ
          clear hLC
          have LJN := list_join int1 (LA.map FA.f) (LB.map FA.f) a2
          rw [← EJ] at LJN
          have cx := listV_code int1 (LA.map FA.f) a2
          have cy := listV_code int1 (LB.map FA.f) a2
          have cz := listV_code int1 (LJ.map FA.f) a2
          generalize listV int1 (LA.map FA.f) a2 = X at IA LJN cx
          generalize listV int1 (LB.map FA.f) a2 = Y at IB LJN cy
          generalize listV int1 (LJ.map FA.f) a2 = Z at IJ LJN cz
          obtain ⟨X1, X2⟩ := X
          obtain ⟨Y1, Y2⟩ := Y
          obtain ⟨Z1, Z2⟩ := Z
          simp only at IA IB IJ LJN cx cy cz
          obtain ⟨lj1, lj2⟩ := LJN
          have HZ0 : Hid (Z2 = 0 → Z1.length = X1.length + Y1.length) := hide lj2
          have HZ1 : Hid ((X2 = 0 ∧ Y2 = 0) ↔ Z2 = 0) := hide lj1
          clear EJ lj1 lj2 HFA HFB HFJ HB0 HB1 S0 S1
          refine (unhide IA _ (unhide FA8)).mono ?_
          rintro e w9 ⟨v9, rfl, hO⟩
          obtain ⟨q9, d9, rfl, hl9, _⟩ := hO.form
          have nx := hl9.len
          replace FB8 := hide ((unhide FB8).below hO.2)
          replace FJ8 := hide ((unhide FJ8).below hO.2)
          replace F8 := hide ((unhide F8).below hO.2)
          replace B := hide (bl_tr (unhide B) hO.2)
          clear hO hl9 IA FA8
          go_wp2_with fail
          refine (unhide IB _ (unhide FB8)).mono ?_
          rintro e w10 ⟨v10, rfl, hO⟩
          obtain ⟨q10, d10, rfl, hl10, _⟩ := hO.form
          have ny := hl10.len
          replace FJ8 := hide ((unhide FJ8).below hO.2)
          replace F8 := hide ((unhide F8).below hO.2)
          replace B := hide (bl_tr (unhide B) hO.2)
          clear hO hl10 IB FB8
          go_wp2_with fail
          refine (unhide IJ _ (unhide FJ8)).mono ?_
          rintro e w11 ⟨v11, rfl, hO⟩
          obtain ⟨q11, d11, rfl, hl11, _⟩ := hO.form
          have nz := hl11.len
          replace FJ8 := hide ((unhide FJ8).below hO.2)
          replace F8 := hide ((unhide F8).below hO.2)
          replace B := hide (bl_tr (unhide B) hO.2)
          clear hO hl11 IJ
          have EQ1 := hide (unhide EQ _ (unhide FJ8) (unhide F8))
          clear EQ FJ8 F8
          rcases cx with rfl | rfl
          · rcases cy with rfl | rfl
            · have hz2 : Z2 = 0 := (unhide HZ1).1 ⟨rfl, rfl⟩
              have hzl := unhide HZ0 hz2
              subst hz2
              clear cz HZ0 HZ1
              generalize X1.length = A1 at hzl nx ⊢
              generalize Y1.length = A2 at hzl ny ⊢
              generalize Z1.length = A3 at hzl nz ⊢
              subst hzl
              have hzi : (((A1 + A2 : Nat) : Int) == (A1 : Int) + (A2 : Int)) = true := by rw [beq_iff_eq]; omega
              go_wp2_with fail
              refine (unhide EQ1).mono ?_
              rintro e w12 ⟨rfl, hb⟩
              replace B := hide (bl_tr (unhide B) hb)
              clear hb EQ1
              go_wp2_with fail
              go_ret
              exact ⟨rfl, unhide B⟩
            · have hz2 : Z2 = 6 := by rcases cz with h | h; (have := (unhide HZ1).2 h; omega); exact h
              subst hz2
              clear cz HZ0 HZ1
              go_wp2_with fail
              refine (unhide EQ1).mono ?_
              rintro e w12 ⟨rfl, hb⟩
              replace B := hide (bl_tr (unhide B) hb)
              clear hb EQ1
              go_wp2_with fail
              go_ret
              exact ⟨rfl, unhide B⟩
          · have hz2 : Z2 = 6 := by rcases cz with h | h; (have := (unhide HZ1).2 h; omega); exact h
            subst hz2
            clear cz HZ0 HZ1
            rcases cy with rfl | rfl
            · go_wp2_with fail
              refine (unhide EQ1).mono ?_
              rintro e w12 ⟨rfl, hb⟩
              replace B := hide (bl_tr (unhide B) hb)
              clear hb EQ1
              go_wp2_with fail
              go_ret
              exact ⟨rfl, unhide B⟩
            · go_wp2_with fail
              refine (unhide EQ1).mono ?_
              rintro e w12 ⟨rfl, hb⟩
              replace B := hide (bl_tr (unhide B) hb)
              clear hb EQ1
              go_wp2_with fail
              go_ret
              exact ⟨rfl, unhide B⟩
        · have cb2 : (readV x1).1 = [] := readV_err x1 (by rw [cb]; decide)
          obtain hB : readV x1 = ([], 6) := by rw [← cb, ← cb2]
          rw [hB] at RB jn2
          simp only at RB
          rw [if_neg (by decide)] at jn2
          rw [jn2] at RJ
          simp only at RJ
          clear jn jn2 ea ca cb cb2 hA hB HSA HSB HSJ
          go_enter Try.func5, Try.ntmps5
          go_wp2_with fail
          refine (awake6_any _).mono ?_
          rintro e w1 ⟨rfl, hb⟩
          have B := hide hb
          clear hb
          go_wp2_with fail
          refine (unhide RA _ ((unhide S0).below (unhide B))).mono ?_
          rintro e w2 ⟨v2, LA, rfl, hfa, hLA⟩
          obtain ⟨q2, d2, rfl, hF2⟩ := (unhide hLA).fls
          have F2 := hide hF2
          clear hF2
          have OA := hLA
          have HFA := hfa
          replace B := hide (bl_tr (unhide B) (unhide hLA).1.2)
          clear hLA hfa RA
          go_wp2_with fail
          refine (unhide RB _ ((unhide S1).below (unhide B))).mono ?_
          rintro e w3 ⟨v3, LB, rfl, hfb, hLB⟩
          obtain ⟨q3, d3, rfl, hF3⟩ := (unhide hLB).fls
          have OB := hLB
          have HFB := hfb
          have F3 := hide hF3
          have HX3 := hide (unhide hLB).1.2
          replace B := hide (bl_tr (unhide B) (unhide hLB).1.2)
          clear hLB hfb RB hF3
          go_wp2_with (at_builtin; first
            | (refine wpList_append_ls rfl (.tmp 48) (.tmp 49) 24 rfl w3 5 i1 (.int .u8 0) 1 Try.underlying24 hi1 y1 z1 b1 rfl (int_one .u8) _ x0 rfl (unhide OJ1) p1 c1 x1 rfl (unhide LJ1) (by unfold maxLen; omega) (by omega) ?_; intro v5 w5 O5; have OJ2 := hide O5; clear O5)
            | (refine wpList_append_ls rfl (.tmp 46) (.tmp 47) 24 rfl w3 5 i1 (.int .u8 0) 1 Try.underlying24 hi1 y1 z1 b1 rfl (int_one .u8) _ [] rfl (OwnG.empty _ _) p0 c0 x0 rfl (((unhide S0).below (unhide B)).below (al1p _ _)).ls (by unfold maxLen; simp only [List.length_nil]; omega) (by simp only [List.length_nil]; omega) ?_; intro v4 w4 O4; have OJ1 := hide O4; have LJ1 := hide ((unhide S1).below (bl_tr (unhide B) O4.2)).ls; clear O4))
          obtain ⟨q5, d5, hv5, hl5, _⟩ := (unhide OJ2).form
          subst hv5
          have I5 := hide (hl5.ints (isB_wf (isB_append (unhide HB0) (unhide HB1))))
          have BX := hide (unhide OJ2).2
          replace B := hide (bl_tr (unhide B) (unhide OJ2).2)
          clear hl5 OJ2
          refine (unhide RJ _ _ _ (unhide I5)).mono ?_
          rintro e w6 ⟨v6, LJ, rfl, hfj, hLJ⟩
          obtain ⟨q6, d6, rfl, hF6⟩ := (unhide hLJ).fls
          have OC := hLJ
          have HFJ := hfj
          have F6 := hide hF6
          have BY := hide (bl_tr (unhide BX) (unhide hLJ).1.2)
          replace B := hide (bl_tr (unhide B) (unhide hLJ).1.2)
          clear hLJ hfj RJ hF6 I5 BX
          go_wp2_with fail
          go_ret
          exact ⟨rfl, unhide B⟩
      · have ca2 : (readV x0).1 = [] := ea (by rw [ca]; decide)
        rw [ca, ca2] at RA
        clear jn ea ca ca2 HSA HSB HSJ
        have cb := readV_code x1 hs1
        have cj := readV_code (x0 ++ x1) hlj
        generalize readV x1 = Y at RB cb
        generalize readV (x0 ++ x1) = Z at RJ cj
        obtain ⟨Y1, Y2⟩ := Y
        obtain ⟨Z1, Z2⟩ := Z
        simp only at RB RJ cb cj
        rcases cb with rfl | rfl <;> rcases cj with rfl | rfl
        all_goals
          go_enter Try.func5, Try.ntmps5
          go_wp2_with fail
          refine (awake6_any _).mono ?_
          rintro e w1 ⟨rfl, hb⟩
          have B := hide hb
          clear hb
          go_wp2_with fail
          refine (unhide RA _ ((unhide S0).below (unhide B))).mono ?_
          rintro e w2 ⟨v2, LA, rfl, hfa, hLA⟩
          have hL0 := map_nil_of (unhide hfa)
          subst hL0
          obtain ⟨q2, d2, rfl, hF2⟩ := (unhide hLA).fls
          clear hF2
          simp only [List.length_nil]
          have OA := hLA
          have HFA := hfa
          replace B := hide (bl_tr (unhide B) (unhide hLA).1.2)
          clear hLA hfa RA
          go_wp2_with fail
          refine (unhide RB _ ((unhide S1).below (unhide B))).mono ?_
          rintro e w3 ⟨v3, LB, rfl, hfb, hLB⟩
          obtain ⟨q3, d3, rfl, hF3⟩ := (unhide hLB).fls
          have OB := hLB
          have HFB := hfb
          have F3 := hide hF3
          have HX3 := hide (unhide hLB).1.2
          replace B := hide (bl_tr (unhide B) (unhide hLB).1.2)
          clear hLB hfb RB hF3
          go_wp2_with (at_builtin; first
            | (refine wpList_append_ls rfl (.tmp 48) (.tmp 49) 24 rfl w3 5 i1 (.int .u8 0) 1 Try.underlying24 hi1 y1 z1 b1 rfl (int_one .u8) _ x0 rfl (unhide OJ1) p1 c1 x1 rfl (unhide LJ1) (by unfold maxLen; omega) (by omega) ?_; intro v5 w5 O5; have OJ2 := hide O5; clear O5)
            | (refine wpList_append_ls rfl (.tmp 46) (.tmp 47) 24 rfl w3 5 i1 (.int .u8 0) 1 Try.underlying24 hi1 y1 z1 b1 rfl (int_one .u8) _ [] rfl (OwnG.empty _ _) p0 c0 x0 rfl (((unhide S0).below (unhide B)).below (al1p _ _)).ls (by unfold maxLen; simp only [List.length_nil]; omega) (by simp only [List.length_nil]; omega) ?_; intro v4 w4 O4; have OJ1 := hide O4; have LJ1 := hide ((unhide S1).below (bl_tr (unhide B) O4.2)).ls; clear O4))
          obtain ⟨q5, d5, hv5, hl5, _⟩ := (unhide OJ2).form
          subst hv5
          have I5 := hide (hl5.ints (isB_wf (isB_append (unhide HB0) (unhide HB1))))
          have BX := hide (unhide OJ2).2
          replace B := hide (bl_tr (unhide B) (unhide OJ2).2)
          clear hl5 OJ2
          refine (unhide RJ _ _ _ (unhide I5)).mono ?_
          rintro e w6 ⟨v6, LJ, rfl, hfj, hLJ⟩
          obtain ⟨q6, d6, rfl, hF6⟩ := (unhide hLJ).fls
          have OC := hLJ
          have HFJ := hfj
          have F6 := hide hF6
          have BY := hide (bl_tr (unhide BX) (unhide hLJ).1.2)
          replace B := hide (bl_tr (unhide B) (unhide hLJ).1.2)
          clear hLJ hfj RJ hF6 I5 BX
          go_wp2_with fail
          go_ret
          exact ⟨rfl, unhide B⟩

set_option maxRecDepth 100000 in
theorem contract (H : Type) (enc : TypeId × Value → H) (W : World) (base : Nat) (args : Array Value) (ds gs : List (DataW H)) (before : List MemPlace)
    (hval0 : ∀ (j : Nat) t v, Try.f5.params[j]? = some t → args[j]? = some v → Value.okWide Try.prog W .any base t v)
    (hW : DataW.Whole enc Try.prog Try.f5.params.toList Rows.pbufJoinsSpec.vars false W args.toList ds gs before) :
    Calls Try.prog 5 args W fun e W' => ∃ v, e = .returned v ∧ Rows.pbufJoinsSpec.post enc Try.prog Try.f5 false true false false W args v W' := by
  have hval : ∀ (j : Nat) t v, Try.f5.params[j]? = some t → args[j]? = some v → Value.okWide Try.prog W .any base t v := hval0
  have hW' := hW
  obtain ⟨p, q, hA0, hV, rfl, hfz, hnd⟩ := hW
  have hA : DataW.TrodAll enc Try.prog W 0 (fun _ => true) true Try.f5.params.toList args.toList ds p := hA0
  rw [Try.params5] at hA hval
  obtain ⟨v0, vs0, d0, ds0, pl0, q0, hargs, rfl, rfl, h0, r0⟩ := trodAll_cons hA
  obtain ⟨v1, vs1, d1, ds1, pl1, q1, rfl, rfl, rfl, h1, r1⟩ := trodAll_cons r0
  obtain ⟨v2, vs2, d2, ds2, pl2, q2, rfl, rfl, rfl, h2, r2⟩ := trodAll_cons r1
  obtain ⟨rfl, rfl, rfl⟩ := trodAll_nil r2
  obtain rfl : args = #[v0, v1, v2] := by cases args; simp_all
  obtain ⟨rfl, rfl⟩ := trodVars_none hV
  have h0k := h0
  obtain ⟨p0, c0, x0, rfl, s0, hd0⟩ := ints_open Try.underlying24 Try.underlying5 (by kernel_rfl) (hval 0 24 v0 rfl rfl) h0
  have hlt0 : ∀ y ∈ pl0, y.block < W.heap.size := fun y hy => hW'.lt y (by simp [hy])
  have h1k := h1
  obtain ⟨p1, c1, x1, rfl, s1, hd1⟩ := ints_open Try.underlying24 Try.underlying5 (by kernel_rfl) (hval 1 24 v1 rfl rfl) h1
  have hlt1 : ∀ y ∈ pl1, y.block < W.heap.size := fun y hy => hW'.lt y (by simp [hy])
  obtain ⟨a2, rfl, rfl, rfl, w2⟩ := open_int Try.underlying3 (hval 2 3 v2 rfl rfl) h2
  clear hA0 hval0
  simp only [List.append_nil] at hW'
  refine (walk p0 c0 x0 p1 c1 x1 a2 W s0 s1 w2).mono fun e W' ⟨he, bel⟩ => ?_
  subst he
  exact ⟨_, rfl, _, _, _, [], _, [], hW', trodAll_mk1 (shut_bool Try.underlying4 _), (trodAll_cons_mk (Below.trod laidOut (by kernel_rfl) (of_decide_eq_true (by kernel_rfl)) h0k bel hlt0) (trodAll_cons_mk (Below.trod laidOut (by kernel_rfl) (of_decide_eq_true (by kernel_rfl)) h1k bel hlt1) (trodAll_cons_mk (shut_int Try.underlying3 w2) trodAll_mk0))), rfl, bel.frame _, fun h => by cases h⟩

set_option maxRecDepth 100000 in
theorem lifted (os : Os) (started : os.Started) (H : Type) (enc : TypeId × Value → H) :
    ReturnsInHanded {} Try.checked os 5 .any (Rows.pbufJoinsSpec.pre6 enc Try.prog Try.f5 Rows.pbufJoinsRow.domain false) (Rows.pbufJoinsSpec.post enc Try.prog Try.f5 false true false false) := by
  refine returnsInHanded_of_change (C := Try.checked) own started (by kernel_rfl) Try.func5
    (ChangeSpec.witness6 (enc := enc) (C := Try.checked) false ⟨#[], #[.slice none 0 0, .slice none 0 0, .int .i64 0], []⟩ 8 (by kernel_rfl) (by kernel_rfl) (by kernel_rfl) (by kernel_rfl)) ?_
  intro W base args ds gs before hval hW hcnd _
  exact contract H enc W base args ds gs before hval hW

theorem proved : Rows.PbufJoinsSaid :=
  OpenClaim.holds_of_wide 5 Try.f5 rfl rfl rfl rfl rfl rfl rfl ⟨rfl, rfl, rfl, rfl, rfl⟩ rfl rfl rfl rfl rfl (by kernel_rfl) Try.func5 (by kernel_rfl)
    (of_decide_eq_true (by kernel_rfl)) (by unfold Func.isWrapper; first | (rw [if_pos (by decide +kernel)]; kernel_rfl) | (rw [if_neg (by decide +kernel)]; exact ⟨rfl, rfl⟩))
    (fun os started H enc _ => lifted os started H enc)
#print axioms proved
end Go.Proofs.Ytbcmfgohbppndab.pbufJoins
