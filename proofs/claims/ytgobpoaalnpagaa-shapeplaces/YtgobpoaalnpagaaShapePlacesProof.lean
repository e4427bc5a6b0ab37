/- For all dims, all places and all indices the code's sizes, strides, indices and offsets are what the document says, and the lists that were handed in stay; no condition. -/
import Derived.Test.YtgobpoaalnpagaaRows
import Derived.WalkKit
import Derived.ProofKit
import Derived.OpenShut
import Derived.Below
import Derived.Carry
import Derived.SizedLaws
import Derived.Test.YtgobpoaalnpagaaHJ
namespace Go.Proofs.Ytgobpoaalnpagaa.shapePlaces
open Go.ChangeShapes Go.WideShapes Go.ChangeAt Go.RowKit
set_option linter.unusedVariables false

theorem own : ownKnob Try.prog.godebug = none := by kernel_rfl
theorem laidOut : laidOutB Try.prog = true := by kernel_rfl

set_option maxRecDepth 100000 in
set_option maxHeartbeats 8000000 in
/-- The statement's call returns true, whatever came in. -/
theorem walk (p0 : Option Addr) (c0 : Nat) (x0 : List Int) (a1 : Int) (p2 : Option Addr) (c2 : Nat) (x2 : List Int) (W : World) (s0 : Ints .i64 W p0 c0 x0) (u0 : c0 * 8 ≤ 140737488351232) (w1 : (Lit.int .i64 a1).wf = true) (s2 : Ints .i64 W p2 c2 x2) (u2 : c2 * 8 ≤ 140737488351232) :
    Calls Try.prog 3 #[.slice p0 x0.length c0, .int .i64 a1, .slice p2 x2.length c2] W fun e W' => e = .returned (.bool true) ∧ Below W.heap.size W W' := by
  have HA := hide (wf_i64_iff w1)
  have k0 := s0.1
  have k2 := s2.1
  have K0 : Hid (x0.length * 8 ≤ 140737488351232) := hide (by omega)
  have K2 : Hid (x2.length * 8 ≤ 140737488351232) := hide (by omega)
  have S0 := hide s0
  have S2 := hide s2
  clear s0 s2 k0 k2 u0 u2 w1
  go_enter Try.func3, Try.ntmps3
  go_wp2_with fail
  refine (awake4_any _).mono ?_
  rintro e w1 ⟨rfl, hb⟩
  have B := hide hb
  clear hb
  go_wp2_with fail
  refine (lent_any p0 c0 x0 _ ((unhide S0).below (unhide B)) (unhide K0)).mono ?_
  rintro e w2 ⟨⟨gd, cd, rfl, L⟩, hb⟩
  have LD := hide L
  replace B := hide (bl_tr (unhide B) hb)
  clear hb L
  go_wp2_with fail
  refine (lent_any p2 c2 x2 _ ((unhide S2).below (unhide B)) (unhide K2)).mono ?_
  rintro e w3 ⟨⟨gx, cx, rfl, L⟩, hb⟩
  have LX := hide L
  replace LD := hide ((unhide LD).below hb)
  replace B := hide (bl_tr (unhide B) hb)
  clear hb L
  obtain ⟨N, hN⟩ : ∃ N, (sizeV x0).1 = N := ⟨_, rfl⟩
  obtain ⟨E, hE⟩ : ∃ E, (sizeV x0).2 = E := ⟨_, rfl⟩
  have z1 := csize_any (some ⟨gd, 0, none⟩) cd x0 w3 (unhide LD).1
  have z2 := rsize_any p0 c0 x0 w3 ((unhide S0).below (unhide B))
  rw [hN, hE] at z1 z2
  have Z1 := hide z1
  have Z2 := hide z2
  clear z1 z2 hN hE
  go_wp2_with fail
  refine (unhide Z1).mono ?_
  rintro e w4 ⟨rfl, rfl⟩
  go_wp2_with fail
  refine (unhide Z2).mono ?_
  rintro e w4 ⟨rfl, rfl⟩
  clear Z1 Z2
  go_wp2_with fail
  refine (cstrides_any (some ⟨gd, 0, none⟩) cd x0 _ (unhide LD).1).mono ?_
  rintro e w5 ⟨⟨q5, c5, xs5, e5, rfl, I5, R5⟩, hb⟩
  have J5 := hide I5
  have T5 := hide R5
  replace LD := hide ((unhide LD).below hb)
  replace LX := hide ((unhide LX).below hb)
  replace B := hide (bl_tr (unhide B) hb)
  clear hb I5 R5
  go_wp2_with fail
  refine (rstrides_any p0 c0 x0 _ ((unhide S0).below (unhide B))).mono ?_
  rintro e w6 ⟨⟨q6, c6, xs6, e6, rfl, I6, R6⟩, hb⟩
  obtain ⟨g1, g2⟩ := (unhide T5).one R6
  subst g1
  subst g2
  have J6 := hide I6
  replace J5 := hide ((unhide J5).below hb)
  replace LD := hide ((unhide LD).below hb)
  replace LX := hide ((unhide LX).below hb)
  replace B := hide (bl_tr (unhide B) hb)
  clear hb I6 R6 T5
  go_wp2_with fail
  refine (cindex_any (some ⟨gd, 0, none⟩) cd x0 a1 _ (unhide LD).1).mono ?_
  rintro e w7 ⟨⟨q7, c7, xs7, e7, rfl, I7, R7⟩, hb⟩
  have J7 := hide I7
  have T7 := hide R7
  replace J5 := hide ((unhide J5).below hb)
  replace J6 := hide ((unhide J6).below hb)
  replace LD := hide ((unhide LD).below hb)
  replace LX := hide ((unhide LX).below hb)
  replace B := hide (bl_tr (unhide B) hb)
  clear hb I7 R7
  go_wp2_with fail
  refine (rindex_any p0 c0 x0 a1 _ ((unhide S0).below (unhide B)) (unhide HA)).mono ?_
  rintro e w8 ⟨⟨q8, c8, xs8, e8, rfl, I8, R8⟩, hb⟩
  obtain ⟨g1, g2⟩ := (unhide T7).one R8
  subst g1
  subst g2
  have J8 := hide I8
  replace J5 := hide ((unhide J5).below hb)
  replace J6 := hide ((unhide J6).below hb)
  replace J7 := hide ((unhide J7).below hb)
  replace LD := hide ((unhide LD).below hb)
  replace LX := hide ((unhide LX).below hb)
  replace B := hide (bl_tr (unhide B) hb)
  clear hb I8 R8 T7
  go_wp2_with fail
  refine (coffset_any (some ⟨gd, 0, none⟩) (some ⟨gx, 0, none⟩) cd cx x0 x2 _ (unhide LD).1 (unhide LX).1).mono ?_
  rintro e w9 ⟨⟨r9, e9, rfl, R9⟩, hb⟩
  have T9 := hide R9
  replace J5 := hide ((unhide J5).below hb)
  replace J6 := hide ((unhide J6).below hb)
  replace J7 := hide ((unhide J7).below hb)
  replace J8 := hide ((unhide J8).below hb)
  replace LD := hide ((unhide LD).below hb)
  replace LX := hide ((unhide LX).below hb)
  replace B := hide (bl_tr (unhide B) hb)
  clear hb R9
  go_wp2_with fail
  refine (roffset_any p0 p2 c0 c2 x0 x2 _ ((unhide S0).below (unhide B)) ((unhide S2).below (unhide B))).mono ?_
  rintro e wa ⟨⟨ra, ea, rfl, Ra⟩, hb⟩
  obtain ⟨g1, g2⟩ := (unhide T9).one Ra
  subst g1
  subst g2
  replace J5 := hide ((unhide J5).below hb)
  replace J6 := hide ((unhide J6).below hb)
  replace J7 := hide ((unhide J7).below hb)
  replace J8 := hide ((unhide J8).below hb)
  replace LD := hide ((unhide LD).below hb)
  replace LX := hide ((unhide LX).below hb)
  replace B := hide (bl_tr (unhide B) hb)
  clear hb Ra T9
  go_wp2_with fail
  refine (rsame_true q5 q6 c5 c6 xs5 xs5 _ (unhide J5) (unhide J6) rfl).mono ?_
  rintro e wb ⟨rfl, hb⟩
  replace J7 := hide ((unhide J7).below hb)
  replace J8 := hide ((unhide J8).below hb)
  replace LD := hide ((unhide LD).below hb)
  replace LX := hide ((unhide LX).below hb)
  replace B := hide (bl_tr (unhide B) hb)
  clear hb J5 J6
  go_wp2_with fail
  refine (rsame_true q7 q8 c7 c8 xs7 xs7 _ (unhide J7) (unhide J8) rfl).mono ?_
  rintro e wc ⟨rfl, hb⟩
  replace LD := hide ((unhide LD).below hb)
  replace LX := hide ((unhide LX).below hb)
  replace B := hide (bl_tr (unhide B) hb)
  clear hb J7 J8
  go_wp2_with fail
  refine (whole_any gd cd p0 c0 x0 x0 _ (unhide LD) ((unhide S0).below (unhide B)) rfl).mono ?_
  rintro e wd ⟨rfl, hb⟩
  replace LX := hide ((unhide LX).below hb)
  replace B := hide (bl_tr (unhide B) hb)
  clear hb LD
  go_wp2_with fail
  refine (whole_any gx cx p2 c2 x2 x2 _ (unhide LX) ((unhide S2).below (unhide B)) rfl).mono ?_
  rintro e we ⟨rfl, hb⟩
  replace B := hide (bl_tr (unhide B) hb)
  clear hb LX
  go_wp2_with fail
  go_ret
  exact ⟨rfl, unhide B⟩

set_option maxRecDepth 100000 in
theorem contract (H : Type) (enc : TypeId × Value → H) (W : World) (base : Nat) (args : Array Value) (ds gs : List (DataW H)) (before : List MemPlace)
    (hval0 : ∀ (j : Nat) t v, Try.f3.params[j]? = some t → args[j]? = some v → Value.okWide Try.prog W .any base t v)
    (hW : DataW.Whole enc Try.prog Try.f3.params.toList Rows.shapePlacesSpec.vars false W args.toList ds gs before) (hsz0 : (DataW.weightsEach Try.prog (Try.f3.params.toList ++ Rows.shapePlacesSpec.plain.varTypes Try.prog) (ds ++ gs)).all (· ≤ reachBytes) = true) :
    Calls Try.prog 3 args W fun e W' => ∃ v, e = .returned v ∧ Rows.shapePlacesSpec.post enc Try.prog Try.f3 false true false false W args v W' := by
  have hval : ∀ (j : Nat) t v, Try.f3.params[j]? = some t → args[j]? = some v → Value.okWide Try.prog W .any base t v := hval0
  have hW' := hW
  obtain ⟨p, q, hA0, hV, rfl, hfz, hnd⟩ := hW
  have hA : DataW.TrodAll enc Try.prog W 0 (fun _ => true) true Try.f3.params.toList args.toList ds p := hA0
  have hsz : (DataW.weightsEach Try.prog (Try.f3.params.toList ++ Rows.shapePlacesSpec.plain.varTypes Try.prog) (ds ++ gs)).all (· ≤ reachBytes) = true := hsz0
  clear hsz0
  rw [Try.params3] at hA hval hsz
  obtain ⟨v0, vs0, d0, ds0, pl0, q0, hargs, rfl, rfl, h0, r0⟩ := trodAll_cons hA
  obtain ⟨v1, vs1, d1, ds1, pl1, q1, rfl, rfl, rfl, h1, r1⟩ := trodAll_cons r0
  obtain ⟨v2, vs2, d2, ds2, pl2, q2, rfl, rfl, rfl, h2, r2⟩ := trodAll_cons r1
  obtain ⟨rfl, rfl, rfl⟩ := trodAll_nil r2
  obtain rfl : args = #[v0, v1, v2] := by cases args; simp_all
  obtain ⟨rfl, rfl⟩ := trodVars_none hV
  have h0k := h0
  obtain ⟨p0, c0, x0, rfl, s0, hd0⟩ := ints_open Try.underlying22 Try.underlying3 (by kernel_rfl) (hval 0 22 v0 rfl rfl) h0
  have hlt0 : ∀ y ∈ pl0, y.block < W.heap.size := fun y hy => hW'.lt y (by simp [hy])
  have u0 : c0 * 8 ≤ 140737488351232 := by
    rcases hd0 with ⟨_, e⟩ | ⟨sp, e, e2⟩
    · omega
    · subst e
      have := sized_slice hsz (j := 0) (t := 22) (e := 3) rfl rfl Try.underlying22
      rw [show Try.prog.bytesOf 3 = 8 by kernel_rfl] at this
      simp only [lits, List.length_map, reachBytes] at this
      rw [e2] at this
      exact this
  have h2k := h2
  obtain ⟨p2, c2, x2, rfl, s2, hd2⟩ := ints_open Try.underlying22 Try.underlying3 (by kernel_rfl) (hval 2 22 v2 rfl rfl) h2
  have hlt2 : ∀ y ∈ pl2, y.block < W.heap.size := fun y hy => hW'.lt y (by simp [hy])
  have u2 : c2 * 8 ≤ 140737488351232 := by
    rcases hd2 with ⟨_, e⟩ | ⟨sp, e, e2⟩
    · omega
    · subst e
      have := sized_slice hsz (j := 2) (t := 22) (e := 3) rfl rfl Try.underlying22
      rw [show Try.prog.bytesOf 3 = 8 by kernel_rfl] at this
      simp only [lits, List.length_map, reachBytes] at this
      rw [e2] at this
      exact this
  obtain ⟨a1, rfl, rfl, rfl, w1⟩ := open_int Try.underlying3 (hval 1 3 v1 rfl rfl) h1
  clear hA0 hval0
  simp only [List.append_nil] at hW'
  refine (walk p0 c0 x0 a1 p2 c2 x2 W s0 u0 w1 s2 u2).mono fun e W' ⟨he, bel⟩ => ?_
  subst he
  exact ⟨_, rfl, _, _, _, [], _, [], hW', trodAll_mk1 (shut_bool Try.underlying4 _), (trodAll_cons_mk (Below.trod laidOut (by kernel_rfl) (of_decide_eq_true (by kernel_rfl)) h0k bel hlt0) (trodAll_cons_mk (shut_int Try.underlying3 w1) (trodAll_cons_mk (Below.trod laidOut (by kernel_rfl) (of_decide_eq_true (by kernel_rfl)) h2k bel hlt2) trodAll_mk0))), rfl, bel.frame _, fun h => by cases h⟩

set_option maxRecDepth 100000 in
theorem lifted (os : Os) (started : os.Started) (H : Type) (enc : TypeId × Value → H) :
    ReturnsInHanded {} Try.checked os 3 .any (Rows.shapePlacesSpec.pre6 enc Try.prog Try.f3 Rows.shapePlacesRow.domain false) (Rows.shapePlacesSpec.post enc Try.prog Try.f3 false true false false) := by
  refine returnsInHanded_of_change_sized (C := Try.checked) own started (by kernel_rfl) Try.func3
    (ChangeSpec.witness6 (enc := enc) (C := Try.checked) false ⟨#[], #[.slice none 0 0, .int .i64 0, .slice none 0 0], []⟩ 8 (by kernel_rfl) (by kernel_rfl) (by kernel_rfl) (by kernel_rfl)) ?_
  intro W base args ds gs before hval hW hcnd hsz _
  exact contract H enc W base args ds gs before hval hW hsz

theorem proved : Rows.ShapePlacesSaid :=
  OpenClaim.holds_of_wide 3 Try.f3 rfl rfl rfl rfl rfl rfl rfl ⟨rfl, rfl, rfl, rfl, rfl⟩ rfl rfl rfl rfl rfl (by kernel_rfl) Try.func3 (by kernel_rfl)
    (of_decide_eq_true (by kernel_rfl)) (by unfold Func.isWrapper; first | (rw [if_pos (by decide +kernel)]; kernel_rfl) | (rw [if_neg (by decide +kernel)]; exact ⟨rfl, rfl⟩))
    (fun os started H enc _ => lifted os started H enc)
#print axioms proved
end Go.Proofs.Ytgobpoaalnpagaa.shapePlaces
