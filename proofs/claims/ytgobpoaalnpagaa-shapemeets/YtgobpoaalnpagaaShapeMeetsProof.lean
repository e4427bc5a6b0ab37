/- For all two shapes and all places: what the two come to, and where each element of the greater stands in the smaller, is in the code what the document says, and the lists that were handed in stay; no condition. -/
import Derived.Test.YtgobpoaalnpagaaRows
import Derived.WalkKit
import Derived.ProofKit
import Derived.OpenShut
import Derived.Below
import Derived.Carry
import Derived.SizedLaws
import Derived.Test.YtgobpoaalnpagaaHJ
namespace Go.Proofs.Ytgobpoaalnpagaa.shapeMeets
open Go.ChangeShapes Go.WideShapes Go.ChangeAt Go.RowKit
set_option linter.unusedVariables false

theorem own : ownKnob Try.prog.godebug = none := by kernel_rfl
theorem laidOut : laidOutB Try.prog = true := by kernel_rfl

set_option maxRecDepth 100000 in
set_option maxHeartbeats 8000000 in
/-- The statement's call returns true, whatever came in. -/
theorem walk (p0 : Option Addr) (c0 : Nat) (x0 : List Int) (p1 : Option Addr) (c1 : Nat) (x1 : List Int) (a2 : Int) (W : World) (s0 : Ints .i64 W p0 c0 x0) (u0 : c0 * 8 ≤ 140737488351232) (s1 : Ints .i64 W p1 c1 x1) (u1 : c1 * 8 ≤ 140737488351232) (w2 : (Lit.int .i64 a2).wf = true) :
    Calls Try.prog 4 #[.slice p0 x0.length c0, .slice p1 x1.length c1, .int .i64 a2] W fun e W' => e = .returned (.bool true) ∧ Below W.heap.size W W' := by
  have HA := hide (wf_i64_iff w2)
  have k0 := s0.1
  have k1 := s1.1
  have K0 : Hid (x0.length * 8 ≤ 140737488351232) := hide (by omega)
  have K1 : Hid (x1.length * 8 ≤ 140737488351232) := hide (by omega)
  have S0 := hide s0
  have S1 := hide s1
  clear s0 s1 k0 k1 u0 u1 w2
  go_enter Try.func4, Try.ntmps4
  go_wp2_with fail
  refine (awake4_any _).mono ?_
  rintro e w1 ⟨rfl, hb⟩
  have B := hide hb
  clear hb
  go_wp2_with fail
  refine (lent_any p0 c0 x0 _ ((unhide S0).below (unhide B)) (unhide K0)).mono ?_
  rintro e w2 ⟨⟨gd, cd, rfl, L⟩, hb⟩
  have LD := hide L
  replace B := hide (bl_tr (unhide B) hb)
  clear hb L
  go_wp2_with fail
  refine (lent_any p1 c1 x1 _ ((unhide S1).below (unhide B)) (unhide K1)).mono ?_
  rintro e w3 ⟨⟨gx, cx, rfl, L⟩, hb⟩
  have LX := hide L
  replace LD := hide ((unhide LD).below hb)
  replace B := hide (bl_tr (unhide B) hb)
  clear hb L
  go_wp2_with fail
  refine (cbroad_any (some ⟨gd, 0, none⟩) (some ⟨gx, 0, none⟩) cd cx x0 x1 _ (unhide LD).1 (unhide LX).1).mono ?_
  rintro e w5 ⟨⟨q5, c5, xs5, e5, rfl, I5, R5⟩, hb⟩
  have J5 := hide I5
  have T5 := hide R5
  replace LD := hide ((unhide LD).below hb)
  replace LX := hide ((unhide LX).below hb)
  replace B := hide (bl_tr (unhide B) hb)
  clear hb I5 R5
  go_wp2_with fail
  refine (rbroad_any p0 p1 c0 c1 x0 x1 _ ((unhide S0).below (unhide B)) ((unhide S1).below (unhide B))).mono ?_
  rintro e w6 ⟨⟨q6, c6, xs6, e6, rfl, I6, R6⟩, hb⟩
  obtain ⟨g1, g2⟩ := (unhide T5).one R6
  subst g1
  subst g2
  have J6 := hide I6
  replace J5 := hide ((unhide J5).below hb)
  replace LD := hide ((unhide LD).below hb)
  replace LX := hide ((unhide LX).below hb)
  replace B := hide (bl_tr (unhide B) hb)
  clear hb I6 R6 T5
  go_wp2_with fail
  refine (cfrom_any (some ⟨gd, 0, none⟩) (some ⟨gx, 0, none⟩) cd cx x0 x1 a2 _ (unhide LD).1 (unhide LX).1).mono ?_
  rintro e w7 ⟨⟨r7, e7, rfl, R7⟩, hb⟩
  have T7 := hide R7
  replace J5 := hide ((unhide J5).below hb)
  replace J6 := hide ((unhide J6).below hb)
  replace LD := hide ((unhide LD).below hb)
  replace LX := hide ((unhide LX).below hb)
  replace B := hide (bl_tr (unhide B) hb)
  clear hb R7
  go_wp2_with fail
  refine (rfrom_any p0 p1 c0 c1 x0 x1 a2 _ ((unhide S0).below (unhide B)) ((unhide S1).below (unhide B)) (unhide HA)).mono ?_
  rintro e w8 ⟨⟨r8, e8, rfl, R8⟩, hb⟩
  obtain ⟨g1, g2⟩ := (unhide T7).one R8
  subst g1
  subst g2
  replace J5 := hide ((unhide J5).below hb)
  replace J6 := hide ((unhide J6).below hb)
  replace LD := hide ((unhide LD).below hb)
  replace LX := hide ((unhide LX).below hb)
  replace B := hide (bl_tr (unhide B) hb)
  clear hb R8 T7
  go_wp2_with fail
  refine (cfrom_any (some ⟨gd, 0, none⟩) q6 cd c6 x0 xs5 a2 _ (unhide LD).1 (unhide J6)).mono ?_
  rintro e w9 ⟨⟨r9, e9, rfl, R9⟩, hb⟩
  have T9 := hide R9
  replace J5 := hide ((unhide J5).below hb)
  replace J6 := hide ((unhide J6).below hb)
  replace LD := hide ((unhide LD).below hb)
  replace LX := hide ((unhide LX).below hb)
  replace B := hide (bl_tr (unhide B) hb)
  clear hb R9
  go_wp2_with fail
  refine (rfrom_any p0 q6 c0 c6 x0 xs5 a2 _ ((unhide S0).below (unhide B)) (unhide J6) (unhide HA)).mono ?_
  rintro e wa ⟨⟨ra, ea, rfl, Ra⟩, hb⟩
  obtain ⟨g1, g2⟩ := (unhide T9).one Ra
  subst g1
  subst g2
  replace J5 := hide ((unhide J5).below hb)
  replace J6 := hide ((unhide J6).below hb)
  replace LD := hide ((unhide LD).below hb)
  replace LX := hide ((unhide LX).below hb)
  replace B := hide (bl_tr (unhide B) hb)
  clear hb Ra T9
  go_wp2_with fail
  refine (rsame_true q5 q6 c5 c6 xs5 xs5 _ (unhide J5) (unhide J6) rfl).mono ?_
  rintro e wb ⟨rfl, hb⟩
  replace LD := hide ((unhide LD).below hb)
  replace LX := hide ((unhide LX).below hb)
  replace B := hide (bl_tr (unhide B) hb)
  clear hb J5 J6
  go_wp2_with fail
  refine (whole_any gd cd p0 c0 x0 x0 _ (unhide LD) ((unhide S0).below (unhide B)) rfl).mono ?_
  rintro e wd ⟨rfl, hb⟩
  replace LX := hide ((unhide LX).below hb)
  replace B := hide (bl_tr (unhide B) hb)
  clear hb LD
  go_wp2_with fail
  refine (whole_any gx cx p1 c1 x1 x1 _ (unhide LX) ((unhide S1).below (unhide B)) rfl).mono ?_
  rintro e we ⟨rfl, hb⟩
  replace B := hide (bl_tr (unhide B) hb)
  clear hb LX
  go_wp2_with fail
  go_ret
  exact ⟨rfl, unhide B⟩

set_option maxRecDepth 100000 in
theorem contract (H : Type) (enc : TypeId × Value → H) (W : World) (base : Nat) (args : Array Value) (ds gs : List (DataW H)) (before : List MemPlace)
    (hval0 : ∀ (j : Nat) t v, Try.f4.params[j]? = some t → args[j]? = some v → Value.okWide Try.prog W .any base t v)
    (hW : DataW.Whole enc Try.prog Try.f4.params.toList Rows.shapeMeetsSpec.vars false W args.toList ds gs before) (hsz0 : (DataW.weightsEach Try.prog (Try.f4.params.toList ++ Rows.shapeMeetsSpec.plain.varTypes Try.prog) (ds ++ gs)).all (· ≤ reachBytes) = true) :
    Calls Try.prog 4 args W fun e W' => ∃ v, e = .returned v ∧ Rows.shapeMeetsSpec.post enc Try.prog Try.f4 false true false false W args v W' := by
  have hval : ∀ (j : Nat) t v, Try.f4.params[j]? = some t → args[j]? = some v → Value.okWide Try.prog W .any base t v := hval0
  have hW' := hW
  obtain ⟨p, q, hA0, hV, rfl, hfz, hnd⟩ := hW
  have hA : DataW.TrodAll enc Try.prog W 0 (fun _ => true) true Try.f4.params.toList args.toList ds p := hA0
  have hsz : (DataW.weightsEach Try.prog (Try.f4.params.toList ++ Rows.shapeMeetsSpec.plain.varTypes Try.prog) (ds ++ gs)).all (· ≤ reachBytes) = true := hsz0
  clear hsz0
  rw [Try.params4] at hA hval hsz
  obtain ⟨v0, vs0, d0, ds0, pl0, q0, hargs, rfl, rfl, h0, r0⟩ := trodAll_cons hA
  obtain ⟨v1, vs1, d1, ds1, pl1, q1, rfl, rfl, rfl, h1, r1⟩ := trodAll_cons r0
  obtain ⟨v2, vs2, d2, ds2, pl2, q2, rfl, rfl, rfl, h2, r2⟩ := trodAll_cons r1
  obtain ⟨rfl, rfl, rfl⟩ := trodAll_nil r2
  obtain rfl : args = #[v0, v1, v2] := by cases args; simp_all
  obtain ⟨rfl, rfl⟩ := trodVars_none hV
  have h0k := h0
  obtain ⟨p0, c0, x0, rfl, s0, hd0⟩ := ints_open Try.underlying22 Try.underlying3 (by kernel_rfl) (hval 0 22 v0 rfl rfl) h0
  have hlt0 : ∀ y ∈ pl0, y.block < W.heap.size := fun y hy => hW'.lt y (by simp [hy])
  have u0 : c0 * 8 ≤ 140737488351232 := by
    rcases hd0 with ⟨_, e⟩ | ⟨sp, e, e2⟩
    · omega
    · subst e
      have := sized_slice hsz (j := 0) (t := 22) (e := 3) rfl rfl Try.underlying22
      rw [show Try.prog.bytesOf 3 = 8 by kernel_rfl] at this
      simp only [lits, List.length_map, reachBytes] at this
      rw [e2] at this
      exact this
  have h1k := h1
  obtain ⟨p1, c1, x1, rfl, s1, hd1⟩ := ints_open Try.underlying22 Try.underlying3 (by kernel_rfl) (hval 1 22 v1 rfl rfl) h1
  have hlt1 : ∀ y ∈ pl1, y.block < W.heap.size := fun y hy => hW'.lt y (by simp [hy])
  have u1 : c1 * 8 ≤ 140737488351232 := by
    rcases hd1 with ⟨_, e⟩ | ⟨sp, e, e2⟩
    · omega
    · subst e
      have := sized_slice hsz (j := 1) (t := 22) (e := 3) rfl rfl Try.underlying22
      rw [show Try.prog.bytesOf 3 = 8 by kernel_rfl] at this
      simp only [lits, List.length_map, reachBytes] at this
      rw [e2] at this
      exact this
  obtain ⟨a2, rfl, rfl, rfl, w2⟩ := open_int Try.underlying3 (hval 2 3 v2 rfl rfl) h2
  clear hA0 hval0
  simp only [List.append_nil] at hW'
  refine (walk p0 c0 x0 p1 c1 x1 a2 W s0 u0 s1 u1 w2).mono fun e W' ⟨he, bel⟩ => ?_
  subst he
  exact ⟨_, rfl, _, _, _, [], _, [], hW', trodAll_mk1 (shut_bool Try.underlying4 _), (trodAll_cons_mk (Below.trod laidOut (by kernel_rfl) (of_decide_eq_true (by kernel_rfl)) h0k bel hlt0) (trodAll_cons_mk (Below.trod laidOut (by kernel_rfl) (of_decide_eq_true (by kernel_rfl)) h1k bel hlt1) (trodAll_cons_mk (shut_int Try.underlying3 w2) trodAll_mk0))), rfl, bel.frame _, fun h => by cases h⟩

set_option maxRecDepth 100000 in
theorem lifted (os : Os) (started : os.Started) (H : Type) (enc : TypeId × Value → H) :
    ReturnsInHanded {} Try.checked os 4 .any (Rows.shapeMeetsSpec.pre6 enc Try.prog Try.f4 Rows.shapeMeetsRow.domain false) (Rows.shapeMeetsSpec.post enc Try.prog Try.f4 false true false false) := by
  refine returnsInHanded_of_change_sized (C := Try.checked) own started (by kernel_rfl) Try.func4
    (ChangeSpec.witness6 (enc := enc) (C := Try.checked) false ⟨#[], #[.slice none 0 0, .slice none 0 0, .int .i64 0], []⟩ 8 (by kernel_rfl) (by kernel_rfl) (by kernel_rfl) (by kernel_rfl)) ?_
  intro W base args ds gs before hval hW hcnd hsz _
  exact contract H enc W base args ds gs before hval hW hsz

theorem proved : Rows.ShapeMeetsSaid :=
  OpenClaim.holds_of_wide 4 Try.f4 rfl rfl rfl rfl rfl rfl rfl ⟨rfl, rfl, rfl, rfl, rfl⟩ rfl rfl rfl rfl rfl (by kernel_rfl) Try.func4 (by kernel_rfl)
    (of_decide_eq_true (by kernel_rfl)) (by unfold Func.isWrapper; first | (rw [if_pos (by decide +kernel)]; kernel_rfl) | (rw [if_neg (by decide +kernel)]; exact ⟨rfl, rfl⟩))
    (fun os started H enc _ => lifted os started H enc)
#print axioms proved
end Go.Proofs.Ytgobpoaalnpagaa.shapeMeets
