/- For all two shapes: bringing them together does not hang on their order, the result goes together with each of them as itself, and its first and last element are the first and last of the smaller; no condition. -/
import Derived.Test.YtgobpoaalnpagaaRows
import Derived.WalkKit
import Derived.ProofKit
import Derived.OpenShut
import Derived.Below
import Derived.Carry
import Derived.Test.YtgobpoaalnpagaaHK
namespace Go.Proofs.Ytgobpoaalnpagaa.shapeBoth
open Go.ChangeShapes Go.WideShapes Go.ChangeAt Go.RowKit
set_option linter.unusedVariables false

theorem own : ownKnob Try.prog.godebug = none := by kernel_rfl
theorem laidOut : laidOutB Try.prog = true := by kernel_rfl

set_option maxRecDepth 100000 in
set_option maxHeartbeats 16000000 in
/-- The statement's call returns true, whatever came in. -/
theorem walk (p0 : Option Addr) (c0 : Nat) (x0 : List Int) (p1 : Option Addr) (c1 : Nat) (x1 : List Int) (W : World) (s0 : Ints .i64 W p0 c0 x0) (s1 : Ints .i64 W p1 c1 x1) :
    Calls Try.prog 6 #[.slice p0 x0.length c0, .slice p1 x1.length c1] W fun e W' => e = .returned (.bool true) ∧ Below W.heap.size W W' := by
  have S0 := hide s0
  have S1 := hide s1
  clear s0 s1
  go_enter Try.func6, Try.ntmps6
  go_wp2_with fail
  refine (awake4_any _).mono ?_
  rintro e w1 ⟨rfl, hb⟩
  have B := hide hb
  clear hb
  go_wp2_with fail
  refine (cbroad_any p0 p1 c0 c1 x0 x1 _ ((unhide S0).below (unhide B)) ((unhide S1).below (unhide B))).mono ?_
  rintro e w2 ⟨⟨ql, cl, L, el, rfl, hI, hR⟩, hb⟩
  have JL := hide hI
  have TL := hide hR
  obtain ⟨r0, r1⟩ := hR.range
  replace B := hide (bl_tr (unhide B) hb)
  clear hI hR hb
  go_wp2_with fail
  refine (cbroad_any p1 p0 c1 c0 x1 x0 _ ((unhide S1).below (unhide B)) ((unhide S0).below (unhide B))).mono ?_
  rintro e w3 ⟨⟨qm, cm, M, em, rfl, hI, hR⟩, hb⟩
  have JM := hide hI
  have TM := hide hR
  obtain ⟨r2, r3⟩ := hR.range
  replace JL := hide ((unhide JL).below hb)
  replace B := hide (bl_tr (unhide B) hb)
  clear hI hR hb
  by_cases he : el = 0
  · subst he
    obtain ⟨rfl, rfl, ea, eb, eL, sa, sb⟩ := broad_same (unhide TL) (unhide TM) rfl
    have BA := hide (broad_spread ea eL sa).2
    have BB := hide (broad_spread eb eL sb).1
    have BL := hide (broad_spread eL eL (spreads_self M)).1
    have FL := hide (fun (hn : 0 < (sizeV M).1) => from_last ea eL sa hn)
    have FF := hide (fun (hn : 0 < (sizeV M).1) => from_first ea eL sa hn)
    have EA := hide ea
    have EL := hide eL
    clear ea eb eL sa sb TL TM r0 r1 r2 r3
    go_wp2_with fail
    refine (cbroad_any ql p0 cl c0 M x0 _ (unhide JL) ((unhide S0).below (unhide B))).mono ?_
    rintro e w4 ⟨⟨qx, cx, X, ex, rfl, hI, hR⟩, hb⟩
    obtain ⟨g1, g2⟩ := hR.one (unhide BA)
    subst g1
    subst g2
    have JX := hide hI
    replace JL := hide ((unhide JL).below hb)
    replace JM := hide ((unhide JM).below hb)
    replace B := hide (bl_tr (unhide B) hb)
    clear hI hR hb BA
    go_wp2_with fail
    refine (cbroad_any p1 ql c1 cl x1 X _ ((unhide S1).below (unhide B)) (unhide JL)).mono ?_
    rintro e w5 ⟨⟨qy, cy, Y, ey, rfl, hI, hR⟩, hb⟩
    obtain ⟨g1, g2⟩ := hR.one (unhide BB)
    subst g1
    subst g2
    have JY := hide hI
    replace JL := hide ((unhide JL).below hb)
    replace JM := hide ((unhide JM).below hb)
    replace JX := hide ((unhide JX).below hb)
    replace B := hide (bl_tr (unhide B) hb)
    clear hI hR hb BB
    go_wp2_with fail
    refine (cbroad_any ql ql cl cl Y Y _ (unhide JL) (unhide JL)).mono ?_
    rintro e w6 ⟨⟨qz, cz, Z, ez, rfl, hI, hR⟩, hb⟩
    obtain ⟨g1, g2⟩ := hR.one (unhide BL)
    subst g1
    subst g2
    have JZ := hide hI
    replace JL := hide ((unhide JL).below hb)
    replace JM := hide ((unhide JM).below hb)
    replace JX := hide ((unhide JX).below hb)
    replace JY := hide ((unhide JY).below hb)
    replace B := hide (bl_tr (unhide B) hb)
    clear hI hR hb BL
    have SZ := csize_any ql cl Z w6 (unhide JL)
    obtain ⟨n0, n1, _⟩ := size_range Z
    rw [unhide EL] at SZ
    obtain ⟨N, hN⟩ : ∃ N, (sizeV Z).1 = N := ⟨_, rfl⟩
    rw [hN] at SZ n0 n1 FL FF
    have HSZ := hide SZ
    clear SZ hN
    go_wp2_with fail
    refine (unhide HSZ).mono ?_
    rintro e w7 ⟨rfl, rfl⟩
    clear HSZ
    go_wp2_with fail
    refine (rsame_true ql qm cl cm Z Z _ (unhide JL) (unhide JM) rfl).mono ?_
    rintro e w8 ⟨rfl, hb⟩
    replace JL := hide ((unhide JL).below hb)
    replace JX := hide ((unhide JX).below hb)
    replace JY := hide ((unhide JY).below hb)
    replace JZ := hide ((unhide JZ).below hb)
    replace B := hide (bl_tr (unhide B) hb)
    clear hb JM
    go_wp2_with fail
    refine (rsame_true ql qx cl cx Z Z _ (unhide JL) (unhide JX) rfl).mono ?_
    rintro e w9 ⟨rfl, hb⟩
    replace JL := hide ((unhide JL).below hb)
    replace JY := hide ((unhide JY).below hb)
    replace JZ := hide ((unhide JZ).below hb)
    replace B := hide (bl_tr (unhide B) hb)
    clear hb JX
    go_wp2_with fail
    refine (rsame_true ql qy cl cy Z Z _ (unhide JL) (unhide JY) rfl).mono ?_
    rintro e wa ⟨rfl, hb⟩
    replace JL := hide ((unhide JL).below hb)
    replace JZ := hide ((unhide JZ).below hb)
    replace B := hide (bl_tr (unhide B) hb)
    clear hb JY
    go_wp2_with fail
    refine (rsame_true ql qz cl cz Z Z _ (unhide JL) (unhide JZ) rfl).mono ?_
    rintro e wb ⟨rfl, hb⟩
    replace JL := hide ((unhide JL).below hb)
    replace B := hide (bl_tr (unhide B) hb)
    clear hb JZ
    by_cases hn : N = 0
    · subst hn
      clear FL FF
      go_wp2_with fail
      go_ret
      exact ⟨rfl, unhide B⟩
    · have hnb : (N == 0) = false := by simp [hn]
      have hp : 0 < N := by omega
      have RL := hide (unhide FL hp)
      have RF := hide (unhide FF hp)
      have CL := hide (fun w h1 h2 => cfrom_any p0 ql c0 cl x0 Z (N - 1) w h1 h2)
      clear FL FF hn
      go_wp2_with fail
      refine (unhide CL _ ((unhide S0).below (unhide B)) (unhide JL)).mono ?_
      rintro e wc ⟨⟨r, er, rfl, hR⟩, hb⟩
      obtain ⟨g1, g2⟩ := hR.one (unhide RL)
      subst g2
      have HG1 := hide g1
      replace JL := hide ((unhide JL).below hb)
      replace B := hide (bl_tr (unhide B) hb)
      clear hR hb RL CL g1
      go_wp2_with fail
      refine (cfrom_any p0 ql c0 cl x0 Z 0 _ ((unhide S0).below (unhide B)) (unhide JL)).mono ?_
      rintro e wd ⟨⟨r', er', rfl, hR⟩, hb⟩
      obtain ⟨g1, g2⟩ := hR.one (unhide RF)
      subst g1
      subst g2
      replace B := hide (bl_tr (unhide B) hb)
      clear hR hb RF JL
      have SA := csize_any p0 c0 x0 wd ((unhide S0).below (unhide B))
      rw [unhide EA] at SA
      obtain ⟨q0, q1, _⟩ := size_range x0
      obtain ⟨K, hK⟩ : ∃ K, (sizeV x0).1 = K := ⟨_, rfl⟩
      rw [hK] at SA HG1 q0 q1
      have HSA := hide SA
      have g := unhide HG1
      subst g
      clear SA hK HG1
      go_wp2_with fail
      refine (unhide HSA).mono ?_
      rintro e we ⟨rfl, rfl⟩
      clear HSA
      go_wp2_with fail
      go_ret
      exact ⟨rfl, unhide B⟩
  · obtain ⟨hf, rfl, rfl⟩ := broad_err (unhide TL) (unhide TM) he
    have hen : (el != 0) = true := by simp [he]
    have hfn : (em != 0) = true := by simp [hf]
    clear TL TM he hf
    go_wp2_with fail
    go_ret
    exact ⟨rfl, unhide B⟩

set_option maxRecDepth 100000 in
theorem contract (H : Type) (enc : TypeId × Value → H) (W : World) (base : Nat) (args : Array Value) (ds gs : List (DataW H)) (before : List MemPlace)
    (hval0 : ∀ (j : Nat) t v, Try.f6.params[j]? = some t → args[j]? = some v → Value.okWide Try.prog W .any base t v)
    (hW : DataW.Whole enc Try.prog Try.f6.params.toList Rows.shapeBothSpec.vars false W args.toList ds gs before) :
    Calls Try.prog 6 args W fun e W' => ∃ v, e = .returned v ∧ Rows.shapeBothSpec.post enc Try.prog Try.f6 false true false false W args v W' := by
  have hval : ∀ (j : Nat) t v, Try.f6.params[j]? = some t → args[j]? = some v → Value.okWide Try.prog W .any base t v := hval0
  have hW' := hW
  obtain ⟨p, q, hA0, hV, rfl, hfz, hnd⟩ := hW
  have hA : DataW.TrodAll enc Try.prog W 0 (fun _ => true) true Try.f6.params.toList args.toList ds p := hA0
  rw [Try.params6] at hA hval
  obtain ⟨v0, vs0, d0, ds0, pl0, q0, hargs, rfl, rfl, h0, r0⟩ := trodAll_cons hA
  obtain ⟨v1, vs1, d1, ds1, pl1, q1, rfl, rfl, rfl, h1, r1⟩ := trodAll_cons r0
  obtain ⟨rfl, rfl, rfl⟩ := trodAll_nil r1
  obtain rfl : args = #[v0, v1] := by cases args; simp_all
  obtain ⟨rfl, rfl⟩ := trodVars_none hV
  have h0k := h0
  obtain ⟨p0, c0, x0, rfl, s0, hd0⟩ := ints_open Try.underlying22 Try.underlying3 (by kernel_rfl) (hval 0 22 v0 rfl rfl) h0
  have hlt0 : ∀ y ∈ pl0, y.block < W.heap.size := fun y hy => hW'.lt y (by simp [hy])
  have h1k := h1
  obtain ⟨p1, c1, x1, rfl, s1, hd1⟩ := ints_open Try.underlying22 Try.underlying3 (by kernel_rfl) (hval 1 22 v1 rfl rfl) h1
  have hlt1 : ∀ y ∈ pl1, y.block < W.heap.size := fun y hy => hW'.lt y (by simp [hy])
  clear hA0 hval0
  simp only [List.append_nil] at hW'
  refine (walk p0 c0 x0 p1 c1 x1 W s0 s1).mono fun e W' ⟨he, bel⟩ => ?_
  subst he
  exact ⟨_, rfl, _, _, _, [], _, [], hW', trodAll_mk1 (shut_bool Try.underlying4 _), (trodAll_cons_mk (Below.trod laidOut (by kernel_rfl) (of_decide_eq_true (by kernel_rfl)) h0k bel hlt0) (trodAll_cons_mk (Below.trod laidOut (by kernel_rfl) (of_decide_eq_true (by kernel_rfl)) h1k bel hlt1) trodAll_mk0)), rfl, bel.frame _, fun h => by cases h⟩

set_option maxRecDepth 100000 in
theorem lifted (os : Os) (started : os.Started) (H : Type) (enc : TypeId × Value → H) :
    ReturnsInHanded {} Try.checked os 6 .any (Rows.shapeBothSpec.pre6 enc Try.prog Try.f6 Rows.shapeBothRow.domain false) (Rows.shapeBothSpec.post enc Try.prog Try.f6 false true false false) := by
  refine returnsInHanded_of_change (C := Try.checked) own started (by kernel_rfl) Try.func6
    (ChangeSpec.witness6 (enc := enc) (C := Try.checked) false ⟨#[], #[.slice none 0 0, .slice none 0 0], []⟩ 8 (by kernel_rfl) (by kernel_rfl) (by kernel_rfl) (by kernel_rfl)) ?_
  intro W base args ds gs before hval hW hcnd _
  exact contract H enc W base args ds gs before hval hW

theorem proved : Rows.ShapeBothSaid :=
  OpenClaim.holds_of_wide 6 Try.f6 rfl rfl rfl rfl rfl rfl rfl ⟨rfl, rfl, rfl, rfl, rfl⟩ rfl rfl rfl rfl rfl (by kernel_rfl) Try.func6 (by kernel_rfl)
    (of_decide_eq_true (by kernel_rfl)) (by unfold Func.isWrapper; first | (rw [if_pos (by decide +kernel)]; kernel_rfl) | (rw [if_neg (by decide +kernel)]; exact ⟨rfl, rfl⟩))
    (fun os started H enc _ => lifted os started H enc)
#print axioms proved
end Go.Proofs.Ytgobpoaalnpagaa.shapeBoth
