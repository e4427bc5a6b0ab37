/- For all fields: what the code writes of them, or why it writes none, is what the document says; no condition. -/
import Derived.Test.YtbcmfgohbppndaaRows
import Derived.WalkKit
import Derived.ProofKit
import Derived.OpenShut
import Derived.Below
import Derived.Carry
import Derived.SizedLaws
import Derived.Test.YtbcmfgohbppndaaLN
import Derived.Test.YtbcmfgohbppndaaKN
import Derived.Test.YtbcmfgohbppndaaKR
import Derived.Test.YtbcmfgohbppndaaKT
namespace Go.Proofs.Ytbcmfgohbppndaa.pbufWrites
open Go.ChangeShapes Go.WideShapes Go.ChangeAt Go.RowKit
set_option linter.unusedVariables false

theorem own : ownKnob Try.prog.godebug = none := by kernel_rfl
theorem laidOut : laidOutB Try.prog = true := by kernel_rfl

set_option maxRecDepth 100000 in
set_option maxHeartbeats 4000000 in
/-- The statement's call returns true, whatever came in. -/
theorem walk (p0 : Option Addr) (c0 : Nat) (L0 : List FA) (W : World) (s0 : Fls W p0 c0 L0) (u0 : c0 * 48 ≤ 140737488351232 ∧ ∀ a ∈ L0, a.d.length ≤ 140737488351232) :
    Calls Try.prog 6 #[.slice p0 L0.length c0] W fun e W' => e = .returned (.bool true) ∧ Below W.heap.size W W' := by
  have S0 := hide s0
  have hd : ∀ a ∈ L0, a.d.length ≤ 140737488355328 := fun a ha => by have := u0.2 a ha; omega
  have WR := hide (fun w h => cwrite_any p0 c0 L0 w h hd)
  have PL := hide (fun w h => plain6_any p0 c0 L0 w h (by have := s0.1.1; have := u0.1; omega))
  have RW := hide (fun q d w h => rwrite2_any q d L0 w h u0.2)
  have hwb : isB (writeV (L0.map FA.f)).1 := write_isB (fun f hf => by
    obtain ⟨a, ha, rfl⟩ := List.mem_map.1 hf
    exact ⟨(s0.2 a ha).ok, by have := hd a ha; simp only [FA.f]; omega⟩)
  generalize writeV (L0.map FA.f) = R at WR RW hwb
  obtain ⟨R1, R2⟩ := R
  simp only at WR RW hwb
  have HWB := hide hwb
  clear s0 hwb hd
  go_enter Try.func6, Try.ntmps6
  go_wp2_with fail
  refine (awake6_any _).mono ?_
  rintro e w1 ⟨rfl, hb⟩
  have B := hide hb
  clear hb
  go_wp2_with fail
  refine (unhide WR _ ((unhide S0).below (unhide B))).mono ?_
  rintro e w2 ⟨v2, rfl, hO⟩
  obtain ⟨q2, d2, rfl, hl2, _⟩ := hO.form
  have I1 := hide (hl2.ints (isB_wf (unhide HWB)))
  replace B := hide (bl_tr (unhide B) hO.2)
  clear hO hl2 WR
  go_wp2_with fail
  refine (unhide PL _ ((unhide S0).below (unhide B))).mono ?_
  rintro e w3 ⟨v3, rfl, hO⟩
  obtain ⟨q3, d3, rfl, hl3, _⟩ := hO.form
  have F3 : Hid (Fls w3 q3 d3 L0) := hide ⟨hl3, fun a ha => ((unhide S0).below (bl_tr (unhide B) hO.2)).2 a ha⟩
  replace I1 := hide ((unhide I1).below hO.2)
  replace B := hide (bl_tr (unhide B) hO.2)
  clear hO hl3 PL
  go_wp2_with fail
  refine (unhide RW _ _ _ (unhide F3)).mono ?_
  rintro e w4 ⟨⟨q4, d4, rfl, hI⟩, hb⟩
  have SB := hide (rsameb_any q2 q4 d2 d4 R1 R1 w4 ((unhide I1).below hb) hI)
  replace B := hide (bl_tr (unhide B) hb)
  clear hI hb RW I1 F3
  go_wp2_with fail
  refine (unhide SB).mono ?_
  rintro e w5 ⟨rfl, hb⟩
  replace B := hide (bl_tr (unhide B) hb)
  clear hb SB
  simp only [decide_true]
  go_wp2_with fail
  go_ret
  exact ⟨rfl, unhide B⟩

set_option maxRecDepth 100000 in
theorem contract (H : Type) (enc : TypeId × Value → H) (W : World) (base : Nat) (args : Array Value) (ds gs : List (DataW H)) (before : List MemPlace)
    (hval0 : ∀ (j : Nat) t v, Try.f6.params[j]? = some t → args[j]? = some v → Value.okWide Try.prog W .any base t v)
    (hW : DataW.Whole enc Try.prog Try.f6.params.toList Rows.pbufWritesSpec.vars false W args.toList ds gs before) (hsz0 : (DataW.weightsEach Try.prog (Try.f6.params.toList ++ Rows.pbufWritesSpec.plain.varTypes Try.prog) (ds ++ gs)).all (· ≤ reachBytes) = true) :
    Calls Try.prog 6 args W fun e W' => ∃ v, e = .returned v ∧ Rows.pbufWritesSpec.post enc Try.prog Try.f6 false true false false W args v W' := by
  have hval : ∀ (j : Nat) t v, Try.f6.params[j]? = some t → args[j]? = some v → Value.okWide Try.prog W .any base t v := hval0
  have hW' := hW
  obtain ⟨p, q, hA0, hV, rfl, hfz, hnd⟩ := hW
  have hA : DataW.TrodAll enc Try.prog W 0 (fun _ => true) true Try.f6.params.toList args.toList ds p := hA0
  have hsz : (DataW.weightsEach Try.prog (Try.f6.params.toList ++ Rows.pbufWritesSpec.plain.varTypes Try.prog) (ds ++ gs)).all (· ≤ reachBytes) = true := hsz0
  clear hsz0
  rw [Try.params6] at hA hval hsz
  obtain ⟨v0, vs0, d0, ds0, pl0, q0, hargs, rfl, rfl, h0, r0⟩ := trodAll_cons hA
  obtain ⟨rfl, rfl, rfl⟩ := trodAll_nil r0
  obtain rfl : args = #[v0] := by cases args; simp_all
  obtain ⟨rfl, rfl⟩ := trodVars_none hV
  have h0k := h0
  obtain ⟨p0, c0, L0, rfl, s0, hd0⟩ := flds_open (hval 0 32 v0 rfl rfl) h0
  have hlt0 : ∀ y ∈ pl0, y.block < W.heap.size := fun y hy => hW'.lt y (by simp [hy])
  have u0 : c0 * 48 ≤ 140737488351232 ∧ ∀ a ∈ L0, a.d.length ≤ 140737488351232 :=
    flds_sized hd0 s0.1.1 (fun a ha => (s0.2 a ha).2.2.2.1) (fun m hm => by have h9 := List.all_eq_true.1 hsz m (DataW.weights_mem_each (j := 0) rfl rfl m hm); simpa using h9)
  clear hA0 hval0
  simp only [List.append_nil] at hW'
  refine (walk p0 c0 L0 W s0 u0).mono fun e W' ⟨he, bel⟩ => ?_
  subst he
  exact ⟨_, rfl, _, _, _, [], _, [], hW', trodAll_mk1 (shut_bool Try.underlying4 _), (trodAll_cons_mk (Below.trod laidOut (by kernel_rfl) (of_decide_eq_true (by kernel_rfl)) h0k bel hlt0) trodAll_mk0), rfl, bel.frame _, fun h => by cases h⟩

set_option maxRecDepth 100000 in
theorem lifted (os : Os) (started : os.Started) (H : Type) (enc : TypeId × Value → H) :
    ReturnsInHanded {} Try.checked os 6 .any (Rows.pbufWritesSpec.pre6 enc Try.prog Try.f6 Rows.pbufWritesRow.domain false) (Rows.pbufWritesSpec.post enc Try.prog Try.f6 false true false false) := by
  refine returnsInHanded_of_change_sized (C := Try.checked) own started (by kernel_rfl) Try.func6
    (ChangeSpec.witness6 (enc := enc) (C := Try.checked) false ⟨#[], #[.slice none 0 0], []⟩ 8 (by kernel_rfl) (by kernel_rfl) (by kernel_rfl) (by kernel_rfl)) ?_
  intro W base args ds gs before hval hW hcnd hsz _
  exact contract H enc W base args ds gs before hval hW hsz

theorem proved : Rows.PbufWritesSaid :=
  OpenClaim.holds_of_wide 6 Try.f6 rfl rfl rfl rfl rfl rfl rfl ⟨rfl, rfl, rfl, rfl, rfl⟩ rfl rfl rfl rfl rfl (by kernel_rfl) Try.func6 (by kernel_rfl)
    (of_decide_eq_true (by kernel_rfl)) (by unfold Func.isWrapper; first | (rw [if_pos (by decide +kernel)]; kernel_rfl) | (rw [if_neg (by decide +kernel)]; exact ⟨rfl, rfl⟩))
    (fun os started H enc _ => lifted os started H enc)
#print axioms proved
end Go.Proofs.Ytbcmfgohbppndaa.pbufWrites
