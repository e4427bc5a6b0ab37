/- For all bytes: what the code reads of them it writes in no more bytes, and reads those as the same fields; no condition. -/
import Derived.Test.YtbcmfgohbppndabRows
import Derived.WalkKit
import Derived.ProofKit
import Derived.OpenShut
import Derived.Below
import Derived.Carry
import Derived.Test.YtbcmfgohbppndabLN
namespace Go.Proofs.Ytbcmfgohbppndab.pbufAgain
open Go.ChangeShapes Go.WideShapes Go.ChangeAt Go.RowKit
set_option linter.unusedVariables false

theorem own : ownKnob Try.prog.godebug = none := by kernel_rfl
theorem laidOut : laidOutB Try.prog = true := by kernel_rfl

set_option maxRecDepth 100000 in
set_option maxHeartbeats 4000000 in
/-- The statement's call returns true, whatever came in. -/
theorem walk (p0 : Option Addr) (c0 : Nat) (x0 : List Int) (W : World) (s0 : Ints .u8 W p0 c0 x0) :
    Calls Try.prog 4 #[.slice p0 x0.length c0] W fun e W' => e = .returned (.bool true) ∧ Below W.heap.size W W' := by
  have S0 := hide s0
  have RD := hide (fun w h => cread_any p0 c0 x0 w h)
  have hB := wf_isB s0.2.2.1
  have nl := s0.len
  by_cases h0 : (readV x0).2 = 0
  · obtain ⟨g1, g2, g3⟩ := write_read hB h0
    have hok : ∀ f ∈ (readV x0).1, okF f ∧ f.2.2.2.length < 18446744073709551616 := fun f hf => ⟨(g3 f hf).1, by have := (g3 f hf).2; omega⟩
    have rw1 := read_write hok g1
    have HWB := hide (write_isB hok)
    have RD2 := hide (fun q d w h => cread_any q d (writeV (readV x0).1).1 w h)
    rw [rw1] at RD2
    simp only at RD2
    have HL : Hid (∀ L : List FA, L.map FA.f = (readV x0).1 → ∀ a ∈ L, a.d.length ≤ 140737488355328) := hide (fun L hL a ha => by
      have := (g3 a.f (by rw [← hL]; exact List.mem_map.2 ⟨a, ha, rfl⟩)).2
      simp only [FA.f] at this
      omega)
    have WR := hide (fun (L : List FA) (hL : L.map FA.f = (readV x0).1) q d w h => (by
      have := cwrite_any q d L w h (unhide HL L hL)
      rw [hL, g1] at this
      exact this : Calls Try.prog 7 #[.slice q L.length d] w fun e w' => ∃ v, e = .returned (.tuple #[v, .int .i64 0]) ∧ OwnG 5 (Value.int .u8) w w' v (writeV (readV x0).1).1))
    rw [h0] at RD
    generalize (writeV (readV x0).1).1 = R1 at WR RD2 HWB g2
    generalize (readV x0).1 = G at RD RD2 WR
    have hle : (R1.length : Int) ≤ (x0.length : Int) := by omega
    clear s0 h0 g1 g2 g3 hok rw1 HL hB
    go_enter Try.func4, Try.ntmps4
    go_wp2_with fail
    refine (awake6_any _).mono ?_
    rintro e w1 ⟨rfl, hb⟩
    have B := hide hb
    clear hb
    go_wp2_with fail
    refine (unhide RD _ ((unhide S0).below (unhide B))).mono ?_
    rintro e w2 ⟨v2, L, rfl, hf, hL⟩
    obtain ⟨q2, d2, rfl, hF⟩ := (unhide hL).fls
    have F2 := hide hF
    have HF := hf
    replace B := hide (bl_tr (unhide B) (unhide hL).1.2)
    clear hF hL hf RD
    go_wp2_with fail
    refine (unhide WR L (unhide HF) _ _ _ (unhide F2)).mono ?_
    rintro e w3 ⟨v3, rfl, hO⟩
    obtain ⟨q3, d3, rfl, hl3, _⟩ := hO.form
    have I3 := hide (hl3.ints (isB_wf (unhide HWB)))
    replace F2 := hide ((unhide F2).below hO.2)
    replace B := hide (bl_tr (unhide B) hO.2)
    clear hO hl3 WR
    go_wp2_with fail
    refine (unhide RD2 _ _ _ (unhide I3)).mono ?_
    rintro e w4 ⟨v4, M, rfl, hf, hL⟩
    obtain ⟨q4, d4, rfl, hF⟩ := (unhide hL).fls
    have EQ := hide (equal6_any q2 q4 d2 d4 L M w4 ((unhide F2).below (unhide hL).1.2) hF)
    rw [decide_eq_true ((unhide HF).trans (unhide hf).symm)] at EQ
    replace B := hide (bl_tr (unhide B) (unhide hL).1.2)
    clear hF hL hf RD2 F2 I3
    go_wp2_with fail
    refine (unhide EQ).mono ?_
    rintro e w5 ⟨rfl, hb⟩
    replace B := hide (bl_tr (unhide B) hb)
    clear hb EQ
    go_wp2_with fail
    go_ret
    exact ⟨rfl, unhide B⟩
  · have e1 := readV_err x0 h0
    rw [e1] at RD
    have t0 : ((readV x0).2 != 0) = true := bneTp h0
    generalize (readV x0).2 = E at RD t0
    clear s0 h0 e1 hB
    go_enter Try.func4, Try.ntmps4
    go_wp2_with fail
    refine (awake6_any _).mono ?_
    rintro e w1 ⟨rfl, hb⟩
    have B := hide hb
    clear hb
    go_wp2_with fail
    refine (unhide RD _ ((unhide S0).below (unhide B))).mono ?_
    rintro e w2 ⟨v2, L, rfl, hf, hL⟩
    have hL0 := map_nil_of (unhide hf)
    subst hL0
    obtain ⟨q2, d2, rfl, hF⟩ := (unhide hL).fls
    replace B := hide (bl_tr (unhide B) (unhide hL).1.2)
    clear hF hL hf RD
    simp only [List.length_nil]
    go_wp2_with fail
    go_ret
    exact ⟨rfl, unhide B⟩

set_option maxRecDepth 100000 in
theorem contract (H : Type) (enc : TypeId × Value → H) (W : World) (base : Nat) (args : Array Value) (ds gs : List (DataW H)) (before : List MemPlace)
    (hval0 : ∀ (j : Nat) t v, Try.f4.params[j]? = some t → args[j]? = some v → Value.okWide Try.prog W .any base t v)
    (hW : DataW.Whole enc Try.prog Try.f4.params.toList Rows.pbufAgainSpec.vars false W args.toList ds gs before) :
    Calls Try.prog 4 args W fun e W' => ∃ v, e = .returned v ∧ Rows.pbufAgainSpec.post enc Try.prog Try.f4 false true false false W args v W' := by
  have hval : ∀ (j : Nat) t v, Try.f4.params[j]? = some t → args[j]? = some v → Value.okWide Try.prog W .any base t v := hval0
  have hW' := hW
  obtain ⟨p, q, hA0, hV, rfl, hfz, hnd⟩ := hW
  have hA : DataW.TrodAll enc Try.prog W 0 (fun _ => true) true Try.f4.params.toList args.toList ds p := hA0
  rw [Try.params4] at hA hval
  obtain ⟨v0, vs0, d0, ds0, pl0, q0, hargs, rfl, rfl, h0, r0⟩ := trodAll_cons hA
  obtain ⟨rfl, rfl, rfl⟩ := trodAll_nil r0
  obtain rfl : args = #[v0] := by cases args; simp_all
  obtain ⟨rfl, rfl⟩ := trodVars_none hV
  have h0k := h0
  obtain ⟨p0, c0, x0, rfl, s0, hd0⟩ := ints_open Try.underlying24 Try.underlying5 (by kernel_rfl) (hval 0 24 v0 rfl rfl) h0
  have hlt0 : ∀ y ∈ pl0, y.block < W.heap.size := fun y hy => hW'.lt y (by simp [hy])
  clear hA0 hval0
  simp only [List.append_nil] at hW'
  refine (walk p0 c0 x0 W s0).mono fun e W' ⟨he, bel⟩ => ?_
  subst he
  exact ⟨_, rfl, _, _, _, [], _, [], hW', trodAll_mk1 (shut_bool Try.underlying4 _), (trodAll_cons_mk (Below.trod laidOut (by kernel_rfl) (of_decide_eq_true (by kernel_rfl)) h0k bel hlt0) trodAll_mk0), rfl, bel.frame _, fun h => by cases h⟩

set_option maxRecDepth 100000 in
theorem lifted (os : Os) (started : os.Started) (H : Type) (enc : TypeId × Value → H) :
    ReturnsInHanded {} Try.checked os 4 .any (Rows.pbufAgainSpec.pre6 enc Try.prog Try.f4 Rows.pbufAgainRow.domain false) (Rows.pbufAgainSpec.post enc Try.prog Try.f4 false true false false) := by
  refine returnsInHanded_of_change (C := Try.checked) own started (by kernel_rfl) Try.func4
    (ChangeSpec.witness6 (enc := enc) (C := Try.checked) false ⟨#[], #[.slice none 0 0], []⟩ 8 (by kernel_rfl) (by kernel_rfl) (by kernel_rfl) (by kernel_rfl)) ?_
  intro W base args ds gs before hval hW hcnd _
  exact contract H enc W base args ds gs before hval hW

theorem proved : Rows.PbufAgainSaid :=
  OpenClaim.holds_of_wide 4 Try.f4 rfl rfl rfl rfl rfl rfl rfl ⟨rfl, rfl, rfl, rfl, rfl⟩ rfl rfl rfl rfl rfl (by kernel_rfl) Try.func4 (by kernel_rfl)
    (of_decide_eq_true (by kernel_rfl)) (by unfold Func.isWrapper; first | (rw [if_pos (by decide +kernel)]; kernel_rfl) | (rw [if_neg (by decide +kernel)]; exact ⟨rfl, rfl⟩))
    (fun os started H enc _ => lifted os started H enc)
#print axioms proved
end Go.Proofs.Ytbcmfgohbppndab.pbufAgain
