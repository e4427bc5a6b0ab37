/- For every number, all bytes and every place: a number's shortest form, and what stands at the place, are what the document says; what was lent stays; no condition. -/
import Derived.Test.YtbcmfgohbppndaaRows
import Derived.WalkKit
import Derived.ProofKit
import Derived.OpenShut
import Derived.Below
import Derived.Carry
import Derived.SizedLaws
import Derived.Test.YtbcmfgohbppndaaLN
namespace Go.Proofs.Ytbcmfgohbppndaa.pbufVarints
open Go.ChangeShapes Go.WideShapes Go.ChangeAt Go.RowKit
set_option linter.unusedVariables false

theorem own : ownKnob Try.prog.godebug = none := by kernel_rfl
theorem laidOut : laidOutB Try.prog = true := by kernel_rfl

set_option maxRecDepth 100000 in
set_option maxHeartbeats 4000000 in
/-- The statement's call returns true, whatever came in. -/
theorem walk (a0 : Int) (p1 : Option Addr) (c1 : Nat) (x1 : List Int) (a2 : Int) (W : World) (w0 : (Lit.int .u64 a0).wf = true) (s1 : Ints .u8 W p1 c1 x1) (u1 : c1 * 1 ≤ 140737488351232) (w2 : (Lit.int .i64 a2).wf = true) :
    Calls Try.prog 4 #[.int .u64 a0, .slice p1 x1.length c1, .int .i64 a2] W fun e W' => e = .returned (.bool true) ∧ Below W.heap.size W W' := by
  obtain ⟨x0, x1'⟩ := u64_range w0
  have S1 := hide s1
  have hl : x1.length ≤ 140737488351232 := by have := s1.1; omega
  have CV := hide (fun w => cvarint_any a0 w x0 x1')
  have RV := hide (fun w => rvarint_any a0 w x0 x1')
  have LE := hide (fun w h => lent6_any p1 c1 x1 w h hl)
  have HB := hide (isB_wf (varV_range x0 x1'))
  have ev : rdV (varV a0) 0 = (a0, ((varV a0).length : Int), 0) := by
    have h1 := rdG_varV [] x0 x1'
    rw [List.append_nil] at h1
    have h2 := rdV_in (d := varV a0) (m := 0) (by omega)
    rw [List.drop_zero, h1] at h2
    simpa using h2
  have CB := hide (fun q d w h => crdv_any q d (varV a0) 0 w h (by have := (varV_len a0).2; omega))
  rw [ev] at CB
  simp only at CB
  have vl := (varV_len a0).2
  have CR := hide (fun q d w h => crdv_any q d x1 a2 w h (by omega))
  have RR := hide (fun w h => rrdv_any p1 c1 x1 a2 w h (by omega))
  generalize rdV x1 a2 = R at CR RR
  obtain ⟨R1, R2, R3⟩ := R
  simp only at CR RR
  generalize varV a0 = V at CV RV HB CB vl
  clear s1 ev w0 w2 u1
  go_enter Try.func4, Try.ntmps4
  go_wp2_with fail
  refine (awake6_any _).mono ?_
  rintro e w1 ⟨rfl, hb⟩
  have B := hide hb
  clear hb
  go_wp2_with fail
  refine (unhide CV _).mono ?_
  rintro e w2 ⟨v2, rfl, hO⟩
  obtain ⟨q2, d2, rfl, hl2, _⟩ := hO.form
  have I2 := hide (hl2.ints (unhide HB))
  replace B := hide (bl_tr (unhide B) hO.2)
  clear hO hl2 CV
  go_wp2_with fail
  refine (unhide LE _ ((unhide S1).below (unhide B))).mono ?_
  rintro e w3 ⟨⟨g, k, rfl, hL, _⟩, hb⟩
  have LN := hide hL
  replace I2 := hide ((unhide I2).below hb)
  replace B := hide (bl_tr (unhide B) hb)
  clear hL hb LE
  go_wp2_with fail
  refine (unhide CR _ _ _ (unhide LN).1).mono ?_
  rintro e v ⟨rfl, hv⟩
  replace hv := hv.symm
  subst hv
  clear CR
  go_wp2_with fail
  refine (unhide RR _ ((unhide S1).below (unhide B))).mono ?_
  rintro e v ⟨rfl, hv⟩
  replace hv := hv.symm
  subst hv
  clear RR
  go_wp2_with fail
  refine (unhide CB _ _ _ (unhide I2)).mono ?_
  rintro e v ⟨rfl, hv⟩
  replace hv := hv.symm
  subst hv
  clear CB
  go_wp2_with fail
  refine (unhide RV _).mono ?_
  rintro e w4 ⟨v4, rfl, hO⟩
  obtain ⟨q4, d4, rfl, hl4, _⟩ := hO.form
  have SB := hide (rsameb_any q2 q4 d2 d4 V V w4 ((unhide I2).below hO.2) (hl4.ints (unhide HB)))
  replace LN := hide ((unhide LN).below hO.2)
  replace B := hide (bl_tr (unhide B) hO.2)
  clear hO hl4 RV I2
  simp only [decide_true] at SB
  go_wp2_with fail
  refine (unhide SB).mono ?_
  rintro e w5 ⟨rfl, hb⟩
  have WH := hide (whole6_any g k p1 c1 x1 w5 ((unhide LN).below hb) ((unhide S1).below (bl_tr (unhide B) hb)))
  replace B := hide (bl_tr (unhide B) hb)
  clear hb SB LN
  go_wp2_with fail
  refine (unhide WH).mono ?_
  rintro e w6 ⟨rfl, hb⟩
  replace B := hide (bl_tr (unhide B) hb)
  clear hb WH
  go_wp2_with fail
  go_ret
  exact ⟨rfl, unhide B⟩

set_option maxRecDepth 100000 in
theorem contract (H : Type) (enc : TypeId × Value → H) (W : World) (base : Nat) (args : Array Value) (ds gs : List (DataW H)) (before : List MemPlace)
    (hval0 : ∀ (j : Nat) t v, Try.f4.params[j]? = some t → args[j]? = some v → Value.okWide Try.prog W .any base t v)
    (hW : DataW.Whole enc Try.prog Try.f4.params.toList Rows.pbufVarintsSpec.vars false W args.toList ds gs before) (hsz0 : (DataW.weightsEach Try.prog (Try.f4.params.toList ++ Rows.pbufVarintsSpec.plain.varTypes Try.prog) (ds ++ gs)).all (· ≤ reachBytes) = true) :
    Calls Try.prog 4 args W fun e W' => ∃ v, e = .returned v ∧ Rows.pbufVarintsSpec.post enc Try.prog Try.f4 false true false false W args v W' := by
  have hval : ∀ (j : Nat) t v, Try.f4.params[j]? = some t → args[j]? = some v → Value.okWide Try.prog W .any base t v := hval0
  have hW' := hW
  obtain ⟨p, q, hA0, hV, rfl, hfz, hnd⟩ := hW
  have hA : DataW.TrodAll enc Try.prog W 0 (fun _ => true) true Try.f4.params.toList args.toList ds p := hA0
  have hsz : (DataW.weightsEach Try.prog (Try.f4.params.toList ++ Rows.pbufVarintsSpec.plain.varTypes Try.prog) (ds ++ gs)).all (· ≤ reachBytes) = true := hsz0
  clear hsz0
  rw [Try.params4] at hA hval hsz
  obtain ⟨v0, vs0, d0, ds0, pl0, q0, hargs, rfl, rfl, h0, r0⟩ := trodAll_cons hA
  obtain ⟨v1, vs1, d1, ds1, pl1, q1, rfl, rfl, rfl, h1, r1⟩ := trodAll_cons r0
  obtain ⟨v2, vs2, d2, ds2, pl2, q2, rfl, rfl, rfl, h2, r2⟩ := trodAll_cons r1
  obtain ⟨rfl, rfl, rfl⟩ := trodAll_nil r2
  obtain rfl : args = #[v0, v1, v2] := by cases args; simp_all
  obtain ⟨rfl, rfl⟩ := trodVars_none hV
  have h1k := h1
  obtain ⟨p1, c1, x1, rfl, s1, hd1⟩ := ints_open Try.underlying24 Try.underlying5 (by kernel_rfl) (hval 1 24 v1 rfl rfl) h1
  have hlt1 : ∀ y ∈ pl1, y.block < W.heap.size := fun y hy => hW'.lt y (by simp [hy])
  have u1 : c1 * 1 ≤ 140737488351232 := by
    rcases hd1 with ⟨_, e⟩ | ⟨sp, e, e2⟩
    · omega
    · subst e
      have := sized_slice hsz (j := 1) (t := 24) (e := 5) rfl rfl Try.underlying24
      rw [show Try.prog.bytesOf 5 = 1 by kernel_rfl] at this
      simp only [lits, List.length_map, reachBytes] at this
      rw [e2] at this
      exact this
  obtain ⟨a0, rfl, rfl, rfl, w0⟩ := open_int Try.underlying23 (hval 0 23 v0 rfl rfl) h0
  obtain ⟨a2, rfl, rfl, rfl, w2⟩ := open_int Try.underlying3 (hval 2 3 v2 rfl rfl) h2
  clear hA0 hval0
  simp only [List.append_nil] at hW'
  refine (walk a0 p1 c1 x1 a2 W w0 s1 u1 w2).mono fun e W' ⟨he, bel⟩ => ?_
  subst he
  exact ⟨_, rfl, _, _, _, [], _, [], hW', trodAll_mk1 (shut_bool Try.underlying4 _), (trodAll_cons_mk (shut_int Try.underlying23 w0) (trodAll_cons_mk (Below.trod laidOut (by kernel_rfl) (of_decide_eq_true (by kernel_rfl)) h1k bel hlt1) (trodAll_cons_mk (shut_int Try.underlying3 w2) trodAll_mk0))), rfl, bel.frame _, fun h => by cases h⟩

set_option maxRecDepth 100000 in
theorem lifted (os : Os) (started : os.Started) (H : Type) (enc : TypeId × Value → H) :
    ReturnsInHanded {} Try.checked os 4 .any (Rows.pbufVarintsSpec.pre6 enc Try.prog Try.f4 Rows.pbufVarintsRow.domain false) (Rows.pbufVarintsSpec.post enc Try.prog Try.f4 false true false false) := by
  refine returnsInHanded_of_change_sized (C := Try.checked) own started (by kernel_rfl) Try.func4
    (ChangeSpec.witness6 (enc := enc) (C := Try.checked) false ⟨#[], #[.int .u64 0, .slice none 0 0, .int .i64 0], []⟩ 8 (by kernel_rfl) (by kernel_rfl) (by kernel_rfl) (by kernel_rfl)) ?_
  intro W base args ds gs before hval hW hcnd hsz _
  exact contract H enc W base args ds gs before hval hW hsz

theorem proved : Rows.PbufVarintsSaid :=
  OpenClaim.holds_of_wide 4 Try.f4 rfl rfl rfl rfl rfl rfl rfl ⟨rfl, rfl, rfl, rfl, rfl⟩ rfl rfl rfl rfl rfl (by kernel_rfl) Try.func4 (by kernel_rfl)
    (of_decide_eq_true (by kernel_rfl)) (by unfold Func.isWrapper; first | (rw [if_pos (by decide +kernel)]; kernel_rfl) | (rw [if_neg (by decide +kernel)]; exact ⟨rfl, rfl⟩))
    (fun os started H enc _ => lifted os started H enc)
#print axioms proved
end Go.Proofs.Ytbcmfgohbppndaa.pbufVarints
