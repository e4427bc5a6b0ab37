import Derived.Test.YtaikppgoahdjbaaGreatRows
import Derived.WalkKit
import Derived.ProofKit
import Derived.OpenShut
import Derived.Below
import Derived.Carry
import Derived.Test.YtaikppgoahdjbaaGreatV52

/- For all bytes: what the code reads of them may be written, and what is written is read as the same model again; what it does not read is told by one of three errors and no model; no condition. -/
namespace Go.Proofs.YtaikppgoahdjbaaGreat.onnxAgain
open Go.ChangeShapes Go.WideShapes Go.ChangeAt Go.RowKit
set_option linter.unusedVariables false

theorem own : ownKnob Tryz.prog.godebug = none := by kernel_rfl
theorem laidOut : laidOutB Tryz.prog = true := by kernel_rfl

set_option maxRecDepth 100000 in
set_option maxHeartbeats 4000000 in
/-- The statement's call returns true, whatever came in. -/
theorem walk (p0 : Option Addr) (c0 : Nat) (x0 : List Int) (W : World) (s0 : Ints .u8 W p0 c0 x0) :
    Calls Tryz.prog 7 #[.slice p0 x0.length c0] W fun e W' => e = .returned (.bool true) ∧ Below W.heap.size W W' := by
  have hB := wf_isB s0.2.2.1
  have CD := hide (fun v (hv : Below W.heap.size W v) => cdecode_any p0 c0 x0 v (s0.below hv))
  by_cases h0 : decC x0 = 0
  · have hV := dec_V hB h0
    obtain ⟨k1, k2, k3⟩ := check_ok hB hV
    rw [h0] at CD
    obtain ⟨M, hM⟩ : ∃ M, (decodeV x0).1 = M := ⟨_, rfl⟩
    rw [hM] at k1 k2 k3
    have CD2 : Hid (∀ v, Below W.heap.size W v → Calls Tryz.prog 11 #[.slice p0 x0.length c0] v fun e w' => ∃ x : MoA, e = .returned (.tuple #[moV x, .int .i64 0]) ∧ Hid (x.d = M ∧ x.ops = 17 ∧ MoLt x ∧ MoIn 0 w' x ∧ Below v.heap.size v w')) := hide (fun v hv => by
      refine (uh CD v hv).mono fun e u hh => ?_
      obtain ⟨x, he, hh⟩ := hh
      obtain ⟨⟨_, g1⟩, g2, g3⟩ := uh hh
      have hd : x.d = M := (g1 rfl).trans hM
      refine ⟨x, he, hide ⟨hd, ?_, sm_lt (check_small (by rw [hd]; exact k1)), g2, g3⟩⟩
      have : x.d.1 = 17 := by rw [hd]; exact k2
      exact this)
    have HK1 := hide k1
    have HK3 := hide k3
    clear CD hV hM k1 k2 k3 h0 hB
    have hen : (encodeV M).2 = 0 ∨ (encodeV M).2 = 8 := by
      by_cases g : (encodeV M).2 = 0
      · exact .inl g
      · rcases (enc_no g).2 with g2 | g2
        · rw [uh HK1] at g2; exact absurd g2 g
        · exact .inr g2.2
    have HEN := hide hen
    clear hen
    have hsl := s0.len
    clear s0
    go_enter Tryz.func7, Tryz.ntmps7
    go_wp2_with fail
    refine (awake7_any _).mono ?_
    rintro e w1 ⟨rfl, hb⟩
    have B := hide hb
    clear hb
    go_wp2_with fail
    refine (uh CD2 _ (uh B)).mono ?_
    rintro e w2 ⟨x, rfl, hq⟩
    obtain ⟨g1, g2, g3, g4, g5⟩ := uh hq
    replace B := hide (bl_tr (uh B) g5)
    have CK := hide (fun v (hv : Below w2.heap.size w2 v) => ccheck_any x v (g4.below hv) g3)
    have CE := hide (fun v (hv : Below w2.heap.size w2 v) => cencode_any x (B := 0) v (g4.below hv) g3 (Nat.zero_le _))
    have SM := hide (fun (y : MoA) v (hv : Below w2.heap.size w2 v) (hy : MoIn 0 v y) (he : x.d = y.d) => rmodel_true x y v (g4.below hv) hy he)
    rw [g1] at CK CE SM
    rw [uh HK1] at CK
    clear hq g1 g3 g4 g5 CD2
    obtain ⟨xops, xnm, xnodes, xqn, xcn, xinits, xqi, xci, xinp, xqp, xcp, xout, xqo, xco⟩ := x
    simp only at g2
    subst g2
    simp only [moV, moCells, strV] at CK CE SM ⊢
    have X0 := hide (Box.new w2 #[.int .i64 17, .string (strOfNums xnm), .slice xqn xnodes.length xcn, .slice xqi xinits.length xci, .slice xqp xinp.length xcp, .slice xqo xout.length xco] 29)
    have BX := hide (al1p w2 (Obj.cells #[.int .i64 17, .string (strOfNums xnm), .slice xqn xnodes.length xcn, .slice xqi xinits.length xci, .slice xqp xinp.length xcp, .slice xqo xout.length xco] 29))
    have x0 := (uh X0).cell
    go_wp2_with fail
    refine (uh CK _ (uh BX)).mono ?_
    rintro e w3 ⟨rfl, hb⟩
    replace X0 := hide ((uh X0).below hb)
    replace BX := hide (bl_tr (uh BX) hb)
    clear hb CK x0
    have x0 := (uh X0).cell
    go_wp2_with fail
    refine (uh CE _ (uh BX)).mono ?_
    rintro e w4 ⟨v4, rfl, hO⟩
    obtain ⟨q4, d4, hq4, hL4, _⟩ := hO.form
    subst hq4
    replace X0 := hide ((uh X0).below hO.2)
    replace BX := hide (bl_tr (uh BX) hO.2)
    replace SM := hide (fun (y : MoA) v (hv : Below w4.heap.size w4 v) (hy : MoIn 0 v y) (he : M = y.d) => uh SM y v (bl_tr (uh BX) hv) hy he)
    replace B := hide (bl_tr (uh B) (uh BX))
    clear hO CE x0 BX
    rcases uh HEN with h | h
    · have hb7 := back7 (uh HK3) h
      have hB := enc_isB (uh HK3) h
      have hd := dec_of hB hb7
      have I4 := hide (hL4.ints (isB_wf hB))
      have CD : Hid (Calls Tryz.prog 11 #[.slice q4 (encodeV M).1.length d4] w4 fun e w' => ∃ y : MoA, e = .returned (.tuple #[moV y, .int .i64 0]) ∧ Hid (M = y.d ∧ MoIn 0 w' y ∧ Below w4.heap.size w4 w')) := hide (by
        have k := cdecode_any q4 d4 _ w4 (uh I4)
        rw [hd] at k
        refine k.mono fun e u hh => ?_
        obtain ⟨y, he, hh⟩ := hh
        obtain ⟨⟨_, g1⟩, g2, g3⟩ := uh hh
        exact ⟨y, he, hide ⟨by rw [g1 rfl, hb7], g2, g3⟩⟩)
      rw [h]
      generalize (encodeV M).1 = R at CD ⊢
      clear hb7 hB hd I4 hL4 h HEN HK1 HK3
      go_wp2_with fail
      refine (uh CD).mono ?_
      rintro e w5 ⟨y, rfl, hq⟩
      obtain ⟨g1, g2, g3⟩ := uh hq
      replace X0 := hide ((uh X0).below g3)
      replace B := hide (bl_tr (uh B) g3)
      have S := hide (fun v (hv : Below w5.heap.size w5 v) => uh SM y v (bl_tr g3 hv) (g2.below hv) g1)
      clear hq g1 g2 g3 CD SM
      have x0 := (uh X0).cell
      have z0 := (uh X0).lt
      obtain ⟨yops, ynm, ynodes, yqn, ycn, yinits, yqi, yci, yinp, yqp, ycp, yout, yqo, yco⟩ := y
      simp only [moV, moCells, strV] at S ⊢
      go_wp2_with fail
      refine (uh S _ (al1p w5 (Obj.cells #[.int .i64 yops, .string (strOfNums ynm), .slice yqn ynodes.length ycn, .slice yqi yinits.length yci, .slice yqp yinp.length ycp, .slice yqo yout.length yco] 29))).mono ?_
      rintro e w6 ⟨rfl, hb⟩
      replace B := hide (bl_tr (uh B) (bl_tr (al1p w5 (Obj.cells #[.int .i64 yops, .string (strOfNums ynm), .slice yqn ynodes.length ycn, .slice yqi yinits.length yci, .slice yqp yinp.length ycp, .slice yqo yout.length yco] 29)) hb))
      clear hb S x0 z0
      go_wp2_with fail
      go_ret
      exact ⟨rfl, uh B⟩
    · rw [h]
      generalize (encodeV M).1 = R
      clear h HEN HK1 HK3 hL4 SM
      go_wp2_with fail
      go_ret
      exact ⟨rfl, uh B⟩
  · have hE : decC x0 = 6 ∨ decC x0 = 7 ∨ decC x0 = 8 := by
      rcases dec_cases x0 with h | h
      · exact absurd h h0
      · exact h
    have CD2 : Hid (∀ v, Below W.heap.size W v → Calls Tryz.prog 11 #[.slice p0 x0.length c0] v fun e w' => e = .returned (.tuple #[moV noMoA, .int .i64 (decC x0)]) ∧ Below v.heap.size v w') := hide (fun v hv => by
      refine (uh CD v hv).mono fun e u hh => ?_
      obtain ⟨x, he, hh⟩ := hh
      obtain ⟨⟨g1, _⟩, g2, g3⟩ := uh hh
      rw [g1 h0] at he
      exact ⟨he, g3⟩)
    clear CD h0 hB
    have SM := hide (fun v => rmodel_true noMoA noMoA v (noMo_in 0 v) (noMo_in 0 v) rfl)
    simp only [moV, moCells, strV, noMoA, str_nil7, List.length_nil] at CD2 SM
    generalize decC x0 = E at CD2 hE
    have hsl := s0.len
    clear s0
    rcases hE with h | h | h
    all_goals
      subst h
      go_enter Tryz.func7, Tryz.ntmps7
      go_wp2_with fail
      refine (awake7_any _).mono ?_
      rintro e w1 ⟨rfl, hb⟩
      have B := hide hb
      clear hb
      go_wp2_with fail
      refine (uh CD2 _ (uh B)).mono ?_
      rintro e w2 ⟨rfl, hb⟩
      replace B := hide (bl_tr (uh B) hb)
      clear hb CD2
      have X0 := hide (Box.new w2 #[.int .i64 0, .string { data := #[] }, .slice none 0 0, .slice none 0 0, .slice none 0 0, .slice none 0 0] 29)
      have x0 := (uh X0).cell
      go_wp2_with fail
      refine (uh SM _).mono ?_
      rintro e w3 ⟨rfl, hb⟩
      replace B := hide (bl_tr (uh B) (bl_tr (al1p w2 (Obj.cells #[.int .i64 0, .string { data := #[] }, .slice none 0 0, .slice none 0 0, .slice none 0 0, .slice none 0 0] 29)) hb))
      clear hb SM x0
      go_wp2_with fail
      go_ret
      exact ⟨rfl, uh B⟩

set_option maxRecDepth 100000 in
theorem contract (H : Type) (enc : TypeId × Value → H) (W : World) (base : Nat) (args : Array Value) (ds gs : List (DataW H)) (before : List MemPlace)
    (hval0 : ∀ (j : Nat) t v, Tryz.f7.params[j]? = some t → args[j]? = some v → Value.okWide Tryz.prog W .any base t v)
    (hW : DataW.Whole enc Tryz.prog Tryz.f7.params.toList Rows.onnxAgainSpec.vars false W args.toList ds gs before) :
    Calls Tryz.prog 7 args W fun e W' => ∃ v, e = .returned v ∧ Rows.onnxAgainSpec.post enc Tryz.prog Tryz.f7 false true false false W args v W' := by
  have hval : ∀ (j : Nat) t v, Tryz.f7.params[j]? = some t → args[j]? = some v → Value.okWide Tryz.prog W .any base t v := hval0
  have hW' := hW
  obtain ⟨p, q, hA0, hV, rfl, hfz, hnd⟩ := hW
  have hA : DataW.TrodAll enc Tryz.prog W 0 (fun _ => true) true Tryz.f7.params.toList args.toList ds p := hA0
  rw [Tryz.params7] at hA hval
  obtain ⟨v0, vs0, d0, ds0, pl0, q0, hargs, rfl, rfl, h0, r0⟩ := trodAll_cons hA
  obtain ⟨rfl, rfl, rfl⟩ := trodAll_nil r0
  obtain rfl : args = #[v0] := by cases args; simp_all
  obtain ⟨rfl, rfl⟩ := trodVars_none hV
  have h0k := h0
  obtain ⟨p0, c0, x0, rfl, s0, hd0⟩ := ints_open Tryz.underlying22 Tryz.underlying5 (by kernel_rfl) (hval 0 22 v0 rfl rfl) h0
  have hlt0 : ∀ y ∈ pl0, y.block < W.heap.size := fun y hy => hW'.lt y (by simp [hy])
  clear hA0 hval0
  simp only [List.append_nil] at hW'
  refine (walk p0 c0 x0 W s0).mono fun e W' ⟨he, bel⟩ => ?_
  subst he
  exact ⟨_, rfl, _, _, _, [], _, [], hW', trodAll_mk1 (shut_bool Tryz.underlying4 _), (trodAll_cons_mk (Below.trod laidOut (by kernel_rfl) (of_decide_eq_true (by kernel_rfl)) h0k bel hlt0) trodAll_mk0), rfl, bel.frame _, fun h => by cases h⟩

set_option maxRecDepth 100000 in
theorem lifted (os : Os) (started : os.Started) (H : Type) (enc : TypeId × Value → H) :
    ReturnsInHanded {} Tryz.checked os 7 .any (Rows.onnxAgainSpec.pre6 enc Tryz.prog Tryz.f7 Rows.onnxAgainRow.domain false) (Rows.onnxAgainSpec.post enc Tryz.prog Tryz.f7 false true false false) := by
  refine returnsInHanded_of_change (C := Tryz.checked) own started (by kernel_rfl) Tryz.func7
    (ChangeSpec.witness6 (enc := enc) (C := Tryz.checked) false ⟨#[], #[.slice none 0 0], []⟩ 8 (by kernel_rfl) (by kernel_rfl) (by kernel_rfl) (by kernel_rfl)) ?_
  intro W base args ds gs before hval hW hcnd _
  exact contract H enc W base args ds gs before hval hW

theorem proved : Rows.OnnxAgainSaid :=
  OpenClaim.holds_of_wide 7 Tryz.f7 rfl rfl rfl rfl rfl rfl rfl ⟨rfl, rfl, rfl, rfl, rfl⟩ rfl rfl rfl rfl rfl (by kernel_rfl) Tryz.func7 (by kernel_rfl)
    (of_decide_eq_true (by kernel_rfl)) (by unfold Func.isWrapper; first | (rw [if_pos (by decide +kernel)]; kernel_rfl) | (rw [if_neg (by decide +kernel)]; exact ⟨rfl, rfl⟩))
    (fun os started H enc _ => lifted os started H enc)
#print axioms proved
end Go.Proofs.YtaikppgoahdjbaaGreat.onnxAgain
