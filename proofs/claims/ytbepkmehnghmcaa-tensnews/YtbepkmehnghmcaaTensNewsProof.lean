/- For every kind and all dims: a new tensor is of noughts, of the type and dims that are asked for, or refused, as the document says, and the dims that are handed in stay; no condition. -/
import Derived.Test.YtbepkmehnghmcaaRows
import Derived.WalkKit
import Derived.ProofKit
import Derived.OpenShut
import Derived.Below
import Derived.Carry
import Derived.SizedLaws
import Derived.Test.YtbepkmehnghmcaaIW
namespace Go.Proofs.Ytbepkmehnghmcaa.tensNews
open Go.ChangeShapes Go.WideShapes Go.ChangeAt Go.RowKit
set_option linter.unusedVariables false

theorem own : ownKnob Try.prog.godebug = none := by kernel_rfl
theorem laidOut : laidOutB Try.prog = true := by kernel_rfl

set_option maxRecDepth 100000 in
set_option maxHeartbeats 8000000 in
/-- The statement's call returns true, whatever came in. -/
theorem walk (a0 : Int) (p1 : Option Addr) (c1 : Nat) (x1 : List Int) (W : World) (w0 : (Lit.int .i64 a0).wf = true) (s1 : Ints .i64 W p1 c1 x1) (u1 : c1 * 8 ≤ 140737488351232) :
    Calls Try.prog 4 #[.int .i64 a0, .slice p1 x1.length c1] W fun e W' => e = .returned (.bool true) ∧ Below W.heap.size W W' := by
  obtain ⟨i1, hi1, y1, z1, b1⟩ := info_parts Try.infoInt
  have k1 := s1.1
  have K1 : x1.length * 8 ≤ 140737488351232 := by omega
  have S1 := hide s1
  have NW := hide (fun w h => tnew_any a0 p1 c1 x1 w w0 h)
  have RN := hide (fun w h => rnew_any a0 p1 c1 x1 w w0 h)
  obtain ⟨E, hE⟩ : ∃ E, newE a0 x1 = E := ⟨_, rfl⟩
  obtain ⟨V, hV⟩ : ∃ V, newV a0 x1 = V := ⟨_, rfl⟩
  rw [hE, hV] at NW RN
  obtain ⟨ty, ds, fs, is, bs⟩ := V
  unfold tenV tenCells at NW RN
  simp only at NW RN
  clear s1 k1 u1 hE hV
  go_enter Try.func4, Try.ntmps4
  go_wp2_with fail
  refine (awake5_any _).mono ?_
  rintro e w1 ⟨rfl, hb⟩
  have B := hide hb
  have BW1 := hide hb
  clear hb
  go_wp2_with fail
  refine (unhide NW _ ((unhide S1).below (unhide B))).mono ?_
  rintro e w2 ⟨⟨C, rfl, hO⟩, hb⟩
  obtain ⟨qd, ed, qf, ef, qi, ei, qb, eb⟩ := C
  have O := hide hO
  have BO := hide hb
  replace B := hide (bl_tr (unhide B) hb)
  clear hb hO NW
  simp only
  go_wp2_with fail
  refine (unhide RN _ ((unhide S1).below (bl_tr (unhide B) (al1 _ _)))).mono ?_
  rintro e w3 ⟨⟨C, rfl, hU⟩, hb⟩
  obtain ⟨rd, d1, rf, d2, ri, d3, rb, d4⟩ := C
  have bb := bl_tr (al1 _ _) hb
  have XT := hide (Box.below (Box.new w2 #[.int .i64 ty, .slice qd ds.length ed, .slice qf fs.length ef, .slice qi is.length ei, .slice qb bs.length eb] 27) hb)
  have HU := hide hU.1
  replace O := hide ((unhide O).below bb)
  replace BO := hide (bl_tr (unhide BO) bb)
  replace B := hide (bl_tr (unhide B) bb)
  have xt := (unhide XT).cell
  have zt := (unhide XT).lt
  clear bb hb hU RN
  simp only
  have SM := hide (fun w h k => rten_same (ty, ds, fs, is, bs) (ty, ds, fs, is, bs) ⟨qd, ed, qf, ef, qi, ei, qb, eb⟩ ⟨rd, d1, rf, d2, ri, d3, rb, d4⟩ w h k)
  rw [decide_eq_true rfl] at SM
  unfold tenV tenCells at SM
  simp only at SM
  go_wp2_with fail
  refine (unhide SM _ ((unhide O).1.below (al1 _ _)) ((unhide HU).below (al1 _ _))).mono ?_
  rintro e w4 ⟨rfl, hb⟩
  have bb := bl_tr (al1 _ _) hb
  replace O := hide ((unhide O).below bb)
  replace XT := hide ((unhide XT).below bb)
  replace BO := hide (bl_tr (unhide BO) bb)
  replace B := hide (bl_tr (unhide B) bb)
  clear bb hb SM HU xt zt
  have xt := (unhide XT).cell
  have zt := (unhide XT).lt
  go_wp2_with (at_builtin; (refine wpList_append_ls rfl _ _ 22 rfl w4 3 i1 (.int .i64 0) 8 Try.underlying22 hi1 y1 z1 b1 rfl (int_one .i64) _ [] rfl (own_fresh _ _) p1 c1 x1 rfl ((unhide S1).below (bl_tr (unhide B) (al1 _ _))).ls (by unfold maxLen; simp <;> omega) (by simp <;> omega) ?_; intro v5 w5 O5; obtain ⟨q5, c5, rfl, L5, F5⟩ := O5.form; have HL5 := hide L5; have HF5 := hide F5; have B5 := hide O5.2; clear O5 L5 F5; replace XT := hide ((unhide XT).below (unhide B5)); clear xt zt; have xt := (unhide XT).cell; have zt := (unhide XT).lt))
  have SP := spoil_any w1.heap.size (ty, ds, fs, is, bs) ⟨qd, ed, qf, ef, qi, ei, qb, eb⟩ w5 ((unhide O).below (unhide B5)) (by have h1 := (unhide BO).size; have h2 := (unhide B5).size; omega)
  unfold tenV tenCells at SP
  simp only at SP
  refine SP.mono ?_
  rintro e w6 ⟨rfl, hb6, hk6⟩
  have L6 := hide ((unhide HL5).kept hk6 (fun b o e hp => off_later (unhide O).1 ((unhide HF5) b o e hp).1))
  have B6 := hide (((unhide B).trans ((unhide B5).mono (unhide B).size)).trans (hb6.mono (show W.heap.size ≤ w1.heap.size from (unhide BW1).size)))
  clear hb6 hk6 SP
  go_wp2_with fail
  refine (twidth_any a0 _).mono ?_
  rintro e w7 ⟨rfl, rfl⟩
  go_wp2_with fail
  refine (rwidth_any a0 _).mono ?_
  rintro e w7 ⟨rfl, rfl⟩
  go_wp2_with fail
  refine (rsame_true q5 p1 c5 c1 x1 x1 _ ((unhide L6).ints (unhide S1).2.2.1) ((unhide S1).below (unhide B6)) rfl).mono ?_
  rintro e w8 ⟨rfl, hb⟩
  go_wp2_with fail
  go_ret
  exact ⟨rfl, bl_tr (unhide B6) hb⟩

set_option maxRecDepth 100000 in
theorem contract (H : Type) (enc : TypeId × Value → H) (W : World) (base : Nat) (args : Array Value) (ds gs : List (DataW H)) (before : List MemPlace)
    (hval0 : ∀ (j : Nat) t v, Try.f4.params[j]? = some t → args[j]? = some v → Value.okWide Try.prog W .any base t v)
    (hW : DataW.Whole enc Try.prog Try.f4.params.toList Rows.tensNewsSpec.vars false W args.toList ds gs before) (hsz0 : (DataW.weightsEach Try.prog (Try.f4.params.toList ++ Rows.tensNewsSpec.plain.varTypes Try.prog) (ds ++ gs)).all (· ≤ reachBytes) = true) :
    Calls Try.prog 4 args W fun e W' => ∃ v, e = .returned v ∧ Rows.tensNewsSpec.post enc Try.prog Try.f4 false true false false W args v W' := by
  have hval : ∀ (j : Nat) t v, Try.f4.params[j]? = some t → args[j]? = some v → Value.okWide Try.prog W .any base t v := hval0
  have hW' := hW
  obtain ⟨p, q, hA0, hV, rfl, hfz, hnd⟩ := hW
  have hA : DataW.TrodAll enc Try.prog W 0 (fun _ => true) true Try.f4.params.toList args.toList ds p := hA0
  have hsz : (DataW.weightsEach Try.prog (Try.f4.params.toList ++ Rows.tensNewsSpec.plain.varTypes Try.prog) (ds ++ gs)).all (· ≤ reachBytes) = true := hsz0
  clear hsz0
  rw [Try.params4] at hA hval hsz
  obtain ⟨v0, vs0, d0, ds0, pl0, q0, hargs, rfl, rfl, h0, r0⟩ := trodAll_cons hA
  obtain ⟨v1, vs1, d1, ds1, pl1, q1, rfl, rfl, rfl, h1, r1⟩ := trodAll_cons r0
  obtain ⟨rfl, rfl, rfl⟩ := trodAll_nil r1
  obtain rfl : args = #[v0, v1] := by cases args; simp_all
  obtain ⟨rfl, rfl⟩ := trodVars_none hV
  have h1k := h1
  obtain ⟨p1, c1, x1, rfl, s1, hd1⟩ := ints_open Try.underlying22 Try.underlying3 (by kernel_rfl) (hval 1 22 v1 rfl rfl) h1
  have hlt1 : ∀ y ∈ pl1, y.block < W.heap.size := fun y hy => hW'.lt y (by simp [hy])
  have u1 : c1 * 8 ≤ 140737488351232 := by
    rcases hd1 with ⟨_, e⟩ | ⟨sp, e, e2⟩
    · omega
    · subst e
      have := sized_slice hsz (j := 1) (t := 22) (e := 3) rfl rfl Try.underlying22
      rw [show Try.prog.bytesOf 3 = 8 by kernel_rfl] at this
      simp only [lits, List.length_map, reachBytes] at this
      rw [e2] at this
      exact this
  obtain ⟨a0, rfl, rfl, rfl, w0⟩ := open_int Try.underlying3 (hval 0 3 v0 rfl rfl) h0
  clear hA0 hval0
  simp only [List.append_nil] at hW'
  refine (walk a0 p1 c1 x1 W w0 s1 u1).mono fun e W' ⟨he, bel⟩ => ?_
  subst he
  exact ⟨_, rfl, _, _, _, [], _, [], hW', trodAll_mk1 (shut_bool Try.underlying4 _), (trodAll_cons_mk (shut_int Try.underlying3 w0) (trodAll_cons_mk (Below.trod laidOut (by kernel_rfl) (of_decide_eq_true (by kernel_rfl)) h1k bel hlt1) trodAll_mk0)), rfl, bel.frame _, fun h => by cases h⟩

set_option maxRecDepth 100000 in
theorem lifted (os : Os) (started : os.Started) (H : Type) (enc : TypeId × Value → H) :
    ReturnsInHanded {} Try.checked os 4 .any (Rows.tensNewsSpec.pre6 enc Try.prog Try.f4 Rows.tensNewsRow.domain false) (Rows.tensNewsSpec.post enc Try.prog Try.f4 false true false false) := by
  refine returnsInHanded_of_change_sized (C := Try.checked) own started (by kernel_rfl) Try.func4
    (ChangeSpec.witness6 (enc := enc) (C := Try.checked) false ⟨#[], #[.int .i64 0, .slice none 0 0], []⟩ 8 (by kernel_rfl) (by kernel_rfl) (by kernel_rfl) (by kernel_rfl)) ?_
  intro W base args ds gs before hval hW hcnd hsz _
  exact contract H enc W base args ds gs before hval hW hsz

theorem proved : Rows.TensNewsSaid :=
  OpenClaim.holds_of_wide 4 Try.f4 rfl rfl rfl rfl rfl rfl rfl ⟨rfl, rfl, rfl, rfl, rfl⟩ rfl rfl rfl rfl rfl (by kernel_rfl) Try.func4 (by kernel_rfl)
    (of_decide_eq_true (by kernel_rfl)) (by unfold Func.isWrapper; first | (rw [if_pos (by decide +kernel)]; kernel_rfl) | (rw [if_neg (by decide +kernel)]; exact ⟨rfl, rfl⟩))
    (fun os started H enc _ => lifted os started H enc)
#print axioms proved
end Go.Proofs.Ytbepkmehnghmcaa.tensNews
