/- For all tensors, kinds, dims and bytes: a tensor's bytes, and the tensor of any bytes, are what the document says; no condition. -/
import Derived.Test.YtbepkmehnghmcaaRows
import Derived.WalkKit
import Derived.ProofKit
import Derived.OpenShut
import Derived.Below
import Derived.Carry
import Derived.Test.YtbepkmehnghmcaaIW
import Derived.Test.YtbepkmehnghmcaaIP
namespace Go.Proofs.Ytbepkmehnghmcaa.tensBytes
open Go.ChangeShapes Go.WideShapes Go.ChangeAt Go.RowKit
set_option linter.unusedVariables false

theorem own : ownKnob Try.prog.godebug = none := by kernel_rfl
theorem laidOut : laidOutB Try.prog = true := by kernel_rfl

set_option maxRecDepth 100000 in
set_option maxHeartbeats 8000000 in
/-- The statement's call returns true, whatever came in. -/
theorem walk (T0 : Ten) (A0 : TA) (a1 : Int) (p2 : Option Addr) (c2 : Nat) (x2 : List Int) (p3 : Option Addr) (c3 : Nat) (x3 : List Int) (W : World) (s0 : TenIn W T0 A0) (w1 : (Lit.int .i64 a1).wf = true) (s2 : Ints .i64 W p2 c2 x2) (s3 : Ints .u8 W p3 c3 x3) :
    Calls Try.prog 6 #[tenV T0 A0, .int .i64 a1, .slice p2 x2.length c2, .slice p3 x3.length c3] W fun e W' => e = .returned (.bool true) ∧ Below W.heap.size W W' := by
  obtain ⟨ty, ds, fs, is, bs⟩ := T0
  obtain ⟨pd, cd, pf, cf, pi, ci, pb, cb⟩ := A0
  have S0 := hide s0
  have S2 := hide s2
  have S3 := hide s3
  have TB := hide (fun w h => tbytes_any (ty, ds, fs, is, bs) ⟨pd, cd, pf, cf, pi, ci, pb, cb⟩ w h)
  have RB := hide (fun w h => rbytes_any (ty, ds, fs, is, bs) ⟨pd, cd, pf, cf, pi, ci, pb, cb⟩ w h)
  have TF := hide (fun w h2 h3 => tfromb_any a1 p2 p3 c2 c3 x2 x3 w w1 h2 h3)
  have RF := hide (fun w h2 h3 => rfromb_any a1 p2 p3 c2 c3 x2 x3 w w1 h2 h3)
  obtain ⟨E, hE⟩ : ∃ E, checkV (ty, ds, fs, is, bs) = E := ⟨_, rfl⟩
  obtain ⟨L, hL⟩ : ∃ L, bytesV (ty, ds, fs, is, bs) = L := ⟨_, rfl⟩
  obtain ⟨F, hF⟩ : ∃ F, fromE a1 x2 x3 = F := ⟨_, rfl⟩
  obtain ⟨V, hV⟩ : ∃ V, fromV a1 x2 x3 = V := ⟨_, rfl⟩
  rw [hE, hL] at TB RB
  rw [hF, hV] at TF RF
  obtain ⟨vy, vd, vf, vi, vb⟩ := V
  unfold tenV tenCells at TB RB TF RF ⊢
  simp only at TB RB TF RF ⊢
  clear s0 s2 s3 hE hV hF hL w1
  go_enter Try.func6, Try.ntmps6
  go_wp2_with fail
  refine (awake5_any _).mono ?_
  rintro e w1 ⟨rfl, hb⟩
  have X0 := hide (Box.below (Box.new W #[.int .i64 ty, .slice pd ds.length cd, .slice pf fs.length cf, .slice pi is.length ci, .slice pb bs.length cb] 27) hb)
  have B := hide (bl_tr (al1 _ _) hb)
  have x0 := (unhide X0).cell
  clear hb
  go_wp2_with fail
  refine (unhide TB _ ((unhide S0).below (unhide B))).mono ?_
  rintro e w2 ⟨⟨q1, k1, rfl, hI⟩, hb⟩
  have I1 := hide hI
  have l1 := hI.len
  replace X0 := hide ((unhide X0).below hb)
  replace B := hide (bl_tr (unhide B) hb)
  clear hb hI TB x0
  have x0 := (unhide X0).cell
  go_wp2_with fail
  refine (unhide RB _ ((unhide S0).below (unhide B))).mono ?_
  rintro e w3 ⟨⟨q2, k2, rfl, hI⟩, hb⟩
  have I2 := hide hI
  replace I1 := hide ((unhide I1).below hb)
  replace B := hide (bl_tr (unhide B) hb)
  clear hb hI RB x0 X0
  go_wp2_with fail
  refine (unhide TF _ ((unhide S2).below (unhide B)) ((unhide S3).below (unhide B))).mono ?_
  rintro e w4 ⟨⟨C, rfl, hO⟩, hb⟩
  obtain ⟨qd, ed, qf, ef, qi, ei, qb, eb⟩ := C
  have H1 := hide hO.1
  replace I1 := hide ((unhide I1).below hb)
  replace I2 := hide ((unhide I2).below hb)
  replace B := hide (bl_tr (unhide B) hb)
  clear hb hO TF
  simp only
  go_wp2_with fail
  refine (unhide RF _ ((unhide S2).below (bl_tr (unhide B) (al1 _ _))) ((unhide S3).below (bl_tr (unhide B) (al1 _ _)))).mono ?_
  rintro e w5 ⟨⟨C, rfl, hO⟩, hb⟩
  obtain ⟨rd, d1, rf, d2, ri, d3, rb, d4⟩ := C
  have bb := bl_tr (al1 _ _) hb
  have XU := hide (Box.below (Box.new w4 #[.int .i64 vy, .slice qd vd.length ed, .slice qf vf.length ef, .slice qi vi.length ei, .slice qb vb.length eb] 27) hb)
  have H2 := hide hO.1
  replace H1 := hide ((unhide H1).below bb)
  replace I1 := hide ((unhide I1).below bb)
  replace I2 := hide ((unhide I2).below bb)
  replace B := hide (bl_tr (unhide B) bb)
  have xu := (unhide XU).cell
  have zu := (unhide XU).lt
  clear hb bb hO RF
  simp only
  have SM := hide (fun w h k => rten_same (vy, vd, vf, vi, vb) (vy, vd, vf, vi, vb) ⟨qd, ed, qf, ef, qi, ei, qb, eb⟩ ⟨rd, d1, rf, d2, ri, d3, rb, d4⟩ w h k)
  rw [decide_eq_true rfl] at SM
  unfold tenV tenCells at SM
  simp only at SM
  go_wp2_with fail
  refine (unhide SM _ ((unhide H1).below (al1 _ _)) ((unhide H2).below (al1 _ _))).mono ?_
  rintro e w6 ⟨rfl, hb⟩
  have bb := bl_tr (al1 _ _) hb
  replace I1 := hide ((unhide I1).below bb)
  replace I2 := hide ((unhide I2).below bb)
  replace B := hide (bl_tr (unhide B) bb)
  clear hb bb SM H1 H2 XU xu zu
  go_wp2_with fail
  go_loopw [18] (fun iv wr => ∃ n : Nat, iv = .int .i64 n ∧ n ≤ L.length ∧ ∃ m, wr = w6.drewN m) (fun iv _ => L.length - (intOf iv).toNat)
  case atStart => exact ⟨0, rfl, by omega, 0, rfl⟩
  case round =>
    obtain ⟨n, rfl, hn, m, rfl⟩ := hrel
    by_cases hlt : n < L.length
    · have hi : (n : Int) < (L.length : Int) := by omega
      obtain ⟨b, o, rfl, hb, hc⟩ := (unhide I1).lies (by omega)
      obtain ⟨b', o', rfl, hb', hc'⟩ := (unhide I2).lies (by omega)
      have k1 := hc n hlt
      have k2 := hc' n hlt
      clear hc hc'
      generalize L.getD n 0 = x at k1 k2
      go_wp2_with fail
      go_quiet (fail)
      go_wp2_with fail
      go_roundw
      case rel => exact ⟨n + 1, by go_num, by omega, _, rfl⟩
      case measure => simp [intOf]; omega
    · have hi : ¬ (n : Int) < (L.length : Int) := by omega
      go_wp2_with fail
      go_ret
      exact ⟨rfl, bw_drew (unhide B) _⟩

set_option maxRecDepth 100000 in
theorem contract (H : Type) (enc : TypeId × Value → H) (W : World) (base : Nat) (args : Array Value) (ds gs : List (DataW H)) (before : List MemPlace)
    (hval0 : ∀ (j : Nat) t v, Try.f6.params[j]? = some t → args[j]? = some v → Value.okWide Try.prog W .any base t v)
    (hW : DataW.Whole enc Try.prog Try.f6.params.toList Rows.tensBytesSpec.vars false W args.toList ds gs before) :
    Calls Try.prog 6 args W fun e W' => ∃ v, e = .returned v ∧ Rows.tensBytesSpec.post enc Try.prog Try.f6 false true false false W args v W' := by
  have hval : ∀ (j : Nat) t v, Try.f6.params[j]? = some t → args[j]? = some v → Value.okWide Try.prog W .any base t v := hval0
  have hW' := hW
  obtain ⟨p, q, hA0, hV, rfl, hfz, hnd⟩ := hW
  have hA : DataW.TrodAll enc Try.prog W 0 (fun _ => true) true Try.f6.params.toList args.toList ds p := hA0
  rw [Try.params6] at hA hval
  obtain ⟨v0, vs0, d0, ds0, pl0, q0, hargs, rfl, rfl, h0, r0⟩ := trodAll_cons hA
  obtain ⟨v1, vs1, d1, ds1, pl1, q1, rfl, rfl, rfl, h1, r1⟩ := trodAll_cons r0
  obtain ⟨v2, vs2, d2, ds2, pl2, q2, rfl, rfl, rfl, h2, r2⟩ := trodAll_cons r1
  obtain ⟨v3, vs3, d3, ds3, pl3, q3, rfl, rfl, rfl, h3, r3⟩ := trodAll_cons r2
  obtain ⟨rfl, rfl, rfl⟩ := trodAll_nil r3
  obtain rfl : args = #[v0, v1, v2, v3] := by cases args; simp_all
  obtain ⟨rfl, rfl⟩ := trodVars_none hV
  have h0k := h0
  obtain ⟨T0, A0, rfl, s0, g0⟩ := ten_open (hval 0 27 v0 rfl rfl) h0
  have hlt0 : ∀ y ∈ pl0, y.block < W.heap.size := fun y hy => hW'.lt y (by simp [hy])
  have h2k := h2
  obtain ⟨p2, c2, x2, rfl, s2, hd2⟩ := ints_open Try.underlying22 Try.underlying3 (by kernel_rfl) (hval 2 22 v2 rfl rfl) h2
  have hlt2 : ∀ y ∈ pl2, y.block < W.heap.size := fun y hy => hW'.lt y (by simp [hy])
  have h3k := h3
  obtain ⟨p3, c3, x3, rfl, s3, hd3⟩ := ints_open Try.underlying43 Try.underlying5 (by kernel_rfl) (hval 3 43 v3 rfl rfl) h3
  have hlt3 : ∀ y ∈ pl3, y.block < W.heap.size := fun y hy => hW'.lt y (by simp [hy])
  obtain ⟨a1, rfl, rfl, rfl, w1⟩ := open_int Try.underlying3 (hval 1 3 v1 rfl rfl) h1
  clear hA0 hval0
  simp only [List.append_nil] at hW'
  refine (walk T0 A0 a1 p2 c2 x2 p3 c3 x3 W s0 w1 s2 s3).mono fun e W' ⟨he, bel⟩ => ?_
  subst he
  exact ⟨_, rfl, _, _, _, [], _, [], hW', trodAll_mk1 (shut_bool Try.underlying4 _), (trodAll_cons_mk (Below.trod laidOut (by kernel_rfl) (of_decide_eq_true (by kernel_rfl)) h0k bel hlt0) (trodAll_cons_mk (shut_int Try.underlying3 w1) (trodAll_cons_mk (Below.trod laidOut (by kernel_rfl) (of_decide_eq_true (by kernel_rfl)) h2k bel hlt2) (trodAll_cons_mk (Below.trod laidOut (by kernel_rfl) (of_decide_eq_true (by kernel_rfl)) h3k bel hlt3) trodAll_mk0)))), rfl, bel.frame _, fun h => by cases h⟩

set_option maxRecDepth 100000 in
theorem lifted (os : Os) (started : os.Started) (H : Type) (enc : TypeId × Value → H) :
    ReturnsInHanded {} Try.checked os 6 .any (Rows.tensBytesSpec.pre6 enc Try.prog Try.f6 Rows.tensBytesRow.domain false) (Rows.tensBytesSpec.post enc Try.prog Try.f6 false true false false) := by
  refine returnsInHanded_of_change (C := Try.checked) own started (by kernel_rfl) Try.func6
    (ChangeSpec.witness6 (enc := enc) (C := Try.checked) false ⟨#[], #[.agg #[.int .i64 0, .slice none 0 0, .slice none 0 0, .slice none 0 0, .slice none 0 0], .int .i64 0, .slice none 0 0, .slice none 0 0], []⟩ 8 (by kernel_rfl) (by kernel_rfl) (by kernel_rfl) (by kernel_rfl)) ?_
  intro W base args ds gs before hval hW hcnd _
  exact contract H enc W base args ds gs before hval hW

theorem proved : Rows.TensBytesSaid :=
  OpenClaim.holds_of_wide 6 Try.f6 rfl rfl rfl rfl rfl rfl rfl ⟨rfl, rfl, rfl, rfl, rfl⟩ rfl rfl rfl rfl rfl (by kernel_rfl) Try.func6 (by kernel_rfl)
    (of_decide_eq_true (by kernel_rfl)) (by unfold Func.isWrapper; first | (rw [if_pos (by decide +kernel)]; kernel_rfl) | (rw [if_neg (by decide +kernel)]; exact ⟨rfl, rfl⟩))
    (fun os started H enc _ => lifted os started H enc)
#print axioms proved
end Go.Proofs.Ytbepkmehnghmcaa.tensBytes
