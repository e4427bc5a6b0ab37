/- For all tensors: one that may be comes back whole from its bytes, bit for bit, and of one that may not be there are none; no condition. -/
import Derived.Test.YtbepkmehnghmcaaRows
import Derived.WalkKit
import Derived.ProofKit
import Derived.OpenShut
import Derived.Below
import Derived.Carry
import Derived.Test.YtbepkmehnghmcaaIW
import Derived.Test.YtbepkmehnghmcaaIP
import Derived.Test.YtbepkmehnghmcaaIR
namespace Go.Proofs.Ytbepkmehnghmcaa.tensBack
open Go.ChangeShapes Go.WideShapes Go.ChangeAt Go.RowKit
set_option linter.unusedVariables false

theorem own : ownKnob Try.prog.godebug = none := by kernel_rfl
theorem laidOut : laidOutB Try.prog = true := by kernel_rfl

set_option maxRecDepth 100000 in
set_option maxHeartbeats 8000000 in
/-- The statement's call returns true, whatever came in. -/
theorem walk (T0 : Ten) (A0 : TA) (W : World) (s0 : TenIn W T0 A0) :
    Calls Try.prog 7 #[tenV T0 A0] W fun e W' => e = .returned (.bool true) ∧ Below W.heap.size W W' := by
  obtain ⟨ty, ds, fs, is, bs⟩ := T0
  obtain ⟨pd, cd, pf, cf, pi, ci, pb, cb⟩ := A0
  have S0 := hide s0
  have hty := s0.1
  simp only at hty
  have TB := hide (fun w h => tbytes_any (ty, ds, fs, is, bs) ⟨pd, cd, pf, cf, pi, ci, pb, cb⟩ w h)
  by_cases hc : checkV (ty, ds, fs, is, bs) = 0
  · obtain ⟨f1, f2, f3⟩ := from_back (ty, ds, fs, is, bs) hc s0.2.2.1.2.2.1 s0.2.2.2.1.2.2.1
    simp only at f1 f2 f3
    obtain ⟨k1, k2⟩ := check_known hc
    simp only at k1 k2
    have TF := hide (fun w p q c h2 h3 => tfromb_any ty p q cd c ds (bytesV (ty, ds, fs, is, bs)) w hty h2 h3)
    have SZ := hide (fun w h => rsize_any pd cd ds w h)
    have TW := hide (fun w => twidth_any ty w)
    rw [f1, f2] at TF
    rw [k2] at SZ
    rw [hc] at TB
    obtain ⟨L, hL⟩ : ∃ L, bytesV (ty, ds, fs, is, bs) = L := ⟨_, rfl⟩
    obtain ⟨N, hN⟩ : ∃ N, (sizeV ds).1 = N := ⟨_, rfl⟩
    obtain ⟨D, hD⟩ : ∃ D, widthV ty = D := ⟨_, rfl⟩
    rw [hL] at TF TB
    rw [hN] at SZ
    rw [hD] at TW
    rw [hL, hN, hD] at f3
    have F3 := hide f3
    have hnb : 0 ≤ N ∧ N ≤ 4096 ∧ 0 ≤ D ∧ D ≤ 8 := by
      obtain ⟨n, g1, g2⟩ := size_nat ds
      have : 0 ≤ widthV ty ∧ widthV ty ≤ 8 := by unfold widthV; (repeat' split) <;> omega
      omega
    obtain ⟨n0, n1, n2, n3⟩ := hnb
    unfold tenV tenCells at TB TF ⊢
    simp only at TB TF ⊢
    clear s0 hL hN hD f1 f2 f3 k1 k2 hc
    go_enter Try.func7, Try.ntmps7
    go_wp2_with fail
    refine (awake5_any _).mono ?_
    rintro e w1 ⟨rfl, hb⟩
    have X0 := hide (Box.below (Box.new W #[.int .i64 ty, .slice pd ds.length cd, .slice pf fs.length cf, .slice pi is.length ci, .slice pb bs.length cb] 27) hb)
    have B := hide (bl_tr (al1 _ _) hb)
    have x0 := (unhide X0).cell
    clear hb
    go_wp2_with fail
    refine (unhide TB _ ((unhide S0).below (unhide B))).mono ?_
    rintro e w2 ⟨⟨q1, k1, rfl, hI⟩, hb⟩
    have I1 := hide hI
    replace X0 := hide ((unhide X0).below hb)
    replace B := hide (bl_tr (unhide B) hb)
    clear hb hI TB x0
    have x0 := (unhide X0).cell
    go_wp2_with fail
    refine (unhide TF _ _ _ _ ((unhide S0).2.1.below (unhide B)) (unhide I1)).mono ?_
    rintro e w3 ⟨⟨C, rfl, hO⟩, hb⟩
    obtain ⟨qd, ed, qf, ef, qi, ei, qb, eb⟩ := C
    have H1 := hide hO.1
    replace X0 := hide ((unhide X0).below hb)
    replace B := hide (bl_tr (unhide B) hb)
    clear hb hO TF x0 I1
    have x0 := (unhide X0).cell
    have z0 := (unhide X0).lt
    simp only
    go_wp2_with fail
    refine (unhide SZ _ ((unhide S0).2.1.below (bl_tr (unhide B) (al1 _ _)))).mono ?_
    rintro e w4 ⟨rfl, rfl⟩
    have SM := hide (fun w h k => tsame_any (ty, ds, fs, is, bs) (ty, ds, fs, is, bs) ⟨pd, cd, pf, cf, pi, ci, pb, cb⟩ ⟨qd, ed, qf, ef, qi, ei, qb, eb⟩ w h k)
    rw [decide_eq_true rfl] at SM
    unfold tenV tenCells at SM
    simp only at SM
    clear SZ
    go_wp2_with fail
    refine (unhide SM _ ((unhide S0).below (bl_tr (unhide B) (al1 _ _))) ((unhide H1).below (al1 _ _))).mono ?_
    rintro e w5 ⟨rfl, hb⟩
    replace X0 := hide (((unhide X0).alloc _).below hb)
    have bb := bl_tr (al1 _ _) hb
    replace B := hide (bl_tr (unhide B) bb)
    clear hb bb SM H1 x0 z0
    have x0 := (unhide X0).cell
    go_wp2_with fail
    refine (unhide TW _).mono ?_
    rintro e w6 ⟨rfl, rfl⟩
    have hm : 0 ≤ N * D ∧ N * D ≤ 4096 * 8 := ⟨Int.mul_nonneg n0 n2, Int.mul_le_mul n1 n3 n2 (by omega)⟩
    obtain ⟨M, hM⟩ : ∃ M, N * D = M := ⟨_, rfl⟩
    rw [hM] at hm
    obtain ⟨m0, m1⟩ := hm
    have hLM : (L.length : Int) = M := by rw [unhide F3, hM]
    have hLb : ((L.length : Int) == M) = true := by simp [hLM]
    clear F3 hLM TW
    go_wp2_with fail
    go_ret
    exact ⟨rfl, unhide B⟩
  · have TC := hide (fun w h => tcheck_any (ty, ds, fs, is, bs) ⟨pd, cd, pf, cf, pi, ci, pb, cb⟩ w h)
    have hb0 : bytesV (ty, ds, fs, is, bs) = [] := by unfold bytesV; rw [if_neg hc]
    rw [hb0] at TB
    obtain ⟨E, hE⟩ : ∃ E, checkV (ty, ds, fs, is, bs) = E := ⟨_, rfl⟩
    rw [hE] at TB TC hc
    have hen : (E != 0) = true := bneT hc
    unfold tenV tenCells at TB TC ⊢
    simp only at TB TC ⊢
    clear s0 hE hc hb0 hty
    go_enter Try.func7, Try.ntmps7
    go_wp2_with fail
    refine (awake5_any _).mono ?_
    rintro e w1 ⟨rfl, hb⟩
    have X0 := hide (Box.below (Box.new W #[.int .i64 ty, .slice pd ds.length cd, .slice pf fs.length cf, .slice pi is.length ci, .slice pb bs.length cb] 27) hb)
    have B := hide (bl_tr (al1 _ _) hb)
    have x0 := (unhide X0).cell
    clear hb
    go_wp2_with fail
    refine (unhide TB _ ((unhide S0).below (unhide B))).mono ?_
    rintro e w2 ⟨⟨q1, k1, rfl, _⟩, hb⟩
    replace X0 := hide ((unhide X0).below hb)
    replace B := hide (bl_tr (unhide B) hb)
    clear hb TB x0
    have x0 := (unhide X0).cell
    go_wp2_with fail
    refine (unhide TC _ ((unhide S0).below (unhide B))).mono ?_
    rintro e w3 ⟨rfl, hb⟩
    replace B := hide (bl_tr (unhide B) hb)
    clear hb TC x0
    go_wp2_with fail
    go_ret
    exact ⟨rfl, unhide B⟩

set_option maxRecDepth 100000 in
theorem contract (H : Type) (enc : TypeId × Value → H) (W : World) (base : Nat) (args : Array Value) (ds gs : List (DataW H)) (before : List MemPlace)
    (hval0 : ∀ (j : Nat) t v, Try.f7.params[j]? = some t → args[j]? = some v → Value.okWide Try.prog W .any base t v)
    (hW : DataW.Whole enc Try.prog Try.f7.params.toList Rows.tensBackSpec.vars false W args.toList ds gs before) :
    Calls Try.prog 7 args W fun e W' => ∃ v, e = .returned v ∧ Rows.tensBackSpec.post enc Try.prog Try.f7 false true false false W args v W' := by
  have hval : ∀ (j : Nat) t v, Try.f7.params[j]? = some t → args[j]? = some v → Value.okWide Try.prog W .any base t v := hval0
  have hW' := hW
  obtain ⟨p, q, hA0, hV, rfl, hfz, hnd⟩ := hW
  have hA : DataW.TrodAll enc Try.prog W 0 (fun _ => true) true Try.f7.params.toList args.toList ds p := hA0
  rw [Try.params7] at hA hval
  obtain ⟨v0, vs0, d0, ds0, pl0, q0, hargs, rfl, rfl, h0, r0⟩ := trodAll_cons hA
  obtain ⟨rfl, rfl, rfl⟩ := trodAll_nil r0
  obtain rfl : args = #[v0] := by cases args; simp_all
  obtain ⟨rfl, rfl⟩ := trodVars_none hV
  have h0k := h0
  obtain ⟨T0, A0, rfl, s0, g0⟩ := ten_open (hval 0 27 v0 rfl rfl) h0
  have hlt0 : ∀ y ∈ pl0, y.block < W.heap.size := fun y hy => hW'.lt y (by simp [hy])
  clear hA0 hval0
  simp only [List.append_nil] at hW'
  refine (walk T0 A0 W s0).mono fun e W' ⟨he, bel⟩ => ?_
  subst he
  exact ⟨_, rfl, _, _, _, [], _, [], hW', trodAll_mk1 (shut_bool Try.underlying4 _), (trodAll_cons_mk (Below.trod laidOut (by kernel_rfl) (of_decide_eq_true (by kernel_rfl)) h0k bel hlt0) trodAll_mk0), rfl, bel.frame _, fun h => by cases h⟩

set_option maxRecDepth 100000 in
theorem lifted (os : Os) (started : os.Started) (H : Type) (enc : TypeId × Value → H) :
    ReturnsInHanded {} Try.checked os 7 .any (Rows.tensBackSpec.pre6 enc Try.prog Try.f7 Rows.tensBackRow.domain false) (Rows.tensBackSpec.post enc Try.prog Try.f7 false true false false) := by
  refine returnsInHanded_of_change (C := Try.checked) own started (by kernel_rfl) Try.func7
    (ChangeSpec.witness6 (enc := enc) (C := Try.checked) false ⟨#[], #[.agg #[.int .i64 0, .slice none 0 0, .slice none 0 0, .slice none 0 0, .slice none 0 0]], []⟩ 8 (by kernel_rfl) (by kernel_rfl) (by kernel_rfl) (by kernel_rfl)) ?_
  intro W base args ds gs before hval hW hcnd _
  exact contract H enc W base args ds gs before hval hW

theorem proved : Rows.TensBackSaid :=
  OpenClaim.holds_of_wide 7 Try.f7 rfl rfl rfl rfl rfl rfl rfl ⟨rfl, rfl, rfl, rfl, rfl⟩ rfl rfl rfl rfl rfl (by kernel_rfl) Try.func7 (by kernel_rfl)
    (of_decide_eq_true (by kernel_rfl)) (by unfold Func.isWrapper; first | (rw [if_pos (by decide +kernel)]; kernel_rfl) | (rw [if_neg (by decide +kernel)]; exact ⟨rfl, rfl⟩))
    (fun os started H enc _ => lifted os started H enc)
#print axioms proved
end Go.Proofs.Ytbepkmehnghmcaa.tensBack
