/- For all fields (together at most 1048576 values) and every number: the lists of numbers and of fours of bytes are what the document says. -/
import Derived.Test.YtbcmfgohbppndaaRows
import Derived.WalkKit
import Derived.ProofKit
import Derived.OpenShut
import Derived.Below
import Derived.Carry
import Derived.JoinedCond
import Derived.Test.YtbcmfgohbppndaaLN
import Derived.Test.YtbcmfgohbppndaaKQ
namespace Go.Proofs.Ytbcmfgohbppndaa.pbufLists
open Go.ChangeShapes Go.WideShapes Go.ChangeAt Go.RowKit
set_option linter.unusedVariables false

theorem own : ownKnob Try.prog.godebug = none := by kernel_rfl
theorem laidOut : laidOutB Try.prog = true := by kernel_rfl

set_option maxRecDepth 100000 in
set_option maxHeartbeats 8000000 in
/-- The statement's call returns true, whatever came in. -/
theorem walk (p0 : Option Addr) (c0 : Nat) (L0 : List FA) (a1 : Int) (W : World) (s0 : Fls W p0 c0 L0) (u0 : sumD L0 + L0.length ≤ 1048576) (w1 : (Lit.int .i64 a1).wf = true) :
    Calls Try.prog 8 #[.slice p0 L0.length c0, .int .i64 a1] W fun e W' => e = .returned (.bool true) ∧ Below W.heap.size W W' := by
  have S0 := hide s0
  have PL := hide (fun w h => plain6_any p0 c0 L0 w h (by omega))
  have CI := hide (fun w h => cints6_any p0 c0 L0 a1 w h (by omega) (by omega))
  have RI := hide (fun q d w h => rints6_any q d L0 a1 w h (by omega) (by omega))
  have CF := hide (fun w h => cfixed6_any p0 c0 L0 a1 w h (by omega) (by omega))
  have RF := hide (fun q d w h => rfixed6_any q d L0 a1 w h (by omega) (by omega))
  generalize listV int1 (L0.map FA.f) a1 = R at CI RI
  generalize listV fix1 (L0.map FA.f) a1 = T at CF RF
  obtain ⟨R1, R2⟩ := R
  obtain ⟨T1, T2⟩ := T
  simp only at CI RI CF RF
  clear s0 w1
  go_enter Try.func8, Try.ntmps8
  go_wp2_with fail
  refine (awake6_any _).mono ?_
  rintro e w1 ⟨rfl, hb⟩
  have B := hide hb
  clear hb
  go_wp2_with fail
  refine (unhide PL _ ((unhide S0).below (unhide B))).mono ?_
  rintro e w2 ⟨v2, rfl, hO⟩
  obtain ⟨q2, d2, rfl, hl2, _⟩ := hO.form
  have F2 : Hid (Fls w2 q2 d2 L0) := hide ⟨hl2, fun a ha => ((unhide S0).below (bl_tr (unhide B) hO.2)).2 a ha⟩
  replace B := hide (bl_tr (unhide B) hO.2)
  clear hO hl2 PL
  go_wp2_with fail
  refine (unhide CI _ ((unhide S0).below (unhide B))).mono ?_
  rintro e w3 ⟨v3, rfl, hO⟩
  obtain ⟨q3, d3, rfl, hl3, _⟩ := hO.form
  have I3 := hide hl3
  replace F2 := hide ((unhide F2).below hO.2)
  replace B := hide (bl_tr (unhide B) hO.2)
  clear hO hl3 CI
  go_wp2_with fail
  refine (unhide RI _ _ _ (unhide F2)).mono ?_
  rintro e w4 ⟨⟨q4, d4, rfl, hI⟩, hb⟩
  have I4 := hide hI
  replace I3 := hide ((unhide I3).below hb)
  replace F2 := hide ((unhide F2).below hb)
  replace B := hide (bl_tr (unhide B) hb)
  clear hI hb RI
  go_wp2_with fail
  refine (unhide CF _ ((unhide S0).below (unhide B))).mono ?_
  rintro e w5 ⟨v5, rfl, hO⟩
  obtain ⟨q5, d5, rfl, hl5, _⟩ := hO.form
  have I5 := hide hl5
  replace I3 := hide ((unhide I3).below hO.2)
  replace I4 := hide ((unhide I4).below hO.2)
  replace F2 := hide ((unhide F2).below hO.2)
  replace B := hide (bl_tr (unhide B) hO.2)
  clear hO hl5 CF
  go_wp2_with fail
  refine (unhide RF _ _ _ (unhide F2)).mono ?_
  rintro e w6 ⟨⟨q6, d6, rfl, hI⟩, hb⟩
  have I6 := hide hI
  replace I3 := hide ((unhide I3).below hb)
  replace I4 := hide ((unhide I4).below hb)
  replace I5 := hide ((unhide I5).below hb)
  replace B := hide (bl_tr (unhide B) hb)
  clear hI hb RF F2 S0
  have n3 := (unhide I3).len
  have n5 := (unhide I5).len
  go_wp2_with fail
  go_loopw [15] (fun iv wr => ∃ n : Nat, iv = .int .i64 n ∧ n ≤ R1.length ∧ ∃ m, wr = w6.drewN m) (fun iv _ => R1.length - (intOf iv).toNat)
  case atStart => exact ⟨0, rfl, by omega, 0, rfl⟩
  case round =>
    obtain ⟨n, rfl, hn, m, rfl⟩ := hrel
    by_cases hlt : n < R1.length
    · have hi : (n : Int) < (R1.length : Int) := by omega
      obtain ⟨b, o, rfl, hb, hc⟩ := (unhide I3).lies (by omega)
      obtain ⟨b', o', rfl, hb', hc'⟩ := (unhide I4).lies (by omega)
      have k1 : w6.cell? ⟨b, o + n, none⟩ = some (.int .u64 (R1.getD n 0)) := hc n hlt
      have k2 : w6.cell? ⟨b', o' + n, none⟩ = some (.int .u64 (R1.getD n 0)) := hc' n hlt
      generalize R1.getD n 0 = x at k1 k2
      clear hc hc'
      go_wp2_with fail
      go_quiet (fail)
      go_wp2_with fail
      go_roundw
      case rel => exact ⟨n + 1, by go_num, by omega, _, rfl⟩
      case measure => simp [intOf]; omega
    · have hi : ¬ (n : Int) < (R1.length : Int) := by omega
      have B2 := hide (bw_drew (unhide B) m)
      generalize hU : w6.drewN m = U at *
      have J5 := hide ((unhide I5).below (w' := U) (by rw [← hU]; exact bw_drew (Below.refl _ _) _))
      have J6 := hide ((unhide I6).below (w' := U) (by rw [← hU]; exact bw_drew (Below.refl _ _) _))
      clear hU I3 I4 I5 I6
      go_wp2_with fail
      go_loopw [16] (fun iv wr => ∃ n : Nat, iv = .int .i64 n ∧ n ≤ T1.length ∧ ∃ m, wr = U.drewN m) (fun iv _ => T1.length - (intOf iv).toNat)
      case atStart => exact ⟨0, rfl, by omega, 0, rfl⟩
      case round =>
        obtain ⟨n, rfl, hn, m, rfl⟩ := hrel
        by_cases hlt : n < T1.length
        · have hi : (n : Int) < (T1.length : Int) := by omega
          obtain ⟨b, o, rfl, hb, hc⟩ := (unhide J5).lies (by omega)
          obtain ⟨b', o', rfl, hb', hc'⟩ := (unhide J6).lies (by omega)
          have k1 : U.cell? ⟨b, o + n, none⟩ = some (.int .u32 (T1.getD n 0)) := hc n hlt
          have k2 : U.cell? ⟨b', o' + n, none⟩ = some (.int .u32 (T1.getD n 0)) := hc' n hlt
          generalize T1.getD n 0 = x at k1 k2
          clear hc hc'
          go_wp2_with fail
          go_quiet (fail)
          go_wp2_with fail
          go_roundw
          case rel => exact ⟨n + 1, by go_num, by omega, _, rfl⟩
          case measure => simp [intOf]; omega
        · have hi : ¬ (n : Int) < (T1.length : Int) := by omega
          go_wp2_with fail
          go_ret
          exact ⟨rfl, bw_drew (unhide B2) m⟩

/-- A part's bulk is at most the whole's. -/
theorem bulk_part {H : Type} {d : DataW H} : ∀ {l : List (DataW H)}, d ∈ l → Rows.uptoBulk d ≤ Rows.uptoBulkAll l
  | [], h => by cases h
  | x :: r, h => by
    simp only [Rows.uptoBulkAll]
    rcases List.mem_cons.1 h with e | e
    · subst e; omega
    · have := bulk_part e; omega
theorem bulk_lits {H : Type} (k : IntKind) : ∀ l : List Int, l.length ≤ Rows.uptoBulkAll (H := H) (lits k l)
  | [] => by simp
  | x :: r => by
    have := bulk_lits (H := H) k r
    simp only [lits, List.map_cons, Rows.uptoBulkAll, Rows.uptoBulk, List.length_cons] at *
    omega
theorem bulk_cap {H : Type} {k : IntKind} {d : DataW H} {cap : Nat} {xs : List Int} (h : d = .nil ∧ cap = 0 ∨ ∃ sp : List Int, d = .slice (lits k xs) (lits k sp) ∧ xs.length + sp.length = cap) : cap ≤ Rows.uptoBulk d := by
  rcases h with ⟨rfl, rfl⟩ | ⟨sp, rfl, e⟩
  · omega
  · have h1 := bulk_lits (H := H) k xs
    have h2 := bulk_lits (H := H) k sp
    simp only [Rows.uptoBulk]
    omega

set_option maxRecDepth 100000 in
theorem contract (H : Type) (enc : TypeId × Value → H) (W : World) (base : Nat) (args : Array Value) (ds gs : List (DataW H)) (before : List MemPlace)
    (hval0 : ∀ (j : Nat) t v, Try.f8.params[j]? = some t → args[j]? = some v → Value.okWide Try.prog W .any base t v)
    (hW : DataW.Whole enc Try.prog Try.f8.params.toList Rows.pbufListsSpec.vars false W args.toList ds gs before) (hk : Rows.uptoSmall H (ds ++ gs) = true) :
    Calls Try.prog 8 args W fun e W' => ∃ v, e = .returned v ∧ Rows.pbufListsSpec.post enc Try.prog Try.f8 false true false false W args v W' := by
  have hval : ∀ (j : Nat) t v, Try.f8.params[j]? = some t → args[j]? = some v → Value.okWide Try.prog W .any base t v := hval0
  have hW' := hW
  obtain ⟨p, q, hA0, hV, rfl, hfz, hnd⟩ := hW
  have hA : DataW.TrodAll enc Try.prog W 0 (fun _ => true) true Try.f8.params.toList args.toList ds p := hA0
  rw [Try.params8] at hA hval
  obtain ⟨v0, vs0, d0, ds0, pl0, q0, hargs, rfl, rfl, h0, r0⟩ := trodAll_cons hA
  obtain ⟨v1, vs1, d1, ds1, pl1, q1, rfl, rfl, rfl, h1, r1⟩ := trodAll_cons r0
  obtain ⟨rfl, rfl, rfl⟩ := trodAll_nil r1
  obtain rfl : args = #[v0, v1] := by cases args; simp_all
  obtain ⟨rfl, rfl⟩ := trodVars_none hV
  have h0k := h0
  obtain ⟨p0, c0, L0, rfl, s0, hd0⟩ := flds_open (hval 0 32 v0 rfl rfl) h0
  have hlt0 : ∀ y ∈ pl0, y.block < W.heap.size := fun y hy => hW'.lt y (by simp [hy])
  have u0 : sumD L0 + L0.length ≤ 1048576 := by
    have h1 := bulk_flds s0 hd0
    have h2 : Rows.uptoBulkAll ([d0, d1] ++ []) ≤ 1048576 := of_decide_eq_true hk
    have h3 : Rows.uptoBulk d0 ≤ Rows.uptoBulkAll ([d0, d1] ++ []) := bulk_part (by simp)
    exact Nat.le_trans h1 (Nat.le_trans h3 h2)
  obtain ⟨a1, rfl, rfl, rfl, w1⟩ := open_int Try.underlying3 (hval 1 3 v1 rfl rfl) h1
  clear hA0 hval0
  simp only [List.append_nil] at hW'
  refine (walk p0 c0 L0 a1 W s0 u0 w1).mono fun e W' ⟨he, bel⟩ => ?_
  subst he
  exact ⟨_, rfl, _, _, _, [], _, [], hW', trodAll_mk1 (shut_bool Try.underlying4 _), (trodAll_cons_mk (Below.trod laidOut (by kernel_rfl) (of_decide_eq_true (by kernel_rfl)) h0k bel hlt0) (trodAll_cons_mk (shut_int Try.underlying3 w1) trodAll_mk0)), rfl, bel.frame _, fun h => by cases h⟩

set_option maxRecDepth 100000 in
theorem lifted (os : Os) (started : os.Started) (H : Type) (enc : TypeId × Value → H) (F : Stop.Interp) :
    ReturnsInHanded {} Try.checked os 8 .any ((Rows.OpenSpec.upto Rows.pbufListsSpec).pre6 enc Try.prog Try.f8 Rows.pbufListsUptoRow.domain false) (((Rows.OpenSpec.upto Rows.pbufListsSpec).at F).post enc Try.prog Try.f8 false true false false) := by
  refine returnsInHanded_of_cond (C := Try.checked) (s := Rows.OpenSpec.upto Rows.pbufListsSpec) (k := Rows.uptoSmall) rfl own started (by kernel_rfl) Try.func8
    (OpenSpec.witness (enc := enc) (C := Try.checked) (s := Rows.OpenSpec.upto Rows.pbufListsSpec) (k := Rows.uptoSmall) rfl false ⟨#[], #[.slice none 0 0, .int .i64 0], []⟩ 8 (by kernel_rfl) (by kernel_rfl) (by kernel_rfl)
      (x := ([.nil, .lit (.int .i64 0)], [], [])) (by kernel_rfl) rfl (by kernel_rfl)) ?_
  intro W base args ds gs before hval hW _ hk _
  exact contract H enc W base args ds gs before hval hW hk

theorem proved : Rows.PbufListsUptoSaid :=
  OpenClaim.holds_of_cond 8 Try.f8 rfl rfl rfl rfl rfl rfl rfl ⟨rfl, rfl, rfl, rfl, rfl⟩ rfl rfl rfl rfl rfl (by kernel_rfl) Try.func8 (by kernel_rfl)
    (of_decide_eq_true (by kernel_rfl)) (by unfold Func.isWrapper; first | (rw [if_pos (by decide +kernel)]; kernel_rfl) | (rw [if_neg (by decide +kernel)]; exact ⟨rfl, rfl⟩))
    (fun os started H enc _ F => lifted os started H enc F)
#print axioms proved
end Go.Proofs.Ytbcmfgohbppndaa.pbufLists
