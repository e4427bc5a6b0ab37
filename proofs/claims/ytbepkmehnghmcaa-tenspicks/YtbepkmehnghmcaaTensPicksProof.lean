/- For all tensors, dims and places: elements are picked as the document says, places out of range refused, the elements of a list of whole numbers likewise, and what is handed in stays; no condition. -/
import Derived.Test.YtbepkmehnghmcaaRows
import Derived.WalkKit
import Derived.ProofKit
import Derived.OpenShut
import Derived.Below
import Derived.Carry
import Derived.SizedLaws
import Derived.Test.YtbepkmehnghmcaaIW
import Derived.Test.YtbepkmehnghmcaaIP
namespace Go.Proofs.Ytbepkmehnghmcaa.tensPicks
open Go.ChangeShapes Go.WideShapes Go.ChangeAt Go.RowKit
set_option linter.unusedVariables false

theorem own : ownKnob Try.prog.godebug = none := by kernel_rfl
theorem laidOut : laidOutB Try.prog = true := by kernel_rfl

theorem small_of {T : Ten} {A : TA} {W : World} (s : TenIn W T A) (u : A.cd * 8 ≤ 140737488351232 ∧ A.cf * 4 ≤ 140737488351232 ∧ A.ci * 8 ≤ 140737488351232 ∧ A.cb * 1 ≤ 140737488351232) : okLen T := by
  obtain ⟨u1, u2, u3, u4⟩ := u
  have h1 := s.2.1.1; have h2 := s.2.2.1.1; have h3 := s.2.2.2.1.1; have h4 := s.2.2.2.2.1
  unfold okLen
  omega
set_option maxRecDepth 100000 in
set_option maxHeartbeats 8000000 in
/-- The statement's call returns true, whatever came in. -/
theorem walk (T0 : Ten) (A0 : TA) (p1 : Option Addr) (c1 : Nat) (x1 : List Int) (p2 : Option Addr) (c2 : Nat) (x2 : List Int) (W : World) (s0 : TenIn W T0 A0) (u0 : A0.cd * 8 ≤ 140737488351232 ∧ A0.cf * 4 ≤ 140737488351232 ∧ A0.ci * 8 ≤ 140737488351232 ∧ A0.cb * 1 ≤ 140737488351232) (s1 : Ints .i64 W p1 c1 x1) (u1 : c1 * 8 ≤ 140737488351232) (s2 : Ints .i64 W p2 c2 x2) (u2 : c2 * 8 ≤ 140737488351232) :
    Calls Try.prog 5 #[tenV T0 A0, .slice p1 x1.length c1, .slice p2 x2.length c2] W fun e W' => e = .returned (.bool true) ∧ Below W.heap.size W W' := by
  have ok := small_of s0 u0
  obtain ⟨ty, ds, fs, is, bs⟩ := T0
  obtain ⟨pd, cd, pf, cf, pi, ci, pb, cb⟩ := A0
  have S0 := hide s0
  have S1 := hide s1
  have S2 := hide s2
  have CP := hide (fun w h => rcopy_any (ty, ds, fs, is, bs) ⟨pd, cd, pf, cf, pi, ci, pb, cb⟩ w h ok)
  have PK := hide (fun w h h2 h3 => tpick_any (ty, ds, fs, is, bs) ⟨pd, cd, pf, cf, pi, ci, pb, cb⟩ p1 p2 c1 c2 x1 x2 w h h2 h3)
  have RP := hide (fun w A h h2 h3 => rpick_any (ty, ds, fs, is, bs) A p1 p2 c1 c2 x1 x2 w h h2 h3)
  have IN := hide (fun w h => tints_any (ty, ds, fs, is, bs) ⟨pd, cd, pf, cf, pi, ci, pb, cb⟩ w h)
  have RI := hide (fun w A h => rints_any (ty, ds, fs, is, bs) A w h)
  obtain ⟨E, hE⟩ : ∃ E, pickE (ty, ds, fs, is, bs) x1 x2 = E := ⟨_, rfl⟩
  obtain ⟨V, hV⟩ : ∃ V, pickV (ty, ds, fs, is, bs) x1 x2 = V := ⟨_, rfl⟩
  obtain ⟨F, hF⟩ : ∃ F, intsE (ty, ds, fs, is, bs) = F := ⟨_, rfl⟩
  obtain ⟨L, hL⟩ : ∃ L, intsV (ty, ds, fs, is, bs) = L := ⟨_, rfl⟩
  rw [hE, hV] at PK RP
  rw [hF, hL] at IN RI
  obtain ⟨vy, vd, vf, vi, vb⟩ := V
  unfold tenV tenCells at CP PK RP IN RI ⊢
  simp only at CP PK RP IN RI ⊢
  clear s0 s1 s2 u0 u1 u2 hE hV hF hL ok
  go_enter Try.func5, Try.ntmps5
  go_wp2_with fail
  refine (awake5_any _).mono ?_
  rintro e w1 ⟨rfl, hb⟩
  have X0 := hide (Box.below (Box.new W #[.int .i64 ty, .slice pd ds.length cd, .slice pf fs.length cf, .slice pi is.length ci, .slice pb bs.length cb] 27) hb)
  have B := hide (bl_tr (al1 _ _) hb)
  have x0 := (unhide X0).cell
  have z0 := (unhide X0).lt
  clear hb
  go_wp2_with fail
  refine (unhide CP _ ((unhide S0).below (unhide B))).mono ?_
  rintro e w2 ⟨⟨C, rfl, hO⟩, hb⟩
  obtain ⟨qd, ed, qf, ef, qi, ei, qb, eb⟩ := C
  have HB := hide hO.1
  have HB2 := hide hO.1
  replace X0 := hide ((unhide X0).below hb)
  replace B := hide (bl_tr (unhide B) hb)
  have B2 := B
  clear hb hO CP x0 z0
  have x0 := (unhide X0).cell
  have z0 := (unhide X0).lt
  simp only
  go_wp2_with fail
  refine (unhide PK _ ((unhide S0).below (bl_tr (unhide B) (al1 _ _))) ((unhide S1).below (bl_tr (unhide B) (al1 _ _))) ((unhide S2).below (bl_tr (unhide B) (al1 _ _)))).mono ?_
  rintro e w3 ⟨⟨C, rfl, hO⟩, hb⟩
  obtain ⟨rd, d1, rf, d2, ri, d3, rb, d4⟩ := C
  have XB := hide (Box.below (Box.new w2 #[.int .i64 ty, .slice qd ds.length ed, .slice qf fs.length ef, .slice qi is.length ei, .slice qb bs.length eb] 27) hb)
  have bb := bl_tr (al1 _ _) hb
  have O := hide hO
  simp only [alloc_size] at O
  have zp : w2.heap.size + 1 ≤ w3.heap.size := by have := hb.size; rw [alloc_size] at this; exact this
  replace HB := hide ((unhide HB).below bb)
  replace X0 := hide ((unhide X0).below bb)
  replace B := hide (bl_tr (unhide B) bb)
  have B3 := B
  have BP2 := hide bb
  have XB3 := XB
  have X03 := X0
  clear hb bb hO PK x0 z0
  have xb := (unhide XB).cell
  have zb := (unhide XB).lt
  have x0 := (unhide X0).cell
  have z0 := (unhide X0).lt
  simp only
  go_wp2_with fail
  refine (unhide RP _ ⟨qd, ed, qf, ef, qi, ei, qb, eb⟩ ((unhide HB).below (al1 _ _)) ((unhide S1).below (bl_tr (unhide B) (al1 _ _))) ((unhide S2).below (bl_tr (unhide B) (al1 _ _)))).mono ?_
  rintro e w4 ⟨⟨C, rfl, hO⟩, hb⟩
  obtain ⟨sd, g1, sf, g2, si, g3, sb, g4⟩ := C
  have XP := hide (Box.below (Box.new w3 #[.int .i64 vy, .slice rd vd.length d1, .slice rf vf.length d2, .slice ri vi.length d3, .slice rb vb.length d4] 27) hb)
  have bb := bl_tr (al1 _ _) hb
  have HQ := hide hO.1
  have O3 := O
  have D := hide (bb.mono zp)
  replace O := hide ((unhide O).below bb)
  replace HB := hide ((unhide HB).below bb)
  replace X0 := hide ((unhide X0).below bb)
  replace XB := hide ((unhide XB).below bb)
  replace B := hide (bl_tr (unhide B) bb)
  have zs34 : w3.heap.size ≤ w4.heap.size := bb.size
  clear hb bb hO RP x0 z0 xb zb
  have xb := (unhide XB).cell
  have zb := (unhide XB).lt
  have x0 := (unhide X0).cell
  have z0 := (unhide X0).lt
  simp only
  go_wp2_with fail
  refine (unhide IN _ ((unhide S0).below (bl_tr (unhide B) (al1 _ _)))).mono ?_
  rintro e w5 ⟨⟨ql, cl, rfl, hI, hFr⟩, hb⟩
  have XQ := hide (Box.below (Box.new w4 #[.int .i64 vy, .slice sd vd.length g1, .slice sf vf.length g2, .slice si vi.length g3, .slice sb vb.length g4] 27) hb)
  have bb := bl_tr (al1 _ _) hb
  have HL := hide hI.ls
  have FL := hide (hFr.mono (al1 _ _).size)
  have LW := hide hI.2.2.1
  replace D := hide ((unhide D).trans (bb.mono (by omega)))
  replace O := hide ((unhide O).below bb)
  replace HQ := hide ((unhide HQ).below bb)
  replace HB := hide ((unhide HB).below bb)
  replace X0 := hide ((unhide X0).below bb)
  replace XB := hide ((unhide XB).below bb)
  replace XP := hide ((unhide XP).below bb)
  replace B := hide (bl_tr (unhide B) bb)
  have zs45 : w4.heap.size ≤ w5.heap.size := bb.size
  clear hb bb hI hFr IN x0 z0 xb zb
  have xb := (unhide XB).cell
  have zb := (unhide XB).lt
  go_wp2_with fail
  refine (unhide RI _ ⟨qd, ed, qf, ef, qi, ei, qb, eb⟩ (unhide HB)).mono ?_
  rintro e w6 ⟨⟨qm, cm, rfl, hI, _⟩, bb⟩
  have HM := hide hI
  replace D := hide ((unhide D).trans (bb.mono (by omega)))
  replace O := hide ((unhide O).below bb)
  replace HQ := hide ((unhide HQ).below bb)
  replace HB := hide ((unhide HB).below bb)
  replace FL := hide ((unhide FL).below (unhide HL) rfl bb)
  replace HL := hide ((unhide HL).below bb)
  replace X0 := hide ((unhide X0).below bb)
  replace XB := hide ((unhide XB).below bb)
  replace XP := hide ((unhide XP).below bb)
  replace XQ := hide ((unhide XQ).below bb)
  replace B := hide (bl_tr (unhide B) bb)
  have zs56 : w5.heap.size ≤ w6.heap.size := bb.size
  clear bb hI RI xb zb
  have xp := (unhide XP).cell
  have xq := (unhide XQ).cell
  have SM := hide (fun w h k => rten_same (vy, vd, vf, vi, vb) (vy, vd, vf, vi, vb) ⟨rd, d1, rf, d2, ri, d3, rb, d4⟩ ⟨sd, g1, sf, g2, si, g3, sb, g4⟩ w h k)
  rw [decide_eq_true rfl] at SM
  unfold tenV tenCells at SM
  simp only at SM
  go_wp2_with fail
  refine (unhide SM _ (unhide O).1 (unhide HQ)).mono ?_
  rintro e w7 ⟨rfl, bb⟩
  replace D := hide ((unhide D).trans (bb.mono (by omega)))
  replace O := hide ((unhide O).below bb)
  replace HB := hide ((unhide HB).below bb)
  replace HM := hide ((unhide HM).below bb)
  replace FL := hide ((unhide FL).below (unhide HL) rfl bb)
  replace HL := hide ((unhide HL).below bb)
  replace X0 := hide ((unhide X0).below bb)
  replace XB := hide ((unhide XB).below bb)
  replace XP := hide ((unhide XP).below bb)
  replace B := hide (bl_tr (unhide B) bb)
  have zs67 : w6.heap.size ≤ w7.heap.size := bb.size
  clear bb SM HQ XQ xp xq
  go_wp2_with fail
  refine (rsame_true ql qm cl cm L L _ ((unhide HL).ints (unhide LW)) (unhide HM) rfl).mono ?_
  rintro e w8 ⟨rfl, bb⟩
  replace D := hide ((unhide D).trans (bb.mono (by omega)))
  replace O := hide ((unhide O).below bb)
  replace HB := hide ((unhide HB).below bb)
  replace FL := hide ((unhide FL).below (unhide HL) rfl bb)
  replace HL := hide ((unhide HL).below bb)
  replace X0 := hide ((unhide X0).below bb)
  replace XB := hide ((unhide XB).below bb)
  replace XP := hide ((unhide XP).below bb)
  replace B := hide (bl_tr (unhide B) bb)
  have zs78 : w7.heap.size ≤ w8.heap.size := bb.size
  clear bb HM
  have xp := (unhide XP).cell
  have SP := hide (spoil_any (w2.heap.size + 1) (vy, vd, vf, vi, vb) ⟨rd, d1, rf, d2, ri, d3, rb, d4⟩ w8 (unhide O) (by omega))
  unfold tenV tenCells at SP
  simp only at SP
  go_wp2_with fail
  refine (unhide SP).mono ?_
  rintro e w9 ⟨rfl, hb9, hk9⟩
  have ho : ∀ b o, ql = some ⟨b, o, none⟩ → 0 < L.length → Off (vy, vd, vf, vi, vb) ⟨rd, d1, rf, d2, ri, d3, rb, d4⟩ b := fun b o e hp => off_later (unhide O3).1 (by have := ((unhide FL) b o e hp).1; omega)
  have FL9 := hide ((unhide FL).kept (unhide HL) rfl hk9 ho)
  have HL9 := hide ((unhide HL).kept hk9 ho)
  have D9 := hide ((unhide D).trans hb9)
  clear hb9 hk9 SP ho xp HB X0 XB XP
  have ln := (unhide HL9).len
  go_wp2_with fail
  go_loopw [18] (fun iv wr => ∃ n : Nat, ∃ ys : List Int, iv = .int .i64 n ∧ n ≤ L.length ∧ Hid (ys.length = L.length) ∧ Ls (Value.int .i64) wr ql cl ys ∧ Fresh w4.heap.size wr ql L.length ∧ Below (w2.heap.size + 1) w3 wr) (fun iv _ => L.length - (intOf iv).toNat)
  case atStart => exact ⟨0, L, rfl, by omega, hide rfl, unhide HL9, unhide FL9, unhide D9⟩
  case round =>
    obtain ⟨n, ys, rfl, hn, HY, hLs, hFr, hD⟩ := hrel
    have HLs := hide hLs
    have HFr := hide hFr
    have HD := hide hD
    clear hLs hFr hD
    by_cases hlt : n < L.length
    · have hi : (n : Int) < (L.length : Int) := by omega
      have hny : n < ys.length := by rw [unhide HY]; exact hlt
      obtain ⟨b, o, rfl, hb, hc⟩ := (unhide HLs).lies (by omega)
      have k1 := hc n hny
      have z1 : wr.frozen? ⟨b, o + n, none⟩ = false := ((unhide HFr) b o rfl (by omega)).2 n hlt
      have hbb := ((unhide HFr) b o rfl (by omega)).1
      have ST := hide ((unhide HLs).store n hny (-9))
      clear hc
      go_wp2_with fail
      go_roundw
      case rel => exact ⟨n + 1, ys.set n (-9), by go_num, by omega, hide (by rw [List.length_set]; exact unhide HY), unhide ST, (unhide HFr).set _ _, (unhide HD).setCell (by show w2.heap.size + 1 ≤ b; omega) _⟩
      case measure => simp [intOf]; omega
    · have hi : ¬ (n : Int) < (L.length : Int) := by omega
      have BF := hide ((unhide B3).trans ((unhide HD).mono (by have := (unhide B2).size; omega)))
      have HBF := hide ((unhide HB2).below ((unhide BP2).trans ((unhide HD).mono (by omega))))
      have XBF := hide (show Box wr w2.heap.size _ _ from ((unhide HD).block w2.heap.size (by omega)).trans (unhide XB3))
      have X0F := hide (show Box wr W.heap.size _ _ from ((unhide HD).block W.heap.size (by have := (unhide B2).size; omega)).trans (unhide X03))
      have xb := (unhide XBF).cell
      have x0 := (unhide X0F).cell
      have SM := hide (fun w h k => rten_same (ty, ds, fs, is, bs) (ty, ds, fs, is, bs) ⟨pd, cd, pf, cf, pi, ci, pb, cb⟩ ⟨qd, ed, qf, ef, qi, ei, qb, eb⟩ w h k)
      rw [decide_eq_true rfl] at SM
      unfold tenV tenCells at SM
      simp only at SM
      go_wp2_with fail
      refine (unhide SM _ ((unhide S0).below (unhide BF)) (unhide HBF)).mono ?_
      rintro e wz ⟨rfl, bb⟩
      go_wp2_with fail
      go_ret
      exact ⟨rfl, bl_tr (unhide BF) bb⟩

set_option maxRecDepth 100000 in
theorem contract (H : Type) (enc : TypeId × Value → H) (W : World) (base : Nat) (args : Array Value) (ds gs : List (DataW H)) (before : List MemPlace)
    (hval0 : ∀ (j : Nat) t v, Try.f5.params[j]? = some t → args[j]? = some v → Value.okWide Try.prog W .any base t v)
    (hW : DataW.Whole enc Try.prog Try.f5.params.toList Rows.tensPicksSpec.vars false W args.toList ds gs before) (hsz0 : (DataW.weightsEach Try.prog (Try.f5.params.toList ++ Rows.tensPicksSpec.plain.varTypes Try.prog) (ds ++ gs)).all (· ≤ reachBytes) = true) :
    Calls Try.prog 5 args W fun e W' => ∃ v, e = .returned v ∧ Rows.tensPicksSpec.post enc Try.prog Try.f5 false true false false W args v W' := by
  have hval : ∀ (j : Nat) t v, Try.f5.params[j]? = some t → args[j]? = some v → Value.okWide Try.prog W .any base t v := hval0
  have hW' := hW
  obtain ⟨p, q, hA0, hV, rfl, hfz, hnd⟩ := hW
  have hA : DataW.TrodAll enc Try.prog W 0 (fun _ => true) true Try.f5.params.toList args.toList ds p := hA0
  have hsz : (DataW.weightsEach Try.prog (Try.f5.params.toList ++ Rows.tensPicksSpec.plain.varTypes Try.prog) (ds ++ gs)).all (· ≤ reachBytes) = true := hsz0
  clear hsz0
  rw [Try.params5] at hA hval hsz
  obtain ⟨v0, vs0, d0, ds0, pl0, q0, hargs, rfl, rfl, h0, r0⟩ := trodAll_cons hA
  obtain ⟨v1, vs1, d1, ds1, pl1, q1, rfl, rfl, rfl, h1, r1⟩ := trodAll_cons r0
  obtain ⟨v2, vs2, d2, ds2, pl2, q2, rfl, rfl, rfl, h2, r2⟩ := trodAll_cons r1
  obtain ⟨rfl, rfl, rfl⟩ := trodAll_nil r2
  obtain rfl : args = #[v0, v1, v2] := by cases args; simp_all
  obtain ⟨rfl, rfl⟩ := trodVars_none hV
  have h0k := h0
  obtain ⟨T0, A0, rfl, s0, g0⟩ := ten_open (hval 0 27 v0 rfl rfl) h0
  have hlt0 : ∀ y ∈ pl0, y.block < W.heap.size := fun y hy => hW'.lt y (by simp [hy])
  have u0 : A0.cd * 8 ≤ 140737488351232 ∧ A0.cf * 4 ≤ 140737488351232 ∧ A0.ci * 8 ≤ 140737488351232 ∧ A0.cb * 1 ≤ 140737488351232 := by
    have := g0 (fun m hm => by have h9 := List.all_eq_true.1 hsz m (DataW.weights_mem_each (j := 0) rfl rfl m hm); simpa using h9)
    unfold reachBytes at this
    exact this
  have h1k := h1
  obtain ⟨p1, c1, x1, rfl, s1, hd1⟩ := ints_open Try.underlying22 Try.underlying3 (by kernel_rfl) (hval 1 22 v1 rfl rfl) h1
  have hlt1 : ∀ y ∈ pl1, y.block < W.heap.size := fun y hy => hW'.lt y (by simp [hy])
  have u1 : c1 * 8 ≤ 140737488351232 := by
    rcases hd1 with ⟨_, e⟩ | ⟨sp, e, e2⟩
    · omega
    · subst e
      have := sized_slice hsz (j := 1) (t := 22) (e := 3) rfl rfl Try.underlying22
      rw [show Try.prog.bytesOf 3 = 8 by kernel_rfl] at this
      simp only [lits, List.length_map, reachBytes] at this
      rw [e2] at this
      exact this
  have h2k := h2
  obtain ⟨p2, c2, x2, rfl, s2, hd2⟩ := ints_open Try.underlying22 Try.underlying3 (by kernel_rfl) (hval 2 22 v2 rfl rfl) h2
  have hlt2 : ∀ y ∈ pl2, y.block < W.heap.size := fun y hy => hW'.lt y (by simp [hy])
  have u2 : c2 * 8 ≤ 140737488351232 := by
    rcases hd2 with ⟨_, e⟩ | ⟨sp, e, e2⟩
    · omega
    · subst e
      have := sized_slice hsz (j := 2) (t := 22) (e := 3) rfl rfl Try.underlying22
      rw [show Try.prog.bytesOf 3 = 8 by kernel_rfl] at this
      simp only [lits, List.length_map, reachBytes] at this
      rw [e2] at this
      exact this
  clear hA0 hval0
  simp only [List.append_nil] at hW'
  refine (walk T0 A0 p1 c1 x1 p2 c2 x2 W s0 u0 s1 u1 s2 u2).mono fun e W' ⟨he, bel⟩ => ?_
  subst he
  exact ⟨_, rfl, _, _, _, [], _, [], hW', trodAll_mk1 (shut_bool Try.underlying4 _), (trodAll_cons_mk (Below.trod laidOut (by kernel_rfl) (of_decide_eq_true (by kernel_rfl)) h0k bel hlt0) (trodAll_cons_mk (Below.trod laidOut (by kernel_rfl) (of_decide_eq_true (by kernel_rfl)) h1k bel hlt1) (trodAll_cons_mk (Below.trod laidOut (by kernel_rfl) (of_decide_eq_true (by kernel_rfl)) h2k bel hlt2) trodAll_mk0))), rfl, bel.frame _, fun h => by cases h⟩

set_option maxRecDepth 100000 in
theorem lifted (os : Os) (started : os.Started) (H : Type) (enc : TypeId × Value → H) :
    ReturnsInHanded {} Try.checked os 5 .any (Rows.tensPicksSpec.pre6 enc Try.prog Try.f5 Rows.tensPicksRow.domain false) (Rows.tensPicksSpec.post enc Try.prog Try.f5 false true false false) := by
  refine returnsInHanded_of_change_sized (C := Try.checked) own started (by kernel_rfl) Try.func5
    (ChangeSpec.witness6 (enc := enc) (C := Try.checked) false ⟨#[], #[.agg #[.int .i64 0, .slice none 0 0, .slice none 0 0, .slice none 0 0, .slice none 0 0], .slice none 0 0, .slice none 0 0], []⟩ 8 (by kernel_rfl) (by kernel_rfl) (by kernel_rfl) (by kernel_rfl)) ?_
  intro W base args ds gs before hval hW hcnd hsz _
  exact contract H enc W base args ds gs before hval hW hsz

theorem proved : Rows.TensPicksSaid :=
  OpenClaim.holds_of_wide 5 Try.f5 rfl rfl rfl rfl rfl rfl rfl ⟨rfl, rfl, rfl, rfl, rfl⟩ rfl rfl rfl rfl rfl (by kernel_rfl) Try.func5 (by kernel_rfl)
    (of_decide_eq_true (by kernel_rfl)) (by unfold Func.isWrapper; first | (rw [if_pos (by decide +kernel)]; kernel_rfl) | (rw [if_neg (by decide +kernel)]; exact ⟨rfl, rfl⟩))
    (fun os started H enc _ => lifted os started H enc)
#print axioms proved
end Go.Proofs.Ytbepkmehnghmcaa.tensPicks
