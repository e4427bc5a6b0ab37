/- For all tensors and numbers: picking by an order, and then by the order that undoes it, leads back to the tensor; no condition. -/
import Derived.Test.YtbepkmehnghmcaaRows
import Derived.WalkKit
import Derived.ProofKit
import Derived.OpenShut
import Derived.Below
import Derived.Carry
import Derived.Test.YtbepkmehnghmcaaIW
import Derived.Test.YtbepkmehnghmcaaIP
import Derived.Test.YtbepkmehnghmcaaIS
namespace Go.Proofs.Ytbepkmehnghmcaa.tensTurns
open Go.ChangeShapes Go.WideShapes Go.ChangeAt Go.RowKit
set_option linter.unusedVariables false

theorem own : ownKnob Try.prog.godebug = none := by kernel_rfl
theorem laidOut : laidOutB Try.prog = true := by kernel_rfl

theorem and12 (a : Int) : bits .and .i64 a 4095 = a % 4096 := by
  unfold bits
  simp only [BitVec.toNat_and]
  have e1 : (BitVec.ofInt IntKind.i64.bits 4095).toNat = 2 ^ 12 - 1 := by decide
  have e2 : (BitVec.ofInt IntKind.i64.bits a).toNat = (a % 18446744073709551616).toNat := by rw [BitVec.toNat_ofInt]; rfl
  rw [e1, Nat.and_two_pow_sub_one_eq_mod, e2]
  have e3 : (((a % 18446744073709551616).toNat % 2 ^ 12 : Nat) : Int) = a % 4096 := by omega
  rw [e3, IntKind.wrap_i64]
  omega
theorem getD_set5 (xs : List Int) (i j : Nat) (d : Int) (h : i < xs.length) : (xs.set i d).getD j 0 = if j = i then d else xs.getD j 0 := by
  rw [List.getD_eq_getElem?_getD, List.getD_eq_getElem?_getD, List.getElem?_set]
  by_cases e : i = j
  · subst e; simp [h]
  · rw [if_neg e, if_neg (fun h => e h.symm)]
set_option maxRecDepth 100000 in
set_option maxHeartbeats 16000000 in
/-- A tensor that may be. -/
theorem walk_ok (T0 : Ten) (A0 : TA) (a1 : Int) (W : World) (s0 : TenIn W T0 A0) (hc : checkV T0 = 0) :
    Calls Try.prog 8 #[tenV T0 A0, .int .i64 a1] W fun e W' => e = .returned (.bool true) ∧ Below W.heap.size W W' := by
  obtain ⟨ty, ds, fs, is, bs⟩ := T0
  obtain ⟨pd, cd, pf, cf, pi, ci, pb, cb⟩ := A0
  obtain ⟨i1, hi1, y1, z1, b1⟩ := info_parts Try.infoInt
  have S0 := hide s0
  have TC := hide (fun w h => tcheck_any (ty, ds, fs, is, bs) ⟨pd, cd, pf, cf, pi, ci, pb, cb⟩ w h)
  rw [hc] at TC
  have SZ := hide (fun w h => rsize_any pd cd ds w h)
  obtain ⟨N, hN, hN4⟩ := size_nat ds
  rw [(check_known hc).2, hN] at SZ
  have hand := and12 a1
  obtain ⟨K, hK⟩ : ∃ K : Nat, a1 % 4096 = (K : Int) := ⟨(a1 % 4096).toNat, by omega⟩
  have hK2 : K < 4096 := by omega
  rw [hK] at hand
  obtain ⟨p1, p2, p3, p4⟩ := pick_back (ty, ds, fs, is, bs) N K hc hN hN4
  have e1 : pickV (ty, ds, fs, is, bs) [(N : Int)] (thL N K N) = pickT (ty, ds, fs, is, bs) [(N : Int)] (thL N K N) := by unfold pickV; rw [if_pos p1]
  have e2 : pickV (pickT (ty, ds, fs, is, bs) [(N : Int)] (thL N K N)) ds (bkL N K) = (ty, ds, fs, is, bs) := by unfold pickV; rw [if_pos p3]; exact p4
  have PK := hide (fun w q2 q3 c2 c3 h h2 h3 => tpick_any (ty, ds, fs, is, bs) ⟨pd, cd, pf, cf, pi, ci, pb, cb⟩ q2 q3 c2 c3 [(N : Int)] (thL N K N) w h h2 h3)
  have PQ := hide (fun w A q3 c3 h h2 h3 => tpick_any (pickT (ty, ds, fs, is, bs) [(N : Int)] (thL N K N)) A pd q3 cd c3 ds (bkL N K) w h h2 h3)
  rw [p1, e1, thL_length] at PK
  simp only at p3
  rw [p3, e2, bkL_length] at PQ
  obtain ⟨V, hV⟩ : ∃ V, pickT (ty, ds, fs, is, bs) [(N : Int)] (thL N K N) = V := ⟨_, rfl⟩
  rw [hV] at PK PQ
  obtain ⟨vy, vd, vf, vi, vb⟩ := V
  unfold tenV tenCells at TC PK PQ ⊢
  simp only [List.length_cons, List.length_nil, Nat.zero_add] at TC PK PQ ⊢
  clear s0 hc hN p1 p2 p3 p4 e1 e2 hV hK
  go_enter Try.func8, Try.ntmps8
  go_wp2_with fail
  refine (awake5_any _).mono ?_
  rintro e w1 ⟨rfl, hb⟩
  have X0 := hide (Box.below (Box.new W #[.int .i64 ty, .slice pd ds.length cd, .slice pf fs.length cf, .slice pi is.length ci, .slice pb bs.length cb] 27) hb)
  have B := hide (bl_tr (al1 _ _) hb)
  have x0 := (unhide X0).cell
  clear hb
  go_wp2_with fail
  refine (unhide TC _ ((unhide S0).below (unhide B))).mono ?_
  rintro e w2 ⟨rfl, hb⟩
  replace X0 := hide ((unhide X0).below hb)
  replace B := hide (bl_tr (unhide B) hb)
  clear hb TC x0
  have x0 := (unhide X0).cell
  go_wp2_with fail
  refine (unhide SZ _ ((unhide S0).2.1.below (unhide B))).mono ?_
  rintro e w3 ⟨rfl, rfl⟩
  clear SZ x0
  go_wp2_with fail
  go_loopw [8, 9] (fun v iv wr => ∃ n : Nat, iv = .int .i64 n ∧ n ≤ N ∧ OwnG 3 (Value.int .i64) w3 wr v (thL N K n)) (fun _ iv _ => N - (intOf iv).toNat)
  case atStart => exact ⟨0, rfl, by omega, by simpa [thL] using OwnG.nil (f := Value.int .i64) 3 w3 w3 (Below.refl _ _)⟩
  case round =>
    obtain ⟨n, rfl, hn, hO⟩ := hrel
    have O := hide hO
    clear hO
    by_cases hlt : n < N
    · have hi : (n : Int) < (N : Int) := by omega
      have hnz : ((N : Int) == 0) = false := by simp; omega
      have hth := thF_lt (n := N) (K := K) (i := n) (by omega)
      obtain ⟨R, hR⟩ : ∃ R : Nat, (n + K) % N = R := ⟨_, rfl⟩
      have hRl : R < N := by rw [← hR]; exact Nat.mod_lt _ (by omega)
      have m1 : ((n : Int) + (K : Int)) % (N : Int) = (R : Int) := by rw [← hR, Int.natCast_emod, Int.natCast_add]
      have m2 : ((n : Int) + (K : Int)).tmod (N : Int) = (R : Int) := by rw [Int.tmod_eq_emod_of_nonneg (by omega), m1]
      have HX : Hid ((N : Int) - 1 - (R : Int) = (thF N K n : Int)) := hide (by unfold thF; rw [hR]; omega)
      have hl : (thL N K n).length = n := thL_length _ _ _
      obtain ⟨x, hx⟩ : ∃ x : Int, (N : Int) - 1 - (R : Int) = x := ⟨_, rfl⟩
      have HS : Hid (thL N K (n + 1) = thL N K n ++ [x]) := hide (by rw [thL_snoc, ← unhide HX, hx])
      clear hR HX hth
      go_wp2_with (at_builtin; (refine wpList_append_ls rfl _ _ 22 rfl w3 3 i1 (.int .i64 0) 8 Try.underlying22 hi1 y1 z1 b1 rfl (int_one .i64) _ (thL N K n) rfl ((unhide O).below (al1 _ _)) (some ⟨wr.heap.size, 0, none⟩) 1 [x] rfl (ls_one _ _ _) (by unfold maxLen; rw [hl]; simp <;> omega) (by rw [hl]; simp <;> omega) ?_; intro v2 w2 O2; have HO2 := hide O2; clear O2))
      go_roundw
      case rel => exact ⟨n + 1, by go_num, by omega, by rw [unhide HS]; exact unhide HO2⟩
      case measure => simp [intOf]; omega
    · have hi : ¬ (n : Int) < (N : Int) := by omega
      have en : n = N := by omega
      subst en
      obtain ⟨qt, ct, hv, hL, _⟩ := (unhide O).form
      have hB := (unhide O).2
      rw [thL_length] at hv
      subst hv
      have HL := hide hL
      have lt := hL.len
      replace B := hide (bl_tr (unhide B) hB)
      replace X0 := hide ((unhide X0).below hB)
      clear hL hB O
      go_wp2_with (at_make; (refine wpList_make_full _ rfl _ _ 22 rfl wr.heap.size 3 i1 (.int .i64 0) 1 Try.underlying22 hi1 y1 z1 _ _ _ _ n rfl rfl (by omega) (by omega) (by rw [b1]; omega) (by unfold maxLen; omega) (Nat.le_refl _) ?_; intro w5 hown hgrow; have Q := OwnG.made (f := Value.int .i64) (z := (0 : Int)) (Below.refl _ _) rfl hown hgrow; obtain ⟨q5, c5, hv5, L5, F5⟩ := Q.form; rw [List.length_replicate] at hv5 F5; simp only [Value.slice.injEq] at hv5; obtain ⟨hq5, _, hc5⟩ := hv5; rw [← hq5, ← hc5] at L5; rw [← hq5] at F5; clear hq5 hc5; have HL5 := hide L5; have HF5 := hide F5; have B5 := hide Q.2; clear hown hgrow Q L5 F5))
      go_loopw [11] (fun iv wq => ∃ m : Nat, ∃ ys : List Int, iv = .int .i64 m ∧ m ≤ n ∧ Hid (ys.length = n) ∧ Hid (∀ y ∈ ys, (Lit.int .i64 y).wf = true) ∧ Hid (∀ i, i < m → ys.getD (thF n K i) 0 = (i : Int)) ∧ Ls (Value.int .i64) wq (some ⟨wr.heap.size, 0, none⟩) n ys ∧ Fresh wr.heap.size wq (some ⟨wr.heap.size, 0, none⟩) n ∧ Below wr.heap.size wr wq) (fun iv _ => n - (intOf iv).toNat)
      case atStart => exact ⟨0, List.replicate n 0, rfl, by omega, hide (by simp), hide (fun y hy => by rw [List.mem_replicate] at hy; rw [hy.2]; decide), hide (fun i hi => by omega), unhide HL5, unhide HF5, unhide B5⟩
      case round =>
        obtain ⟨m, ys, rfl, hm, HY, HW, HV, hLs, hFr, hBl⟩ := hrel
        have LS := hide hLs
        have FR := hide hFr
        have BL := hide hBl
        clear hLs hFr hBl
        have HLq := hide ((unhide HL).below (unhide BL))
        by_cases hmn : m < n
        · have hi2 : (m : Int) < (n : Int) := by omega
          have hth := thF_lt (n := n) (K := K) (i := m) (by omega)
          have hml : m < (thL n K n).length := by rw [thL_length]; exact hmn
          obtain ⟨b3, o3, rfl, hb3, hc3⟩ := (unhide HLq).lies (by omega)
          have k3 := hc3 m hml
          rw [show (thL n K n).getD m default = (thF n K m : Int) from thL_getD n K n m hmn] at k3
          have hyl : thF n K m < ys.length := by rw [unhide HY]; exact hth
          obtain ⟨b4, o4, hq4, hb4, hc4⟩ := (unhide LS).lies (by omega)
          have k4 := hc4 (thF n K m) hyl
          have z4 := ((unhide FR) _ _ rfl (by omega)).2 (thF n K m) hth
          simp only [Option.some.injEq, Addr.mk.injEq] at hq4
          obtain ⟨hq4, ho4, _⟩ := hq4
          subst hq4
          subst ho4
          have ST := hide ((unhide LS).store (thF n K m) hyl (m : Int))
          have HV2 : Hid (∀ i, i < m + 1 → (ys.set (thF n K m) (m : Int)).getD (thF n K i) 0 = (i : Int)) := hide (fun i hi => by
            rw [getD_set5 ys (thF n K m) (thF n K i) (m : Int) hyl]
            by_cases e : i = m
            · subst e; rw [if_pos rfl]
            · rw [if_neg (fun h => e (th_inj (show i < n by omega) hmn h))]; exact unhide HV i (by omega))
          have HW2 : Hid (∀ y ∈ ys.set (thF n K m) (m : Int), (Lit.int .i64 y).wf = true) := hide (wf_set (unhide HW) (WalkArith.wf_i64 (by omega)))
          have hthi : (thF n K m : Int) < (n : Int) := by omega
          obtain ⟨j, hj⟩ : ∃ j, thF n K m = j := ⟨_, rfl⟩
          rw [hj] at k3 k4 z4 ST HV2 HW2 hthi
          simp only [Nat.zero_add] at k4 z4 ST
          clear hc3 hc4 hth hyl hj HV HW
          generalize ys.getD j default = x4 at k4
          go_wp2_with fail
          go_roundw
          case rel => exact ⟨m + 1, ys.set j (m : Int), by go_num, by omega, hide (by rw [List.length_set]; exact unhide HY), HW2, HV2, unhide ST, (unhide FR).set _ _, (unhide BL).setCell (Nat.le_refl _) _⟩
          case measure => simp [intOf]; omega
        · have hi2 : ¬ (m : Int) < (n : Int) := by omega
          have em : m = n := by omega
          have hys : ys = bkL n K := back_is (unhide HY) (fun i hi => unhide HV i (by omega))
          subst hys
          have HLB := hide ((unhide LS).ints (unhide HW))
          replace B := hide (bl_tr (unhide B) (unhide BL))
          replace X0 := hide ((unhide X0).below (unhide BL))
          have HTH := hide ((unhide HLq).ints (fun x hx => by
            simp only [thL, List.mem_map, List.mem_range] at hx
            obtain ⟨i, g1, rfl⟩ := hx
            have := thF_lt (n := n) (K := K) (i := i) (by omega)
            exact WalkArith.wf_i64 (by omega)))
          have x0 := (unhide X0).cell
          have z0 := (unhide X0).lt
          clear LS HW HV FR HLq HL HL5 HF5
          go_wp2_with fail
          refine (unhide PK _ _ _ _ _ ((unhide S0).below (bl_tr (unhide B) (al1 _ _))) (lit_at .i64 _ 3 [(n : Int)] _ rfl (by simp) (by intro x hx; simp at hx; subst hx; exact WalkArith.wf_i64 (by omega))) ((unhide HTH).below (al1 _ _))).mono ?_
          rintro e w7 ⟨⟨C, rfl, hO⟩, hb⟩
          obtain ⟨qd, ed, qf, ef, qi, ei, qb, eb⟩ := C
          have bb := bl_tr (al1 _ _) hb
          have HP := hide hO.1
          replace HLB := hide ((unhide HLB).below bb)
          replace B := hide (bl_tr (unhide B) bb)
          replace X0 := hide ((unhide X0).below bb)
          clear hb bb hO PK x0 z0 HTH
          have x0 := (unhide X0).cell
          have z0 := (unhide X0).lt
          simp only
          go_wp2_with fail
          refine (unhide PQ _ ⟨qd, ed, qf, ef, qi, ei, qb, eb⟩ _ _ ((unhide HP).below (al1 _ _)) ((unhide S0).2.1.below (bl_tr (unhide B) (al1 _ _))) ((unhide HLB).below (al1 _ _))).mono ?_
          rintro e w8 ⟨⟨C, rfl, hO⟩, hb⟩
          obtain ⟨rd, d1, rf, d2, ri, d3, rb, d4⟩ := C
          have bb := bl_tr (al1 _ _) hb
          have HQ := hide hO.1
          replace B := hide (bl_tr (unhide B) bb)
          replace X0 := hide ((unhide X0).below bb)
          clear hb bb hO PQ x0 z0 HLB
          have x0 := (unhide X0).cell
          have z0 := (unhide X0).lt
          simp only
          have SM := hide (fun w h k => tsame_any (ty, ds, fs, is, bs) (ty, ds, fs, is, bs) ⟨rd, d1, rf, d2, ri, d3, rb, d4⟩ ⟨pd, cd, pf, cf, pi, ci, pb, cb⟩ w h k)
          rw [decide_eq_true rfl] at SM
          unfold tenV tenCells at SM
          simp only at SM
          go_wp2_with fail
          refine (unhide SM _ ((unhide HQ).below (al1 _ _)) ((unhide S0).below (bl_tr (unhide B) (al1 _ _)))).mono ?_
          rintro e w9 ⟨rfl, hb⟩
          go_wp2_with fail
          go_ret
          exact ⟨rfl, bl_tr (bl_tr (unhide B) (al1 _ _)) hb⟩
set_option maxRecDepth 100000 in
set_option maxHeartbeats 4000000 in
/-- One that may not be. -/
theorem walk_no (T0 : Ten) (A0 : TA) (a1 : Int) (W : World) (s0 : TenIn W T0 A0) (hc : checkV T0 ≠ 0) :
    Calls Try.prog 8 #[tenV T0 A0, .int .i64 a1] W fun e W' => e = .returned (.bool true) ∧ Below W.heap.size W W' := by
  obtain ⟨ty, ds, fs, is, bs⟩ := T0
  obtain ⟨pd, cd, pf, cf, pi, ci, pb, cb⟩ := A0
  have S0 := hide s0
  have TC := hide (fun w h => tcheck_any (ty, ds, fs, is, bs) ⟨pd, cd, pf, cf, pi, ci, pb, cb⟩ w h)
  obtain ⟨E, hE⟩ : ∃ E, checkV (ty, ds, fs, is, bs) = E := ⟨_, rfl⟩
  rw [hE] at TC hc
  have hen : (E != 0) = true := bneT hc
  unfold tenV tenCells at TC ⊢
  simp only at TC ⊢
  clear s0 hE hc
  go_enter Try.func8, Try.ntmps8
  go_wp2_with fail
  refine (awake5_any _).mono ?_
  rintro e w1 ⟨rfl, hb⟩
  have X0 := hide (Box.below (Box.new W #[.int .i64 ty, .slice pd ds.length cd, .slice pf fs.length cf, .slice pi is.length ci, .slice pb bs.length cb] 27) hb)
  have B := hide (bl_tr (al1 _ _) hb)
  have x0 := (unhide X0).cell
  clear hb
  go_wp2_with fail
  refine (unhide TC _ ((unhide S0).below (unhide B))).mono ?_
  rintro e w2 ⟨rfl, hb⟩
  replace B := hide (bl_tr (unhide B) hb)
  clear hb TC x0
  go_wp2_with fail
  go_ret
  exact ⟨rfl, unhide B⟩
/-- The statement's call returns true, whatever came in. -/
theorem walk (T0 : Ten) (A0 : TA) (a1 : Int) (W : World) (s0 : TenIn W T0 A0) (w1 : (Lit.int .i64 a1).wf = true) :
    Calls Try.prog 8 #[tenV T0 A0, .int .i64 a1] W fun e W' => e = .returned (.bool true) ∧ Below W.heap.size W W' := by
  by_cases hc : checkV T0 = 0
  · exact walk_ok T0 A0 a1 W s0 hc
  · exact walk_no T0 A0 a1 W s0 hc

set_option maxRecDepth 100000 in
theorem contract (H : Type) (enc : TypeId × Value → H) (W : World) (base : Nat) (args : Array Value) (ds gs : List (DataW H)) (before : List MemPlace)
    (hval0 : ∀ (j : Nat) t v, Try.f8.params[j]? = some t → args[j]? = some v → Value.okWide Try.prog W .any base t v)
    (hW : DataW.Whole enc Try.prog Try.f8.params.toList Rows.tensTurnsSpec.vars false W args.toList ds gs before) :
    Calls Try.prog 8 args W fun e W' => ∃ v, e = .returned v ∧ Rows.tensTurnsSpec.post enc Try.prog Try.f8 false true false false W args v W' := by
  have hval : ∀ (j : Nat) t v, Try.f8.params[j]? = some t → args[j]? = some v → Value.okWide Try.prog W .any base t v := hval0
  have hW' := hW
  obtain ⟨p, q, hA0, hV, rfl, hfz, hnd⟩ := hW
  have hA : DataW.TrodAll enc Try.prog W 0 (fun _ => true) true Try.f8.params.toList args.toList ds p := hA0
  rw [Try.params8] at hA hval
  obtain ⟨v0, vs0, d0, ds0, pl0, q0, hargs, rfl, rfl, h0, r0⟩ := trodAll_cons hA
  obtain ⟨v1, vs1, d1, ds1, pl1, q1, rfl, rfl, rfl, h1, r1⟩ := trodAll_cons r0
  obtain ⟨rfl, rfl, rfl⟩ := trodAll_nil r1
  obtain rfl : args = #[v0, v1] := by cases args; simp_all
  obtain ⟨rfl, rfl⟩ := trodVars_none hV
  have h0k := h0
  obtain ⟨T0, A0, rfl, s0, g0⟩ := ten_open (hval 0 27 v0 rfl rfl) h0
  have hlt0 : ∀ y ∈ pl0, y.block < W.heap.size := fun y hy => hW'.lt y (by simp [hy])
  obtain ⟨a1, rfl, rfl, rfl, w1⟩ := open_int Try.underlying3 (hval 1 3 v1 rfl rfl) h1
  clear hA0 hval0
  simp only [List.append_nil] at hW'
  refine (walk T0 A0 a1 W s0 w1).mono fun e W' ⟨he, bel⟩ => ?_
  subst he
  exact ⟨_, rfl, _, _, _, [], _, [], hW', trodAll_mk1 (shut_bool Try.underlying4 _), (trodAll_cons_mk (Below.trod laidOut (by kernel_rfl) (of_decide_eq_true (by kernel_rfl)) h0k bel hlt0) (trodAll_cons_mk (shut_int Try.underlying3 w1) trodAll_mk0)), rfl, bel.frame _, fun h => by cases h⟩

set_option maxRecDepth 100000 in
theorem lifted (os : Os) (started : os.Started) (H : Type) (enc : TypeId × Value → H) :
    ReturnsInHanded {} Try.checked os 8 .any (Rows.tensTurnsSpec.pre6 enc Try.prog Try.f8 Rows.tensTurnsRow.domain false) (Rows.tensTurnsSpec.post enc Try.prog Try.f8 false true false false) := by
  refine returnsInHanded_of_change (C := Try.checked) own started (by kernel_rfl) Try.func8
    (ChangeSpec.witness6 (enc := enc) (C := Try.checked) false ⟨#[], #[.agg #[.int .i64 0, .slice none 0 0, .slice none 0 0, .slice none 0 0, .slice none 0 0], .int .i64 0], []⟩ 8 (by kernel_rfl) (by kernel_rfl) (by kernel_rfl) (by kernel_rfl)) ?_
  intro W base args ds gs before hval hW hcnd _
  exact contract H enc W base args ds gs before hval hW

theorem proved : Rows.TensTurnsSaid :=
  OpenClaim.holds_of_wide 8 Try.f8 rfl rfl rfl rfl rfl rfl rfl ⟨rfl, rfl, rfl, rfl, rfl⟩ rfl rfl rfl rfl rfl (by kernel_rfl) Try.func8 (by kernel_rfl)
    (of_decide_eq_true (by kernel_rfl)) (by unfold Func.isWrapper; first | (rw [if_pos (by decide +kernel)]; kernel_rfl) | (rw [if_neg (by decide +kernel)]; exact ⟨rfl, rfl⟩))
    (fun os started H enc _ => lifted os started H enc)
#print axioms proved
end Go.Proofs.Ytbepkmehnghmcaa.tensTurns
