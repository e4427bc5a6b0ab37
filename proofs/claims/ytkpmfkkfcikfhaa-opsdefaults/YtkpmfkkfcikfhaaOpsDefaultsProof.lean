import Derived.Test.YtkpmfkkfcikfhaaRows
import Derived.WalkKit
import Derived.ProofKit
import Derived.OpenShut
import Derived.Below
import Derived.Carry
import Derived.SizedLaws
import Derived.Test.YtkpmfkkfcikfhaaV48
import Derived.Test.YtkpmfkkfcikfhaaV49
import Derived.Test.YtkpmfkkfcikfhaaV52

/- For all nodes and places: an attribute that says what stands without it says nothing; no condition. -/
namespace Go.Proofs.Ytkpmfkkfcikfhaa.opsDefaults
open Go.ChangeShapes Go.WideShapes Go.ChangeAt Go.RowKit
set_option linter.unusedVariables false

theorem own : ownKnob Try.prog.godebug = none := by kernel_rfl
theorem laidOut : laidOutB Try.prog = true := by kernel_rfl

set_option maxRecDepth 100000 in
set_option linter.unusedSimpArgs false in
set_option maxHeartbeats 16000000 in
/-- The statement's call returns true, whatever came in. -/
theorem walk (N0 : NoA) (a1 : Int) (W : World) (s0 : NoIn W.heap.size W N0) (u0 : NoSz N0) (w1 : (Lit.int .i64 a1).wf = true) :
    Calls Try.prog 7 #[.agg (noCells N0).toArray, .int .i64 a1] W fun e W' => e = .returned (.bool true) ∧ Below W.heap.size W W' := by
  have CR := hide (fun v (hv : Below W.heap.size W v) => cresolve8_any N0 W.heap.size v (s0.below8 hv) u0.1)
  have HS0 := hide s0
  have HU0 := hide u0
  clear s0 u0
  obtain ⟨op, nm, ins, qi, ci, outs, qo, co, ats, qa, ca⟩ := N0
  simp only [noCells, strV] at CR ⊢
  obtain ⟨N, hN⟩ : ∃ N, ats.length = N := ⟨_, rfl⟩
  have HLN := hide hN
  rw [hN] at CR ⊢
  have hcap : ats.length ≤ ca := (uh HS0).2.2.2.2.2.1.1
  have hsz : ca * 208 ≤ 140737488351232 := (uh HU0).2
  rw [hN] at hcap
  clear hN
  obtain ⟨R, hR⟩ : ∃ R, resV (NoA.d ⟨op, nm, ins, qi, ci, outs, qo, co, ats, qa, ca⟩) = R := ⟨_, rfl⟩
  rw [hR] at CR
  obtain ⟨r1, r2, r3⟩ := R
  simp only at CR
  have hR1 : resV (op, nm, ins, outs, ats.map AtA.d) = (r1, r2, r3) := hR
  have HR := hide hR1
  have RE := res_err hR1
  clear hR hR1
  have hand := and65535_8 a1
  have hM0 : 0 ≤ a1 % 65536 ∧ a1 % 65536 < 65536 := ⟨Int.emod_nonneg _ (by decide), Int.emod_lt_of_pos _ (by decide)⟩
  generalize a1 % 65536 = M at hand hM0
  obtain ⟨M', rfl⟩ : ∃ M' : Nat, M = M' := ⟨M.toNat, by omega⟩
  have hM : M' < 65536 := by omega
  clear hM0 w1
  have RQ : Hid ((r1 = 0 ∧ (r3 = 7 ∨ r3 = 1 ∨ r3 = 14)) ∨ (r3 = 0 ∧ r1 ≠ 0)) := hide (by
    rcases RE with ⟨h, _, h2, _⟩ | h
    · exact .inr ⟨h, h2⟩
    · exact .inl h)
  clear RE
  go_enter Try.func7, Try.ntmps7
  go_wp2_with fail
  refine (awake8_any _).mono ?_
  rintro e w1 ⟨rfl, hb⟩
  have X0 := hide (Box.below (Box.new W #[.string (strOfNums op), .string (strOfNums nm), .slice qi ins.length ci, .slice qo outs.length co, .slice qa N ca] 36) hb)
  have B1 := hide (bl_tr (al1p _ _) hb)
  clear hb
  have x0 := (uh X0).cell
  go_wp2_with fail
  refine (uh CR _ (uh B1)).mono ?_
  rintro e w2 ⟨cs2, rfl, hs2, hb2⟩
  have HC2 := hide hs2.ones
  have HS2 := hide hs2
  have B2 := hide (bl_tr (uh B1) hb2)
  replace X0 := hide ((uh X0).below hb2)
  clear hs2 hb2 x0 B1 CR
  rcases uh RQ with ⟨e1, e3⟩ | ⟨e3, e1⟩
  · have t3 : (r3 != 0) = true := by rw [bne_iff_ne]; omega
    subst e1
    clear e3 RQ hand
    go_wp2_with (refine wpList_store8 rfl _ _ rfl rfl rfl (Box.new _ _ _) (uh HC2).1 rfl (uh HC2).2 ?_; intro w3 b8 s8 z8; have D3 := hide (bl_tr7 (al1p _ _) s8.1); have Y7 := hide b8; clear b8 s8 z8)
    go_ret
    exact ⟨rfl, bl_tr (uh B2) (uh D3)⟩
  have t1 : (r1 == 0) = false := by rw [beq_eq_false_iff_ne]; exact e1
  have t1b : (r1 != 0) = true := by rw [bne_iff_ne]; exact e1
  subst e3
  clear e1 RQ
  by_cases hn0 : N = 0
  · subst hn0
    clear hand
    go_wp2_with (refine wpList_store8 rfl _ _ rfl rfl rfl (Box.new _ _ _) (uh HC2).1 rfl (uh HC2).2 ?_; intro w3 b8 s8 z8; have D3 := hide (bl_tr7 (al1p _ _) s8.1); have Y7 := hide b8; clear b8 s8 z8; have Y0 := hide ((uh X0).below (uh D3)); have x0 := (uh Y0).cell; have xl0 := (uh Y0).lt)
    go_ret
    exact ⟨rfl, bl_tr (uh B2) (uh D3)⟩
  have nz2 : ¬ (N : Int) = 0 := by omega
  have hnz : ((N : Int) == 0) = false := by rw [beq_eq_false_iff_ne]; exact nz2
  obtain ⟨K, hK⟩ : ∃ K : Nat, M' % N = K := ⟨_, rfl⟩
  have hKN : K < N := by rw [← hK]; exact Nat.mod_lt _ (by omega)
  have hrm : Int.tmod (M' : Int) (N : Int) = (K : Int) := by
    rw [Int.tmod_eq_emod_of_nonneg (Int.natCast_nonneg _), ← Int.natCast_emod, hK]
  clear hK
  go_wp2_with (refine wpList_store8 rfl _ _ rfl rfl rfl (Box.new _ _ _) (uh HC2).1 rfl (uh HC2).2 ?_; intro w3 b8 s8 z8; have B3 := hide (bl_tr7 (al1p _ _) s8.1); have Y7 := hide b8; clear b8 s8 z8; have Y0 := hide ((uh X0).below (uh B3)); have B4 := hide (bl_tr (uh B2) (uh B3)); have x0 := (uh Y0).cell; have xl0 := (uh Y0).lt)
  have RAT : Hid (Rc 12 atCells noAtA w3 qa ca ats) := hide ((uh HS0).below8 (uh B4)).2.2.2.2.2.1
  obtain ⟨b5, o5, rfl, hb5, hc5⟩ := (uh RAT).lies (by rw [uh HLN]; omega)
  have HC5 := hide hc5
  clear hnz hrm hand x0 xl0 hc5 X0 hM RAT
  go_loopw [11] (fun iv wr => ∃ n m : Nat, iv = .int .i64 n ∧ n ≤ N ∧ m ≤ n ∧ Hid ((skipR ats K n).length = m) ∧ ∃ q c, Hid (Box wr w3.heap.size #[.string (strOfNums op), .string (strOfNums nm), .slice qi ins.length ci, .slice qo outs.length co, .slice q m c] 36) ∧ Hid (OwnR 52 12 atCells w3 wr (.slice q m c) (skipR ats K n))) (fun iv _ => N - (intOf iv).toNat)
  case atStart => exact ⟨0, 0, rfl, by omega, by omega, hide (by simp [skipR]), none, 0, hide (Box.new _ _ _), hide (by simp only [skipR, List.take_zero, List.eraseIdx_nil]; exact OwnR.nil _ (al1p _ _))⟩
  case round =>
    obtain ⟨n, m, rfl, hn, hmn, hm, q, c, hX9, hO⟩ := hrel
    have BW := hide (uh hO).2
    have Y0r := hide ((uh Y0).below (uh BW))
    have x0 := (uh Y0r).cell
    have x9 := (uh hX9).cell
    by_cases hlt : n < N
    · have hi : (n : Int) < (N : Int) := by omega
      have hla : n < ats.length := by rw [uh HLN]; exact hlt
      by_cases hnk : n = K
      · have tk : ((n : Int) != (K : Int)) = false := by rw [hnk]; simp
        have HSM := hide (skip_same ats (k := n) hla)
        subst hnk
        clear hla
        go_wp2_with fail
        go_roundw
        case rel => exact ⟨n + 1, m, by go_num, by omega, by omega, hide (by rw [uh HSM]; exact uh hm), q, c, hX9, hide (by rw [uh HSM]; exact uh hO)⟩
        case measure => simp [intOf]; omega
      · have tk : ((n : Int) != (K : Int)) = true := by rw [bne_iff_ne]; omega
        have hE := uh HC5 n hla
        have hrv := skip_more ats hla hnk
        obtain ⟨a, ha⟩ : ∃ a, ats.getD n noAtA = a := ⟨_, rfl⟩
        rw [ha] at hE hrv
        obtain ⟨en, ek, ef, ei, es, ⟨ty, ds, fs, is, bs⟩, ⟨pd, cd, pf, cf, pi, ci', pb, cb⟩, efs, epf, ecf, eis, epi, eci⟩ := a
        have HRV := hide hrv
        have HM1 : Hid ((skipR ats K (n + 1)).length = m + 1) := hide (by rw [hrv, List.length_append, uh hm]; rfl)
        have KA : Hid (∀ v, Below w3.heap.size w3 v → (∀ j, v.cell? ⟨W.heap.size, j, none⟩ = (#[.string (strOfNums op), .string (strOfNums nm), .slice qi ins.length ci, .slice qo outs.length co, .slice (some ⟨b5, o5, none⟩) N ca] : Array Value)[j]?) ∧ v.cell? ⟨b5, o5 + n * 12, none⟩ = some (.string (strOfNums en)) ∧ v.cell? ⟨b5, o5 + n * 12 + 1, none⟩ = some (.int .i64 ek) ∧ v.cell? ⟨b5, o5 + n * 12 + 2, none⟩ = some (.int .u32 ef) ∧ v.cell? ⟨b5, o5 + n * 12 + 3, none⟩ = some (.int .i64 ei) ∧ v.cell? ⟨b5, o5 + n * 12 + 4, none⟩ = some (.string (strOfNums es)) ∧ v.cell? ⟨b5, o5 + n * 12 + 5, none⟩ = some (.int .i64 ty) ∧ v.cell? ⟨b5, o5 + n * 12 + 6, none⟩ = some (.slice pd ds.length cd) ∧ v.cell? ⟨b5, o5 + n * 12 + 7, none⟩ = some (.slice pf fs.length cf) ∧ v.cell? ⟨b5, o5 + n * 12 + 8, none⟩ = some (.slice pi is.length ci') ∧ v.cell? ⟨b5, o5 + n * 12 + 9, none⟩ = some (.slice pb bs.length cb) ∧ v.cell? ⟨b5, o5 + n * 12 + 10, none⟩ = some (.slice epf efs.length ecf) ∧ v.cell? ⟨b5, o5 + n * 12 + 11, none⟩ = some (.slice epi eis.length eci)) := hide (fun v hv => ⟨((uh Y0).below hv).cell, (by have h := (World.cell?_of_block (hv.block b5 hb5)).trans (hE 0 _ rfl); simpa [strV] using h), (World.cell?_of_block (hv.block b5 hb5)).trans (hE 1 _ rfl), (World.cell?_of_block (hv.block b5 hb5)).trans (hE 2 _ rfl), (World.cell?_of_block (hv.block b5 hb5)).trans (hE 3 _ rfl), (World.cell?_of_block (hv.block b5 hb5)).trans (hE 4 _ rfl), (World.cell?_of_block (hv.block b5 hb5)).trans (hE 5 _ rfl), (World.cell?_of_block (hv.block b5 hb5)).trans (hE 6 _ rfl), (World.cell?_of_block (hv.block b5 hb5)).trans (hE 7 _ rfl), (World.cell?_of_block (hv.block b5 hb5)).trans (hE 8 _ rfl), (World.cell?_of_block (hv.block b5 hb5)).trans (hE 9 _ rfl), (World.cell?_of_block (hv.block b5 hb5)).trans (hE 10 _ rfl), (World.cell?_of_block (hv.block b5 hb5)).trans (hE 11 _ rfl)⟩)
        clear hE ha hrv hla hnk
        have DD : Hid (Below wr.heap.size wr (wr.alloc (Obj.cells #[.string (strOfNums en), .int .i64 ek, .int .u32 ef, .int .i64 ei, .string (strOfNums es), .int .i64 ty, .slice pd ds.length cd, .slice pf fs.length cf, .slice pi is.length ci', .slice pb bs.length cb, .slice epf efs.length ecf, .slice epi eis.length eci] 52)).drew) := hide (bl_tr (al1p _ _) (bdrew8 _))
        have D1 := hide (bl_tr (uh BW) (bdrew8 _))
        have D2 := hide (bl_tr (uh BW) (uh DD))
        have x9d := ((uh hX9).below (bdrew8 _)).cell
        have x9a := ((uh hX9).below (uh DD)).cell
        obtain ⟨i1, hi1, y1, z1, b1⟩ := info_parts Try.info8Attr
        have nz1 : ¬ N = 0 := hn0
        go_wp2_with fail
        refine wp_region_held_drew (S := fun v => (∀ j, v.cell? ⟨W.heap.size, j, none⟩ = (#[.string (strOfNums op), .string (strOfNums nm), .slice qi ins.length ci, .slice qo outs.length co, .slice (some ⟨b5, o5, none⟩) N ca] : Array Value)[j]?) ∧ v.cell? ⟨b5, o5 + n * 12, none⟩ = some (.string (strOfNums en)) ∧ v.cell? ⟨b5, o5 + n * 12 + 1, none⟩ = some (.int .i64 ek) ∧ v.cell? ⟨b5, o5 + n * 12 + 2, none⟩ = some (.int .u32 ef) ∧ v.cell? ⟨b5, o5 + n * 12 + 3, none⟩ = some (.int .i64 ei) ∧ v.cell? ⟨b5, o5 + n * 12 + 4, none⟩ = some (.string (strOfNums es)) ∧ v.cell? ⟨b5, o5 + n * 12 + 5, none⟩ = some (.int .i64 ty) ∧ v.cell? ⟨b5, o5 + n * 12 + 6, none⟩ = some (.slice pd ds.length cd) ∧ v.cell? ⟨b5, o5 + n * 12 + 7, none⟩ = some (.slice pf fs.length cf) ∧ v.cell? ⟨b5, o5 + n * 12 + 8, none⟩ = some (.slice pi is.length ci') ∧ v.cell? ⟨b5, o5 + n * 12 + 9, none⟩ = some (.slice pb bs.length cb) ∧ v.cell? ⟨b5, o5 + n * 12 + 10, none⟩ = some (.slice epf efs.length ecf) ∧ v.cell? ⟨b5, o5 + n * 12 + 11, none⟩ = some (.slice epi eis.length eci)) (by kernel_rfl) (uh KA _ (uh D1)) (fun hHeld => ?_)
        refine wpAnyH_take (i := 0) (oi := { dst := some 60, op := _, type := _, pos := _, after := _, guard := _ }) (v := ?vv1) rfl (by kernel_rfl) (by kernel_rfl) (by kernel_rfl) (fun _ _ _ h => h) (Or.inl ⟨by rfl, ?hy1⟩) (by assumption) ?rest1
        case hy1 => (intro w hSw; (try dsimp only at hSw); go_simp; (first | done | with_reducible rfl))
        (try simp only [Act.put, List.setIfInBounds_toArray, List.set_cons_zero, List.set_cons_succ])
        refine wpAnyH_take (i := 2) (oi := { dst := some 62, op := _, type := _, pos := _, after := _, guard := _ }) (v := ?vv2) rfl (by kernel_rfl) (by kernel_rfl) (by kernel_rfl) (fun _ _ _ h => h) (Or.inl ⟨by rfl, ?hy2⟩) (by assumption) ?rest2
        case hy2 => (intro w hSw; (try dsimp only at hSw); go_simp; (first | done | with_reducible rfl))
        (try simp only [Act.put, List.setIfInBounds_toArray, List.set_cons_zero, List.set_cons_succ])
        refine wpAnyH_take (i := 3) (oi := { dst := some 63, op := _, type := _, pos := _, after := _, guard := _ }) (v := ?vv3) rfl (by kernel_rfl) (by kernel_rfl) (by kernel_rfl) (fun _ _ _ h => h) (Or.inl ⟨by rfl, ?hy3⟩) (by assumption) ?rest3
        case hy3 => (intro w hSw; (try dsimp only at hSw); go_simp; (first | done | with_reducible rfl))
        (try simp only [Act.put, List.setIfInBounds_toArray, List.set_cons_zero, List.set_cons_succ])
        refine wpAnyH_take (i := 4) (oi := { dst := some 64, op := _, type := _, pos := _, after := _, guard := _ }) (v := ?vv4) rfl (by kernel_rfl) (by kernel_rfl) (by kernel_rfl) (fun _ _ _ h => h) (Or.inl ⟨by rfl, ?hy4⟩) (by assumption) ?rest4
        case hy4 => (intro w hSw; (try dsimp only at hSw); go_simp; (first | done | with_reducible rfl))
        (try simp only [Act.put, List.setIfInBounds_toArray, List.set_cons_zero, List.set_cons_succ])
        refine wpAnyH_take (i := 5) (oi := { dst := some 65, op := _, type := _, pos := _, after := _, guard := _ }) (v := ?vv5) rfl (by kernel_rfl) (by kernel_rfl) (by kernel_rfl) (fun _ _ _ h => h) (Or.inl ⟨by rfl, ?hy5⟩) (by assumption) ?rest5
        case hy5 => (intro w hSw; (try dsimp only at hSw); go_simp; (first | done | with_reducible rfl))
        (try simp only [Act.put, List.setIfInBounds_toArray, List.set_cons_zero, List.set_cons_succ])
        refine wpAnyH_take (i := 6) (oi := { dst := some 66, op := _, type := _, pos := _, after := _, guard := _ }) (v := ?vv6) rfl (by kernel_rfl) (by kernel_rfl) (by kernel_rfl) (fun _ _ _ h => h) (Or.inl ⟨by rfl, ?hy6⟩) (by assumption) ?rest6
        case hy6 => (intro w hSw; (try dsimp only at hSw); go_simp; (first | done | with_reducible rfl))
        (try simp only [Act.put, List.setIfInBounds_toArray, List.set_cons_zero, List.set_cons_succ])
        refine wpAnyH_ready (rs := [1, 7]) (by kernel_rfl) (by simp) ?_
        refine AllReadyH.cons (o := { dst := some 61, op := _, type := _, pos := _, after := _, guard := _ }) rfl (fun KC hK => ?_) (AllReadyH.cons (o := { dst := some 67, op := _, type := _, pos := _, after := _, guard := _ }) rfl (fun KC hK => ?_) AllReadyH.nil)
        ·
          go_simp
          refine hK.out _ _ (uh KA _ (uh D1)) (fun hHeld2 => ?_)
          clear hK KC hHeld
          (try simp only [Act.put, List.setIfInBounds_toArray, List.set_cons_zero, List.set_cons_succ])
          refine wpAnyH_ready (rs := [7]) (by kernel_rfl) (by simp) ?_
          refine AllReadyH.cons (o := { dst := some 67, op := _, type := _, pos := _, after := _, guard := _ }) rfl (fun KC hK => ?_) AllReadyH.nil
          go_simp
          refine hK.out _ _ (uh KA _ (uh D2)) (fun hHeld3 => ?_)
          clear hK KC hHeld2
          (try simp only [Act.put, List.setIfInBounds_toArray, List.set_cons_zero, List.set_cons_succ])
          refine wpAnyH_ready (rs := [8]) (by kernel_rfl) (by simp) ?_
          refine AllReadyH.cons (o := { dst := some 68, op := _, type := _, pos := _, after := _, guard := _ }) rfl (fun KC hK => ?_) AllReadyH.nil
          (refine step_append_rc atWd noAtA rfl (.tmp 61) (.tmp 67) 34 rfl w3 52 i1 _ 208 Try.underlying34 hi1 y1 z1 b1 rfl _ (skipR ats K n) (by simp [Act.eval]) ((uh hO).below (uh DD)) _ _ [(⟨en, ek, ef, ei, es, (ty, ds, fs, is, bs), ⟨pd, cd, pf, cf, pi, ci', pb, cb⟩, efs, epf, ecf, eis, epi, eci⟩ : AtA)] (by simp [Act.eval]) ((at1_8 rfl rfl).below (bdrew8 _)) (by rw [uh hm]; simp only [List.length_cons, List.length_nil]; unfold maxLen; omega) (by rw [uh hm]; simp only [List.length_cons, List.length_nil]; omega) ?_; intro v2 w5 O2 G2; have Z9 := hide (((uh hX9).below (uh DD)).grown8 ((uh hO).below (uh DD)) (by decide) G2); rw [← uh HRV] at O2; obtain ⟨q2, c2, e2, _⟩ := O2.form (z := noAtA) atWd; rw [uh HM1] at e2; subst e2; have K2 := hide O2.2; have z9 := (uh Z9).cell; have f9 := (uh Z9).frozen; have l9 := (uh Z9).lt; replace O2 := hide O2; clear G2)
          refine hK.out _ _ (uh KA _ (uh K2)) (fun hHeld4 => ?_)
          clear hK KC hHeld3
          (try simp only [Act.put, List.setIfInBounds_toArray, List.set_cons_zero, List.set_cons_succ])
          refine wpAnyH_take (i := 9) (oi := { dst := some 69, op := _, type := _, pos := _, after := _, guard := _ }) (v := ?vv7) rfl (by kernel_rfl) (by kernel_rfl) (by kernel_rfl) (fun _ _ _ h => h) (Or.inl ⟨by rfl, ?hy7⟩) (by assumption) ?rest7
          case hy7 => (intro w hSw; (try dsimp only at hSw); go_simp; (first | done | with_reducible rfl))
          (try simp only [Act.put, List.setIfInBounds_toArray, List.set_cons_zero, List.set_cons_succ])
          refine wpAnyH_ready (rs := [10]) (by kernel_rfl) (by simp) ?_
          refine AllReadyH.cons (o := { dst := none, op := _, type := _, pos := _, after := _, guard := _ }) rfl (fun KC hK => ?_) AllReadyH.nil
          go_simp
          refine hK.out _ _ (uh KA _ (Below.setCell (uh K2) (p := ⟨w3.heap.size, 4, none⟩) (Nat.le_refl _) _)) (fun hHeld5 => ?_)
          clear hK KC hHeld4
          (try simp only [Act.put, List.setIfInBounds_toArray, List.set_cons_zero, List.set_cons_succ])
          refine wpAnyH_done (by kernel_rfl) ?_ _
          go_wp2_with fail
          go_roundw
          case rel => exact ⟨n + 1, m + 1, by go_num, by omega, by omega, HM1, q2, c2, hide ((uh Z9).same 4 _), hide ((uh O2).set8 (uh Z9) (by decide) (Nat.le_refl _))⟩
          case measure => simp [intOf]; omega
        ·
          go_simp
          refine hK.out _ _ (uh KA _ (uh D2)) (fun hHeld2 => ?_)
          clear hK KC hHeld
          (try simp only [Act.put, List.setIfInBounds_toArray, List.set_cons_zero, List.set_cons_succ])
          refine wpAnyH_ready (rs := [1]) (by kernel_rfl) (by simp) ?_
          refine AllReadyH.cons (o := { dst := some 61, op := _, type := _, pos := _, after := _, guard := _ }) rfl (fun KC hK => ?_) AllReadyH.nil
          go_simp
          refine hK.out _ _ (uh KA _ (uh D2)) (fun hHeld3 => ?_)
          clear hK KC hHeld2
          (try simp only [Act.put, List.setIfInBounds_toArray, List.set_cons_zero, List.set_cons_succ])
          refine wpAnyH_ready (rs := [8]) (by kernel_rfl) (by simp) ?_
          refine AllReadyH.cons (o := { dst := some 68, op := _, type := _, pos := _, after := _, guard := _ }) rfl (fun KC hK => ?_) AllReadyH.nil
          (refine step_append_rc atWd noAtA rfl (.tmp 61) (.tmp 67) 34 rfl w3 52 i1 _ 208 Try.underlying34 hi1 y1 z1 b1 rfl _ (skipR ats K n) (by simp [Act.eval]) ((uh hO).below (uh DD)) _ _ [(⟨en, ek, ef, ei, es, (ty, ds, fs, is, bs), ⟨pd, cd, pf, cf, pi, ci', pb, cb⟩, efs, epf, ecf, eis, epi, eci⟩ : AtA)] (by simp [Act.eval]) ((at1_8 rfl rfl).below (bdrew8 _)) (by rw [uh hm]; simp only [List.length_cons, List.length_nil]; unfold maxLen; omega) (by rw [uh hm]; simp only [List.length_cons, List.length_nil]; omega) ?_; intro v2 w5 O2 G2; have Z9 := hide (((uh hX9).below (uh DD)).grown8 ((uh hO).below (uh DD)) (by decide) G2); rw [← uh HRV] at O2; obtain ⟨q2, c2, e2, _⟩ := O2.form (z := noAtA) atWd; rw [uh HM1] at e2; subst e2; have K2 := hide O2.2; have z9 := (uh Z9).cell; have f9 := (uh Z9).frozen; have l9 := (uh Z9).lt; replace O2 := hide O2; clear G2)
          refine hK.out _ _ (uh KA _ (uh K2)) (fun hHeld4 => ?_)
          clear hK KC hHeld3
          (try simp only [Act.put, List.setIfInBounds_toArray, List.set_cons_zero, List.set_cons_succ])
          refine wpAnyH_take (i := 9) (oi := { dst := some 69, op := _, type := _, pos := _, after := _, guard := _ }) (v := ?vv8) rfl (by kernel_rfl) (by kernel_rfl) (by kernel_rfl) (fun _ _ _ h => h) (Or.inl ⟨by rfl, ?hy8⟩) (by assumption) ?rest8
          case hy8 => (intro w hSw; (try dsimp only at hSw); go_simp; (first | done | with_reducible rfl))
          (try simp only [Act.put, List.setIfInBounds_toArray, List.set_cons_zero, List.set_cons_succ])
          refine wpAnyH_ready (rs := [10]) (by kernel_rfl) (by simp) ?_
          refine AllReadyH.cons (o := { dst := none, op := _, type := _, pos := _, after := _, guard := _ }) rfl (fun KC hK => ?_) AllReadyH.nil
          go_simp
          refine hK.out _ _ (uh KA _ (Below.setCell (uh K2) (p := ⟨w3.heap.size, 4, none⟩) (Nat.le_refl _) _)) (fun hHeld5 => ?_)
          clear hK KC hHeld4
          (try simp only [Act.put, List.setIfInBounds_toArray, List.set_cons_zero, List.set_cons_succ])
          refine wpAnyH_done (by kernel_rfl) ?_ _
          go_wp2_with fail
          go_roundw
          case rel => exact ⟨n + 1, m + 1, by go_num, by omega, by omega, HM1, q2, c2, hide ((uh Z9).same 4 _), hide ((uh O2).set8 (uh Z9) (by decide) (Nat.le_refl _))⟩
          case measure => simp [intOf]; omega
    · have hi : ¬ (n : Int) < (N : Int) := by omega
      have en : n = N := by omega
      rw [en] at hm hO
      clear en
      have hp : ats.Perm (skipR ats K N ++ [ats.getD K noAtA]) := by
        have h := skip_perm ats (k := K) (by rw [uh HLN]; exact hKN)
        rw [uh HLN] at h
        exact h
      obtain ⟨q', c', e', hN⟩ := NoIn.with8 (w0 := w3) ((uh HS0).below8 (bl_tr (uh B4) (uh BW))) (fun x hx => ((uh HS0).below8 (bl_tr (uh B4) (uh BW))).2.2.2.2.1 x (skip_mem hx)) (uh hO)
      rw [uh hm] at e'
      simp only [Value.slice.injEq, true_and] at e'
      obtain ⟨rfl, rfl⟩ := e'
      have CR2 := hide (cresolve8_any (NoA.put ⟨op, nm, ins, qi, ci, outs, qo, co, ats, some ⟨b5, o5, none⟩, ca⟩ (skipR ats K N) q c) W.heap.size wr hN (fun x hx => (uh HU0).1 x (skip_mem hx)))
      rw [show resV (NoA.put ⟨op, nm, ins, qi, ci, outs, qo, co, ats, some ⟨b5, o5, none⟩, ca⟩ (skipR ats K N) q c).d = resV (op, nm, ins, outs, (skipR ats K N).map AtA.d) from rfl] at CR2
      obtain ⟨R8, hR8⟩ : ∃ R, resV (op, nm, ins, outs, (skipR ats K N).map AtA.d) = R := ⟨_, rfl⟩
      have hpm := hp.map AtA.d
      rw [List.map_append] at hpm
      rw [hR8] at CR2
      obtain ⟨t1', t2, t3⟩ := R8
      have DF := dfl_all (uh HR) hpm hR8
      simp only [noCells, NoA.put, strV, uh hm] at CR2
      have hmn8 : m ≤ N := by omega
      clear hp hpm hR8 hN hmn hlt hn
      go_wp2_with fail
      refine (uh CR2).mono ?_
      rintro e w7 ⟨cs7, rfl, hs7, hb7⟩
      have HC7 := hide hs7.ones
      have HS7 := hide hs7
      have BW7 := hide (bl_tr (uh BW) hb7)
      have X97 := hide ((uh hX9).below hb7)
      have OW7 := hide ((uh hO).below hb7)
      have HOB : Hid (∀ k, (Value.slice q m c).ownBlock = some k → k < wr.heap.size) := hide (fun k hk => ((uh hO).1.lt k hk).2)
      have ZW : Hid (wr.heap.size ≤ w7.heap.size ∧ w3.heap.size < wr.heap.size) := hide ⟨hb7.size, (uh hX9).lt⟩
      clear hs7 hb7 CR2 x9 x0 hX9 hO Y0r BW
      rcases DF with h14 | ⟨h0, hd⟩
      · subst h14
        go_wp2_with (refine wpList_store8 rfl _ _ rfl rfl rfl (Box.new _ _ _) (uh HC7).1 rfl (uh HC7).2 ?_; intro w8 b8 s8 z8; have D8 := hide (bl_tr7 (al1p _ _) s8.1); have V13 := hide b8; clear b8 s8 z8)
        go_ret
        exact ⟨rfl, bl_tr (uh B4) (bl_tr (uh BW7) (uh D8))⟩
      · subst h0
        have hE := uh HC5 K (by rw [uh HLN]; exact hKN)
        have HIN : Hid (AtIn W.heap.size w3 (ats.getD K noAtA)) := hide (((uh HS0).below8 (uh B4)).2.2.2.2.1 _ (by rw [List.getD_eq_getElem?_getD, List.getElem?_eq_getElem (by rw [uh HLN]; exact hKN)]; exact List.getElem_mem _))
        have HUK : Hid (okT8 (ats.getD K noAtA).T) := hide ((uh HU0).1 _ (by rw [List.getD_eq_getElem?_getD, List.getElem?_eq_getElem (by rw [uh HLN]; exact hKN)]; exact List.getElem_mem _))
        obtain ⟨a, ha⟩ : ∃ a, ats.getD K noAtA = a := ⟨_, rfl⟩
        rw [ha] at hE HIN HUK hd
        obtain ⟨en, ek, ef, ei, es, ⟨ty, ds, fs, is, bs⟩, ⟨pd, cd, pf, cf, pi, ci', pb, cb⟩, efs, epf, ecf, eis, epi, eci⟩ := a
        have KA : Hid (∀ v, Below w3.heap.size w3 v → (∀ j, v.cell? ⟨W.heap.size, j, none⟩ = (#[.string (strOfNums op), .string (strOfNums nm), .slice qi ins.length ci, .slice qo outs.length co, .slice (some ⟨b5, o5, none⟩) N ca] : Array Value)[j]?) ∧ v.cell? ⟨b5, o5 + K * 12, none⟩ = some (.string (strOfNums en)) ∧ v.cell? ⟨b5, o5 + K * 12 + 1, none⟩ = some (.int .i64 ek) ∧ v.cell? ⟨b5, o5 + K * 12 + 2, none⟩ = some (.int .u32 ef) ∧ v.cell? ⟨b5, o5 + K * 12 + 3, none⟩ = some (.int .i64 ei) ∧ v.cell? ⟨b5, o5 + K * 12 + 4, none⟩ = some (.string (strOfNums es)) ∧ v.cell? ⟨b5, o5 + K * 12 + 5, none⟩ = some (.int .i64 ty) ∧ v.cell? ⟨b5, o5 + K * 12 + 6, none⟩ = some (.slice pd ds.length cd) ∧ v.cell? ⟨b5, o5 + K * 12 + 7, none⟩ = some (.slice pf fs.length cf) ∧ v.cell? ⟨b5, o5 + K * 12 + 8, none⟩ = some (.slice pi is.length ci') ∧ v.cell? ⟨b5, o5 + K * 12 + 9, none⟩ = some (.slice pb bs.length cb) ∧ v.cell? ⟨b5, o5 + K * 12 + 10, none⟩ = some (.slice epf efs.length ecf) ∧ v.cell? ⟨b5, o5 + K * 12 + 11, none⟩ = some (.slice epi eis.length eci)) := hide (fun v hv => ⟨((uh Y0).below hv).cell, (by have h := (World.cell?_of_block (hv.block b5 hb5)).trans (hE 0 _ rfl); simpa [strV] using h), (World.cell?_of_block (hv.block b5 hb5)).trans (hE 1 _ rfl), (World.cell?_of_block (hv.block b5 hb5)).trans (hE 2 _ rfl), (World.cell?_of_block (hv.block b5 hb5)).trans (hE 3 _ rfl), (World.cell?_of_block (hv.block b5 hb5)).trans (hE 4 _ rfl), (World.cell?_of_block (hv.block b5 hb5)).trans (hE 5 _ rfl), (World.cell?_of_block (hv.block b5 hb5)).trans (hE 6 _ rfl), (World.cell?_of_block (hv.block b5 hb5)).trans (hE 7 _ rfl), (World.cell?_of_block (hv.block b5 hb5)).trans (hE 8 _ rfl), (World.cell?_of_block (hv.block b5 hb5)).trans (hE 9 _ rfl), (World.cell?_of_block (hv.block b5 hb5)).trans (hE 10 _ rfl), (World.cell?_of_block (hv.block b5 hb5)).trans (hE 11 _ rfl)⟩)
        have HD := hide hd
        have HNM := hide (uh HIN).1
        have hKi : (K : Int) < (N : Int) := by omega
        have ZX : Hid (W.heap.size < w3.heap.size) := hide (uh Y0).lt
        obtain ⟨i1, hi1, y1, z1, b1⟩ := info_parts Try.info8Attr
        clear hE ha hd
        by_cases e0 : en = [97, 120, 105, 115]
        ·
          have n0 : ((strOfNums en).toList == [97, 120, 105, 115]) = true := lit_yes8 (uh HNM) [97, 120, 105, 115] rfl _ rfl e0
          have HD2 := uh HD (AtA.d ⟨en, ek, ef, (t2 0).x, es, (ty, ds, fs, is, bs), ⟨pd, cd, pf, cf, pi, ci', pb, cb⟩, efs, epf, ecf, eis, epi, eci⟩) (by show dflA t2 (en, ek, ef, ei, es, (ty, ds, fs, is, bs), efs, eis) = some _; unfold dflA; simp only; rw [if_pos e0]; rfl)
          have hs16 := hide HD2.2
          have HRV9 : Hid (∀ q c, resV (NoA.put ⟨op, nm, ins, qi, ci, outs, qo, co, ats, some ⟨b5, o5, none⟩, ca⟩ (skipR ats K N ++ [(⟨en, ek, ef, (t2 0).x, es, (ty, ds, fs, is, bs), ⟨pd, cd, pf, cf, pi, ci', pb, cb⟩, efs, epf, ecf, eis, epi, eci⟩ : AtA)]) q c).d = (r1, t2, 0)) := hide (fun q c => by
            show resV (op, nm, ins, outs, (skipR ats K N ++ [(⟨en, ek, ef, (t2 0).x, es, (ty, ds, fs, is, bs), ⟨pd, cd, pf, cf, pi, ci', pb, cb⟩, efs, epf, ecf, eis, epi, eci⟩ : AtA)]).map AtA.d) = _
            rw [List.map_append]
            exact HD2.1)
          have HA2 : Hid (∀ v, Below w3.heap.size w3 v → AtIn W.heap.size v ⟨en, ek, ef, (t2 0).x, es, (ty, ds, fs, is, bs), ⟨pd, cd, pf, cf, pi, ci', pb, cb⟩, efs, epf, ecf, eis, epi, eci⟩) := hide (fun v hv => by
            have h := (uh HIN).below8 hv
            exact ⟨h.1, h.2.1, h.2.2.1, (uh HS7).i8 (k := 0) (by omega) rfl, h.2.2.2.2⟩)
          have HM9 : Hid ((skipR ats K N ++ [(⟨en, ek, ef, (t2 0).x, es, (ty, ds, fs, is, bs), ⟨pd, cd, pf, cf, pi, ci', pb, cb⟩, efs, epf, ecf, eis, epi, eci⟩ : AtA)]).length = m + 1) := hide (by rw [List.length_append, uh hm]; rfl)
          clear HD2 e0
          go_wp2_with (first
            | (refine wpList_store8 rfl _ _ rfl rfl rfl (Box.new _ _ _) (uh HC7).1 rfl (uh HC7).2 ?_; intro w8 b8 s8 z8; have D8 := hide (bl_tr7 (al1p _ _) s8.1); have V13 := hide b8; have kx := (box_i8 b8 ((uh HS7).below (uh D8)) (k := 0) (by omega) rfl).1; have g13 := b8.lt; have B8 := hide (bl_tr (uh BW7) (uh D8)); have X98 := hide ((uh X97).below (uh D8)); have x9 := (uh X98).cell; have g9 := (uh X98).lt; obtain ⟨x0, k0, k1, k2, k3, k4, k5, k6, k7, k8, k9, k10, k11⟩ := uh KA _ (uh B8); clear b8 s8 z8)
            | (at_builtin; (refine wpList_append_rc atWd noAtA rfl _ _ 34 rfl w3 52 i1 _ 208 Try.underlying34 hi1 y1 z1 b1 rfl _ (skipR ats K N) rfl ((uh OW7).below (bl_tr (uh D8) (bl_tr (al1p _ _) (al1p _ _)))) _ _ [(⟨en, ek, ef, (t2 0).x, es, (ty, ds, fs, is, bs), ⟨pd, cd, pf, cf, pi, ci', pb, cb⟩, efs, epf, ecf, eis, epi, eci⟩ : AtA)] rfl (at1_8 (k := w8.heap.size + 1) (by simp) rfl) (by rw [uh hm]; simp only [List.length_cons, List.length_nil]; unfold maxLen; omega) (by rw [uh hm]; simp only [List.length_cons, List.length_nil]; omega) ?_; intro v9 w9 O9 G9; have Z9 := hide (((uh X98).below (bl_tr (al1p _ _) (al1p _ _))).grown8 ((uh OW7).below (bl_tr (uh D8) (bl_tr (al1p _ _) (al1p _ _)))) (by decide) G9); have HK9 : Hid (∀ k, wr.heap.size ≤ k → k < w8.heap.size → w9.heap[k]? = w8.heap[k]?) := hide (fun k h1 h2 => (G9.block k (by simp; omega) (fun e => by have := uh HOB k e.symm; omega)).trans ((bl_tr (al1p _ _) (al1p _ _)).block k h2)); have HS9 : Hid (w8.heap.size ≤ w9.heap.size) := hide (Nat.le_trans (by simp; omega) G9.size); obtain ⟨q9, c9, e9, N9⟩ := NoIn.with8 ((uh HS0).below8 (bl_tr (uh B4) O9.2)) (w0 := w3) (fun x hx => (List.mem_append.1 hx).elim (fun h => ((uh HS0).below8 (bl_tr (uh B4) O9.2)).2.2.2.2.1 x (skip_mem h)) (fun h => by rw [List.mem_singleton.1 h]; exact uh HA2 _ O9.2)) O9; rw [uh HM9] at e9; subst e9; have CR3 := hide (cresolve8_any (NoA.put ⟨op, nm, ins, qi, ci, outs, qo, co, ats, some ⟨b5, o5, none⟩, ca⟩ (skipR ats K N ++ [(⟨en, ek, ef, (t2 0).x, es, (ty, ds, fs, is, bs), ⟨pd, cd, pf, cf, pi, ci', pb, cb⟩, efs, epf, ecf, eis, epi, eci⟩ : AtA)]) q9 c9) W.heap.size _ (N9.set8 (j := 4) (u := .slice q9 (m + 1) c9) (uh Z9) (by have := uh ZX; omega)) (fun x hx => (List.mem_append.1 hx).elim (fun h => (uh HU0).1 x (skip_mem h)) (fun h => by rw [List.mem_singleton.1 h]; exact uh HUK))); rw [uh HRV9 q9 c9] at CR3; simp only [noCells, NoA.put, strV, uh HM9] at CR3; have B9 := hide (Below.setCell O9.2 (p := ⟨w3.heap.size, 4, none⟩) (Nat.le_refl _) (.slice q9 (m + 1) c9)); have z9 := (uh Z9).cell; have f9 := (uh Z9).frozen; have l9 := (uh Z9).lt; clear O9 G9 N9)))
          refine (uh CR3).mono ?_
          rintro e w11 ⟨cs11, rfl, hs11, hb11⟩
          have HC11 := hide hs11.ones
          have HS11 := hide hs11
          have BY : Hid (Below w3.heap.size w3 w11) := hide (bl_tr (uh B9) hb11)
          have HK11 : Hid (∀ k, wr.heap.size ≤ k → k < w8.heap.size → w11.heap[k]? = w8.heap[k]?) := hide (fun k h1 h2 => by
            have z := uh HS9
            have z2 := uh ZW
            have e1 : (w9.setCell ⟨w3.heap.size, 4, none⟩ (.slice q9 (m + 1) c9)).heap[k]? = w9.heap[k]? := Below.heap_setCell _ _ _ _ (by simp only; omega)
            exact ((hb11.block k (by simp [World.setCell]; omega)).trans e1).trans (uh HK9 k h1 h2))
          have HZ11 : Hid (w8.heap.size ≤ w11.heap.size) := hide (by have := hb11.size; simp [World.setCell] at this; have := uh HS9; omega)
          have T7 := hide (((uh HS7).below (uh D8)).hold (uh HZ11) (uh HK11))
          have V13b : Hid (Box w11 w7.heap.size cs7 45) := hide ((uh HK11 _ (uh ZW).1 (uh V13).lt).trans (uh V13))
          have Y7b := hide ((uh Y7).below (uh BY))
          have u3 : ((0 : Int) == 0) = true := rfl
          clear hs11 hb11 CR3 HK9 HK11 HRV9 HA2 x9 z9 f9 l9
          go_wp2_with (first | (refine wpList_store8 rfl _ _ rfl rfl rfl (Box.new _ _ _) (uh HC11).1 rfl (uh HC11).2 ?_; intro w12 b12 s12 z12; have D12 := hide (bl_tr7 (al1p _ _) s12.1); have V17 := hide b12; have V13c := hide ((uh V13b).below (uh D12)); have Y7c := hide ((uh Y7b).below (uh D12)); clear b12 s12 z12) | (refine wpList_load8g (by rfl) _ rfl rfl (uh V13c) (uh HC7).1 ?_) | (refine wpList_load8g (by rfl) _ rfl rfl (uh V17) (uh HC11).1 ?_))
          refine (csame8_any _ ((uh T7).below (uh D12)) ((uh HS11).below (uh D12))).mono ?_
          rintro e w13 ⟨rfl, hb13⟩
          have ka := (box_i8 ((uh Y7c).below hb13) (uh HS2) (k := 16) (by omega) rfl).1
          have kb := (box_i8 ((uh V13c).below hb13) (uh HS7) (k := 16) (by omega) rfl).1
          rw [uh hs16] at ka
          obtain ⟨sx, hsx⟩ : ∃ s, (t2 16).x = s := ⟨_, rfl⟩
          rw [hsx] at ka kb
          clear hsx
          have ts : (sx == sx) = true := by simp
          have B13 := hide (bl_tr (uh B4) (bl_tr (bl_tr (uh BY) (uh D12)) hb13))
          clear hb13
          go_wp2_with fail
          go_ret
          exact ⟨rfl, uh B13⟩
        by_cases e1 : en = [97, 108, 112, 104, 97]
        ·
          have n0 : ((strOfNums en).toList == [97, 120, 105, 115]) = false := lit_no8 (uh HNM) [97, 120, 105, 115] rfl _ rfl e0
          have n1 : ((strOfNums en).toList == [97, 108, 112, 104, 97]) = true := lit_yes8 (uh HNM) [97, 108, 112, 104, 97] rfl _ rfl e1
          have HD2 := uh HD (AtA.d ⟨en, ek, (t2 9).x, ei, es, (ty, ds, fs, is, bs), ⟨pd, cd, pf, cf, pi, ci', pb, cb⟩, efs, epf, ecf, eis, epi, eci⟩) (by show dflA t2 (en, ek, ef, ei, es, (ty, ds, fs, is, bs), efs, eis) = some _; unfold dflA; simp only; rw [if_neg e0, if_pos e1]; rfl)
          have hs16 := hide HD2.2
          have HRV9 : Hid (∀ q c, resV (NoA.put ⟨op, nm, ins, qi, ci, outs, qo, co, ats, some ⟨b5, o5, none⟩, ca⟩ (skipR ats K N ++ [(⟨en, ek, (t2 9).x, ei, es, (ty, ds, fs, is, bs), ⟨pd, cd, pf, cf, pi, ci', pb, cb⟩, efs, epf, ecf, eis, epi, eci⟩ : AtA)]) q c).d = (r1, t2, 0)) := hide (fun q c => by
            show resV (op, nm, ins, outs, (skipR ats K N ++ [(⟨en, ek, (t2 9).x, ei, es, (ty, ds, fs, is, bs), ⟨pd, cd, pf, cf, pi, ci', pb, cb⟩, efs, epf, ecf, eis, epi, eci⟩ : AtA)]).map AtA.d) = _
            rw [List.map_append]
            exact HD2.1)
          have HA2 : Hid (∀ v, Below w3.heap.size w3 v → AtIn W.heap.size v ⟨en, ek, (t2 9).x, ei, es, (ty, ds, fs, is, bs), ⟨pd, cd, pf, cf, pi, ci', pb, cb⟩, efs, epf, ecf, eis, epi, eci⟩) := hide (fun v hv => by
            have h := (uh HIN).below8 hv
            exact ⟨h.1, h.2.1, (uh HS7).u8 (k := 9) (by omega) rfl, h.2.2.2.1, h.2.2.2.2⟩)
          have HM9 : Hid ((skipR ats K N ++ [(⟨en, ek, (t2 9).x, ei, es, (ty, ds, fs, is, bs), ⟨pd, cd, pf, cf, pi, ci', pb, cb⟩, efs, epf, ecf, eis, epi, eci⟩ : AtA)]).length = m + 1) := hide (by rw [List.length_append, uh hm]; rfl)
          clear HD2 e0 e1
          go_wp2_with (first
            | (refine wpList_store8 rfl _ _ rfl rfl rfl (Box.new _ _ _) (uh HC7).1 rfl (uh HC7).2 ?_; intro w8 b8 s8 z8; have D8 := hide (bl_tr7 (al1p _ _) s8.1); have V13 := hide b8; have kx := (box_u8 b8 ((uh HS7).below (uh D8)) (k := 9) (by omega) rfl).1; have g13 := b8.lt; have B8 := hide (bl_tr (uh BW7) (uh D8)); have X98 := hide ((uh X97).below (uh D8)); have x9 := (uh X98).cell; have g9 := (uh X98).lt; obtain ⟨x0, k0, k1, k2, k3, k4, k5, k6, k7, k8, k9, k10, k11⟩ := uh KA _ (uh B8); clear b8 s8 z8)
            | (at_builtin; (refine wpList_append_rc atWd noAtA rfl _ _ 34 rfl w3 52 i1 _ 208 Try.underlying34 hi1 y1 z1 b1 rfl _ (skipR ats K N) rfl ((uh OW7).below (bl_tr (uh D8) (bl_tr (al1p _ _) (al1p _ _)))) _ _ [(⟨en, ek, (t2 9).x, ei, es, (ty, ds, fs, is, bs), ⟨pd, cd, pf, cf, pi, ci', pb, cb⟩, efs, epf, ecf, eis, epi, eci⟩ : AtA)] rfl (at1_8 (k := w8.heap.size + 1) (by simp) rfl) (by rw [uh hm]; simp only [List.length_cons, List.length_nil]; unfold maxLen; omega) (by rw [uh hm]; simp only [List.length_cons, List.length_nil]; omega) ?_; intro v9 w9 O9 G9; have Z9 := hide (((uh X98).below (bl_tr (al1p _ _) (al1p _ _))).grown8 ((uh OW7).below (bl_tr (uh D8) (bl_tr (al1p _ _) (al1p _ _)))) (by decide) G9); have HK9 : Hid (∀ k, wr.heap.size ≤ k → k < w8.heap.size → w9.heap[k]? = w8.heap[k]?) := hide (fun k h1 h2 => (G9.block k (by simp; omega) (fun e => by have := uh HOB k e.symm; omega)).trans ((bl_tr (al1p _ _) (al1p _ _)).block k h2)); have HS9 : Hid (w8.heap.size ≤ w9.heap.size) := hide (Nat.le_trans (by simp; omega) G9.size); obtain ⟨q9, c9, e9, N9⟩ := NoIn.with8 ((uh HS0).below8 (bl_tr (uh B4) O9.2)) (w0 := w3) (fun x hx => (List.mem_append.1 hx).elim (fun h => ((uh HS0).below8 (bl_tr (uh B4) O9.2)).2.2.2.2.1 x (skip_mem h)) (fun h => by rw [List.mem_singleton.1 h]; exact uh HA2 _ O9.2)) O9; rw [uh HM9] at e9; subst e9; have CR3 := hide (cresolve8_any (NoA.put ⟨op, nm, ins, qi, ci, outs, qo, co, ats, some ⟨b5, o5, none⟩, ca⟩ (skipR ats K N ++ [(⟨en, ek, (t2 9).x, ei, es, (ty, ds, fs, is, bs), ⟨pd, cd, pf, cf, pi, ci', pb, cb⟩, efs, epf, ecf, eis, epi, eci⟩ : AtA)]) q9 c9) W.heap.size _ (N9.set8 (j := 4) (u := .slice q9 (m + 1) c9) (uh Z9) (by have := uh ZX; omega)) (fun x hx => (List.mem_append.1 hx).elim (fun h => (uh HU0).1 x (skip_mem h)) (fun h => by rw [List.mem_singleton.1 h]; exact uh HUK))); rw [uh HRV9 q9 c9] at CR3; simp only [noCells, NoA.put, strV, uh HM9] at CR3; have B9 := hide (Below.setCell O9.2 (p := ⟨w3.heap.size, 4, none⟩) (Nat.le_refl _) (.slice q9 (m + 1) c9)); have z9 := (uh Z9).cell; have f9 := (uh Z9).frozen; have l9 := (uh Z9).lt; clear O9 G9 N9)))
          refine (uh CR3).mono ?_
          rintro e w11 ⟨cs11, rfl, hs11, hb11⟩
          have HC11 := hide hs11.ones
          have HS11 := hide hs11
          have BY : Hid (Below w3.heap.size w3 w11) := hide (bl_tr (uh B9) hb11)
          have HK11 : Hid (∀ k, wr.heap.size ≤ k → k < w8.heap.size → w11.heap[k]? = w8.heap[k]?) := hide (fun k h1 h2 => by
            have z := uh HS9
            have z2 := uh ZW
            have e1 : (w9.setCell ⟨w3.heap.size, 4, none⟩ (.slice q9 (m + 1) c9)).heap[k]? = w9.heap[k]? := Below.heap_setCell _ _ _ _ (by simp only; omega)
            exact ((hb11.block k (by simp [World.setCell]; omega)).trans e1).trans (uh HK9 k h1 h2))
          have HZ11 : Hid (w8.heap.size ≤ w11.heap.size) := hide (by have := hb11.size; simp [World.setCell] at this; have := uh HS9; omega)
          have T7 := hide (((uh HS7).below (uh D8)).hold (uh HZ11) (uh HK11))
          have V13b : Hid (Box w11 w7.heap.size cs7 45) := hide ((uh HK11 _ (uh ZW).1 (uh V13).lt).trans (uh V13))
          have Y7b := hide ((uh Y7).below (uh BY))
          have u3 : ((0 : Int) == 0) = true := rfl
          clear hs11 hb11 CR3 HK9 HK11 HRV9 HA2 x9 z9 f9 l9
          go_wp2_with (first | (refine wpList_store8 rfl _ _ rfl rfl rfl (Box.new _ _ _) (uh HC11).1 rfl (uh HC11).2 ?_; intro w12 b12 s12 z12; have D12 := hide (bl_tr7 (al1p _ _) s12.1); have V17 := hide b12; have V13c := hide ((uh V13b).below (uh D12)); have Y7c := hide ((uh Y7b).below (uh D12)); clear b12 s12 z12) | (refine wpList_load8g (by rfl) _ rfl rfl (uh V13c) (uh HC7).1 ?_) | (refine wpList_load8g (by rfl) _ rfl rfl (uh V17) (uh HC11).1 ?_))
          refine (csame8_any _ ((uh T7).below (uh D12)) ((uh HS11).below (uh D12))).mono ?_
          rintro e w13 ⟨rfl, hb13⟩
          have ka := (box_i8 ((uh Y7c).below hb13) (uh HS2) (k := 16) (by omega) rfl).1
          have kb := (box_i8 ((uh V13c).below hb13) (uh HS7) (k := 16) (by omega) rfl).1
          rw [uh hs16] at ka
          obtain ⟨sx, hsx⟩ : ∃ s, (t2 16).x = s := ⟨_, rfl⟩
          rw [hsx] at ka kb
          clear hsx
          have ts : (sx == sx) = true := by simp
          have B13 := hide (bl_tr (uh B4) (bl_tr (bl_tr (uh BY) (uh D12)) hb13))
          clear hb13
          go_wp2_with fail
          go_ret
          exact ⟨rfl, uh B13⟩
        by_cases e2 : en = [98, 101, 116, 97]
        ·
          have n0 : ((strOfNums en).toList == [97, 120, 105, 115]) = false := lit_no8 (uh HNM) [97, 120, 105, 115] rfl _ rfl e0
          have n1 : ((strOfNums en).toList == [97, 108, 112, 104, 97]) = false := lit_no8 (uh HNM) [97, 108, 112, 104, 97] rfl _ rfl e1
          have n2 : ((strOfNums en).toList == [98, 101, 116, 97]) = true := lit_yes8 (uh HNM) [98, 101, 116, 97] rfl _ rfl e2
          have HD2 := uh HD (AtA.d ⟨en, ek, (t2 10).x, ei, es, (ty, ds, fs, is, bs), ⟨pd, cd, pf, cf, pi, ci', pb, cb⟩, efs, epf, ecf, eis, epi, eci⟩) (by show dflA t2 (en, ek, ef, ei, es, (ty, ds, fs, is, bs), efs, eis) = some _; unfold dflA; simp only; rw [if_neg e0, if_neg e1, if_pos e2]; rfl)
          have hs16 := hide HD2.2
          have HRV9 : Hid (∀ q c, resV (NoA.put ⟨op, nm, ins, qi, ci, outs, qo, co, ats, some ⟨b5, o5, none⟩, ca⟩ (skipR ats K N ++ [(⟨en, ek, (t2 10).x, ei, es, (ty, ds, fs, is, bs), ⟨pd, cd, pf, cf, pi, ci', pb, cb⟩, efs, epf, ecf, eis, epi, eci⟩ : AtA)]) q c).d = (r1, t2, 0)) := hide (fun q c => by
            show resV (op, nm, ins, outs, (skipR ats K N ++ [(⟨en, ek, (t2 10).x, ei, es, (ty, ds, fs, is, bs), ⟨pd, cd, pf, cf, pi, ci', pb, cb⟩, efs, epf, ecf, eis, epi, eci⟩ : AtA)]).map AtA.d) = _
            rw [List.map_append]
            exact HD2.1)
          have HA2 : Hid (∀ v, Below w3.heap.size w3 v → AtIn W.heap.size v ⟨en, ek, (t2 10).x, ei, es, (ty, ds, fs, is, bs), ⟨pd, cd, pf, cf, pi, ci', pb, cb⟩, efs, epf, ecf, eis, epi, eci⟩) := hide (fun v hv => by
            have h := (uh HIN).below8 hv
            exact ⟨h.1, h.2.1, (uh HS7).u8 (k := 10) (by omega) rfl, h.2.2.2.1, h.2.2.2.2⟩)
          have HM9 : Hid ((skipR ats K N ++ [(⟨en, ek, (t2 10).x, ei, es, (ty, ds, fs, is, bs), ⟨pd, cd, pf, cf, pi, ci', pb, cb⟩, efs, epf, ecf, eis, epi, eci⟩ : AtA)]).length = m + 1) := hide (by rw [List.length_append, uh hm]; rfl)
          clear HD2 e0 e1 e2
          go_wp2_with (first
            | (refine wpList_store8 rfl _ _ rfl rfl rfl (Box.new _ _ _) (uh HC7).1 rfl (uh HC7).2 ?_; intro w8 b8 s8 z8; have D8 := hide (bl_tr7 (al1p _ _) s8.1); have V13 := hide b8; have kx := (box_u8 b8 ((uh HS7).below (uh D8)) (k := 10) (by omega) rfl).1; have g13 := b8.lt; have B8 := hide (bl_tr (uh BW7) (uh D8)); have X98 := hide ((uh X97).below (uh D8)); have x9 := (uh X98).cell; have g9 := (uh X98).lt; obtain ⟨x0, k0, k1, k2, k3, k4, k5, k6, k7, k8, k9, k10, k11⟩ := uh KA _ (uh B8); clear b8 s8 z8)
            | (at_builtin; (refine wpList_append_rc atWd noAtA rfl _ _ 34 rfl w3 52 i1 _ 208 Try.underlying34 hi1 y1 z1 b1 rfl _ (skipR ats K N) rfl ((uh OW7).below (bl_tr (uh D8) (bl_tr (al1p _ _) (al1p _ _)))) _ _ [(⟨en, ek, (t2 10).x, ei, es, (ty, ds, fs, is, bs), ⟨pd, cd, pf, cf, pi, ci', pb, cb⟩, efs, epf, ecf, eis, epi, eci⟩ : AtA)] rfl (at1_8 (k := w8.heap.size + 1) (by simp) rfl) (by rw [uh hm]; simp only [List.length_cons, List.length_nil]; unfold maxLen; omega) (by rw [uh hm]; simp only [List.length_cons, List.length_nil]; omega) ?_; intro v9 w9 O9 G9; have Z9 := hide (((uh X98).below (bl_tr (al1p _ _) (al1p _ _))).grown8 ((uh OW7).below (bl_tr (uh D8) (bl_tr (al1p _ _) (al1p _ _)))) (by decide) G9); have HK9 : Hid (∀ k, wr.heap.size ≤ k → k < w8.heap.size → w9.heap[k]? = w8.heap[k]?) := hide (fun k h1 h2 => (G9.block k (by simp; omega) (fun e => by have := uh HOB k e.symm; omega)).trans ((bl_tr (al1p _ _) (al1p _ _)).block k h2)); have HS9 : Hid (w8.heap.size ≤ w9.heap.size) := hide (Nat.le_trans (by simp; omega) G9.size); obtain ⟨q9, c9, e9, N9⟩ := NoIn.with8 ((uh HS0).below8 (bl_tr (uh B4) O9.2)) (w0 := w3) (fun x hx => (List.mem_append.1 hx).elim (fun h => ((uh HS0).below8 (bl_tr (uh B4) O9.2)).2.2.2.2.1 x (skip_mem h)) (fun h => by rw [List.mem_singleton.1 h]; exact uh HA2 _ O9.2)) O9; rw [uh HM9] at e9; subst e9; have CR3 := hide (cresolve8_any (NoA.put ⟨op, nm, ins, qi, ci, outs, qo, co, ats, some ⟨b5, o5, none⟩, ca⟩ (skipR ats K N ++ [(⟨en, ek, (t2 10).x, ei, es, (ty, ds, fs, is, bs), ⟨pd, cd, pf, cf, pi, ci', pb, cb⟩, efs, epf, ecf, eis, epi, eci⟩ : AtA)]) q9 c9) W.heap.size _ (N9.set8 (j := 4) (u := .slice q9 (m + 1) c9) (uh Z9) (by have := uh ZX; omega)) (fun x hx => (List.mem_append.1 hx).elim (fun h => (uh HU0).1 x (skip_mem h)) (fun h => by rw [List.mem_singleton.1 h]; exact uh HUK))); rw [uh HRV9 q9 c9] at CR3; simp only [noCells, NoA.put, strV, uh HM9] at CR3; have B9 := hide (Below.setCell O9.2 (p := ⟨w3.heap.size, 4, none⟩) (Nat.le_refl _) (.slice q9 (m + 1) c9)); have z9 := (uh Z9).cell; have f9 := (uh Z9).frozen; have l9 := (uh Z9).lt; clear O9 G9 N9)))
          refine (uh CR3).mono ?_
          rintro e w11 ⟨cs11, rfl, hs11, hb11⟩
          have HC11 := hide hs11.ones
          have HS11 := hide hs11
          have BY : Hid (Below w3.heap.size w3 w11) := hide (bl_tr (uh B9) hb11)
          have HK11 : Hid (∀ k, wr.heap.size ≤ k → k < w8.heap.size → w11.heap[k]? = w8.heap[k]?) := hide (fun k h1 h2 => by
            have z := uh HS9
            have z2 := uh ZW
            have e1 : (w9.setCell ⟨w3.heap.size, 4, none⟩ (.slice q9 (m + 1) c9)).heap[k]? = w9.heap[k]? := Below.heap_setCell _ _ _ _ (by simp only; omega)
            exact ((hb11.block k (by simp [World.setCell]; omega)).trans e1).trans (uh HK9 k h1 h2))
          have HZ11 : Hid (w8.heap.size ≤ w11.heap.size) := hide (by have := hb11.size; simp [World.setCell] at this; have := uh HS9; omega)
          have T7 := hide (((uh HS7).below (uh D8)).hold (uh HZ11) (uh HK11))
          have V13b : Hid (Box w11 w7.heap.size cs7 45) := hide ((uh HK11 _ (uh ZW).1 (uh V13).lt).trans (uh V13))
          have Y7b := hide ((uh Y7).below (uh BY))
          have u3 : ((0 : Int) == 0) = true := rfl
          clear hs11 hb11 CR3 HK9 HK11 HRV9 HA2 x9 z9 f9 l9
          go_wp2_with (first | (refine wpList_store8 rfl _ _ rfl rfl rfl (Box.new _ _ _) (uh HC11).1 rfl (uh HC11).2 ?_; intro w12 b12 s12 z12; have D12 := hide (bl_tr7 (al1p _ _) s12.1); have V17 := hide b12; have V13c := hide ((uh V13b).below (uh D12)); have Y7c := hide ((uh Y7b).below (uh D12)); clear b12 s12 z12) | (refine wpList_load8g (by rfl) _ rfl rfl (uh V13c) (uh HC7).1 ?_) | (refine wpList_load8g (by rfl) _ rfl rfl (uh V17) (uh HC11).1 ?_))
          refine (csame8_any _ ((uh T7).below (uh D12)) ((uh HS11).below (uh D12))).mono ?_
          rintro e w13 ⟨rfl, hb13⟩
          have ka := (box_i8 ((uh Y7c).below hb13) (uh HS2) (k := 16) (by omega) rfl).1
          have kb := (box_i8 ((uh V13c).below hb13) (uh HS7) (k := 16) (by omega) rfl).1
          rw [uh hs16] at ka
          obtain ⟨sx, hsx⟩ : ∃ s, (t2 16).x = s := ⟨_, rfl⟩
          rw [hsx] at ka kb
          clear hsx
          have ts : (sx == sx) = true := by simp
          have B13 := hide (bl_tr (uh B4) (bl_tr (bl_tr (uh BY) (uh D12)) hb13))
          clear hb13
          go_wp2_with fail
          go_ret
          exact ⟨rfl, uh B13⟩
        by_cases e3 : en = [101, 112, 115, 105, 108, 111, 110]
        ·
          have n0 : ((strOfNums en).toList == [97, 120, 105, 115]) = false := lit_no8 (uh HNM) [97, 120, 105, 115] rfl _ rfl e0
          have n1 : ((strOfNums en).toList == [97, 108, 112, 104, 97]) = false := lit_no8 (uh HNM) [97, 108, 112, 104, 97] rfl _ rfl e1
          have n2 : ((strOfNums en).toList == [98, 101, 116, 97]) = false := lit_no8 (uh HNM) [98, 101, 116, 97] rfl _ rfl e2
          have n3 : ((strOfNums en).toList == [101, 112, 115, 105, 108, 111, 110]) = true := lit_yes8 (uh HNM) [101, 112, 115, 105, 108, 111, 110] rfl _ rfl e3
          have HD2 := uh HD (AtA.d ⟨en, ek, (t2 11).x, ei, es, (ty, ds, fs, is, bs), ⟨pd, cd, pf, cf, pi, ci', pb, cb⟩, efs, epf, ecf, eis, epi, eci⟩) (by show dflA t2 (en, ek, ef, ei, es, (ty, ds, fs, is, bs), efs, eis) = some _; unfold dflA; simp only; rw [if_neg e0, if_neg e1, if_neg e2, if_pos e3]; rfl)
          have hs16 := hide HD2.2
          have HRV9 : Hid (∀ q c, resV (NoA.put ⟨op, nm, ins, qi, ci, outs, qo, co, ats, some ⟨b5, o5, none⟩, ca⟩ (skipR ats K N ++ [(⟨en, ek, (t2 11).x, ei, es, (ty, ds, fs, is, bs), ⟨pd, cd, pf, cf, pi, ci', pb, cb⟩, efs, epf, ecf, eis, epi, eci⟩ : AtA)]) q c).d = (r1, t2, 0)) := hide (fun q c => by
            show resV (op, nm, ins, outs, (skipR ats K N ++ [(⟨en, ek, (t2 11).x, ei, es, (ty, ds, fs, is, bs), ⟨pd, cd, pf, cf, pi, ci', pb, cb⟩, efs, epf, ecf, eis, epi, eci⟩ : AtA)]).map AtA.d) = _
            rw [List.map_append]
            exact HD2.1)
          have HA2 : Hid (∀ v, Below w3.heap.size w3 v → AtIn W.heap.size v ⟨en, ek, (t2 11).x, ei, es, (ty, ds, fs, is, bs), ⟨pd, cd, pf, cf, pi, ci', pb, cb⟩, efs, epf, ecf, eis, epi, eci⟩) := hide (fun v hv => by
            have h := (uh HIN).below8 hv
            exact ⟨h.1, h.2.1, (uh HS7).u8 (k := 11) (by omega) rfl, h.2.2.2.1, h.2.2.2.2⟩)
          have HM9 : Hid ((skipR ats K N ++ [(⟨en, ek, (t2 11).x, ei, es, (ty, ds, fs, is, bs), ⟨pd, cd, pf, cf, pi, ci', pb, cb⟩, efs, epf, ecf, eis, epi, eci⟩ : AtA)]).length = m + 1) := hide (by rw [List.length_append, uh hm]; rfl)
          clear HD2 e0 e1 e2 e3
          go_wp2_with (first
            | (refine wpList_store8 rfl _ _ rfl rfl rfl (Box.new _ _ _) (uh HC7).1 rfl (uh HC7).2 ?_; intro w8 b8 s8 z8; have D8 := hide (bl_tr7 (al1p _ _) s8.1); have V13 := hide b8; have kx := (box_u8 b8 ((uh HS7).below (uh D8)) (k := 11) (by omega) rfl).1; have g13 := b8.lt; have B8 := hide (bl_tr (uh BW7) (uh D8)); have X98 := hide ((uh X97).below (uh D8)); have x9 := (uh X98).cell; have g9 := (uh X98).lt; obtain ⟨x0, k0, k1, k2, k3, k4, k5, k6, k7, k8, k9, k10, k11⟩ := uh KA _ (uh B8); clear b8 s8 z8)
            | (at_builtin; (refine wpList_append_rc atWd noAtA rfl _ _ 34 rfl w3 52 i1 _ 208 Try.underlying34 hi1 y1 z1 b1 rfl _ (skipR ats K N) rfl ((uh OW7).below (bl_tr (uh D8) (bl_tr (al1p _ _) (al1p _ _)))) _ _ [(⟨en, ek, (t2 11).x, ei, es, (ty, ds, fs, is, bs), ⟨pd, cd, pf, cf, pi, ci', pb, cb⟩, efs, epf, ecf, eis, epi, eci⟩ : AtA)] rfl (at1_8 (k := w8.heap.size + 1) (by simp) rfl) (by rw [uh hm]; simp only [List.length_cons, List.length_nil]; unfold maxLen; omega) (by rw [uh hm]; simp only [List.length_cons, List.length_nil]; omega) ?_; intro v9 w9 O9 G9; have Z9 := hide (((uh X98).below (bl_tr (al1p _ _) (al1p _ _))).grown8 ((uh OW7).below (bl_tr (uh D8) (bl_tr (al1p _ _) (al1p _ _)))) (by decide) G9); have HK9 : Hid (∀ k, wr.heap.size ≤ k → k < w8.heap.size → w9.heap[k]? = w8.heap[k]?) := hide (fun k h1 h2 => (G9.block k (by simp; omega) (fun e => by have := uh HOB k e.symm; omega)).trans ((bl_tr (al1p _ _) (al1p _ _)).block k h2)); have HS9 : Hid (w8.heap.size ≤ w9.heap.size) := hide (Nat.le_trans (by simp; omega) G9.size); obtain ⟨q9, c9, e9, N9⟩ := NoIn.with8 ((uh HS0).below8 (bl_tr (uh B4) O9.2)) (w0 := w3) (fun x hx => (List.mem_append.1 hx).elim (fun h => ((uh HS0).below8 (bl_tr (uh B4) O9.2)).2.2.2.2.1 x (skip_mem h)) (fun h => by rw [List.mem_singleton.1 h]; exact uh HA2 _ O9.2)) O9; rw [uh HM9] at e9; subst e9; have CR3 := hide (cresolve8_any (NoA.put ⟨op, nm, ins, qi, ci, outs, qo, co, ats, some ⟨b5, o5, none⟩, ca⟩ (skipR ats K N ++ [(⟨en, ek, (t2 11).x, ei, es, (ty, ds, fs, is, bs), ⟨pd, cd, pf, cf, pi, ci', pb, cb⟩, efs, epf, ecf, eis, epi, eci⟩ : AtA)]) q9 c9) W.heap.size _ (N9.set8 (j := 4) (u := .slice q9 (m + 1) c9) (uh Z9) (by have := uh ZX; omega)) (fun x hx => (List.mem_append.1 hx).elim (fun h => (uh HU0).1 x (skip_mem h)) (fun h => by rw [List.mem_singleton.1 h]; exact uh HUK))); rw [uh HRV9 q9 c9] at CR3; simp only [noCells, NoA.put, strV, uh HM9] at CR3; have B9 := hide (Below.setCell O9.2 (p := ⟨w3.heap.size, 4, none⟩) (Nat.le_refl _) (.slice q9 (m + 1) c9)); have z9 := (uh Z9).cell; have f9 := (uh Z9).frozen; have l9 := (uh Z9).lt; clear O9 G9 N9)))
          refine (uh CR3).mono ?_
          rintro e w11 ⟨cs11, rfl, hs11, hb11⟩
          have HC11 := hide hs11.ones
          have HS11 := hide hs11
          have BY : Hid (Below w3.heap.size w3 w11) := hide (bl_tr (uh B9) hb11)
          have HK11 : Hid (∀ k, wr.heap.size ≤ k → k < w8.heap.size → w11.heap[k]? = w8.heap[k]?) := hide (fun k h1 h2 => by
            have z := uh HS9
            have z2 := uh ZW
            have e1 : (w9.setCell ⟨w3.heap.size, 4, none⟩ (.slice q9 (m + 1) c9)).heap[k]? = w9.heap[k]? := Below.heap_setCell _ _ _ _ (by simp only; omega)
            exact ((hb11.block k (by simp [World.setCell]; omega)).trans e1).trans (uh HK9 k h1 h2))
          have HZ11 : Hid (w8.heap.size ≤ w11.heap.size) := hide (by have := hb11.size; simp [World.setCell] at this; have := uh HS9; omega)
          have T7 := hide (((uh HS7).below (uh D8)).hold (uh HZ11) (uh HK11))
          have V13b : Hid (Box w11 w7.heap.size cs7 45) := hide ((uh HK11 _ (uh ZW).1 (uh V13).lt).trans (uh V13))
          have Y7b := hide ((uh Y7).below (uh BY))
          have u3 : ((0 : Int) == 0) = true := rfl
          clear hs11 hb11 CR3 HK9 HK11 HRV9 HA2 x9 z9 f9 l9
          go_wp2_with (first | (refine wpList_store8 rfl _ _ rfl rfl rfl (Box.new _ _ _) (uh HC11).1 rfl (uh HC11).2 ?_; intro w12 b12 s12 z12; have D12 := hide (bl_tr7 (al1p _ _) s12.1); have V17 := hide b12; have V13c := hide ((uh V13b).below (uh D12)); have Y7c := hide ((uh Y7b).below (uh D12)); clear b12 s12 z12) | (refine wpList_load8g (by rfl) _ rfl rfl (uh V13c) (uh HC7).1 ?_) | (refine wpList_load8g (by rfl) _ rfl rfl (uh V17) (uh HC11).1 ?_))
          refine (csame8_any _ ((uh T7).below (uh D12)) ((uh HS11).below (uh D12))).mono ?_
          rintro e w13 ⟨rfl, hb13⟩
          have ka := (box_i8 ((uh Y7c).below hb13) (uh HS2) (k := 16) (by omega) rfl).1
          have kb := (box_i8 ((uh V13c).below hb13) (uh HS7) (k := 16) (by omega) rfl).1
          rw [uh hs16] at ka
          obtain ⟨sx, hsx⟩ : ∃ s, (t2 16).x = s := ⟨_, rfl⟩
          rw [hsx] at ka kb
          clear hsx
          have ts : (sx == sx) = true := by simp
          have B13 := hide (bl_tr (uh B4) (bl_tr (bl_tr (uh BY) (uh D12)) hb13))
          clear hb13
          go_wp2_with fail
          go_ret
          exact ⟨rfl, uh B13⟩
        by_cases e4 : en = [107, 101, 101, 112, 100, 105, 109, 115]
        ·
          have n0 : ((strOfNums en).toList == [97, 120, 105, 115]) = false := lit_no8 (uh HNM) [97, 120, 105, 115] rfl _ rfl e0
          have n1 : ((strOfNums en).toList == [97, 108, 112, 104, 97]) = false := lit_no8 (uh HNM) [97, 108, 112, 104, 97] rfl _ rfl e1
          have n2 : ((strOfNums en).toList == [98, 101, 116, 97]) = false := lit_no8 (uh HNM) [98, 101, 116, 97] rfl _ rfl e2
          have n3 : ((strOfNums en).toList == [101, 112, 115, 105, 108, 111, 110]) = false := lit_no8 (uh HNM) [101, 112, 115, 105, 108, 111, 110] rfl _ rfl e3
          have n4 : ((strOfNums en).toList == [107, 101, 101, 112, 100, 105, 109, 115]) = true := lit_yes8 (uh HNM) [107, 101, 101, 112, 100, 105, 109, 115] rfl _ rfl e4
          cases hy : (t2 3).y
          ·
            have HD2 := uh HD (AtA.d ⟨en, ek, ef, 0, es, (ty, ds, fs, is, bs), ⟨pd, cd, pf, cf, pi, ci', pb, cb⟩, efs, epf, ecf, eis, epi, eci⟩) (by show dflA t2 (en, ek, ef, ei, es, (ty, ds, fs, is, bs), efs, eis) = some _; unfold dflA; simp only; rw [if_neg e0, if_neg e1, if_neg e2, if_neg e3, if_pos e4, hy]; rfl)
            have hs16 := hide HD2.2
            have HRV9 : Hid (∀ q c, resV (NoA.put ⟨op, nm, ins, qi, ci, outs, qo, co, ats, some ⟨b5, o5, none⟩, ca⟩ (skipR ats K N ++ [(⟨en, ek, ef, 0, es, (ty, ds, fs, is, bs), ⟨pd, cd, pf, cf, pi, ci', pb, cb⟩, efs, epf, ecf, eis, epi, eci⟩ : AtA)]) q c).d = (r1, t2, 0)) := hide (fun q c => by
              show resV (op, nm, ins, outs, (skipR ats K N ++ [(⟨en, ek, ef, 0, es, (ty, ds, fs, is, bs), ⟨pd, cd, pf, cf, pi, ci', pb, cb⟩, efs, epf, ecf, eis, epi, eci⟩ : AtA)]).map AtA.d) = _
              rw [List.map_append]
              exact HD2.1)
            have HA2 : Hid (∀ v, Below w3.heap.size w3 v → AtIn W.heap.size v ⟨en, ek, ef, 0, es, (ty, ds, fs, is, bs), ⟨pd, cd, pf, cf, pi, ci', pb, cb⟩, efs, epf, ecf, eis, epi, eci⟩) := hide (fun v hv => by
              have h := (uh HIN).below8 hv
              exact ⟨h.1, h.2.1, h.2.2.1, rfl, h.2.2.2.2⟩)
            have HM9 : Hid ((skipR ats K N ++ [(⟨en, ek, ef, 0, es, (ty, ds, fs, is, bs), ⟨pd, cd, pf, cf, pi, ci', pb, cb⟩, efs, epf, ecf, eis, epi, eci⟩ : AtA)]).length = m + 1) := hide (by rw [List.length_append, uh hm]; rfl)
            clear HD2 e0 e1 e2 e3 e4
            go_wp2_with (first
              | (refine wpList_store8 rfl _ _ rfl rfl rfl (Box.new _ _ _) (uh HC7).1 rfl (uh HC7).2 ?_; intro w8 b8 s8 z8; have D8 := hide (bl_tr7 (al1p _ _) s8.1); have V13 := hide b8; have kx := box_b8 b8 ((uh HS7).below (uh D8)) (k := 3) (by omega) rfl; rw [hy] at kx; have g13 := b8.lt; have B8 := hide (bl_tr (uh BW7) (uh D8)); have X98 := hide ((uh X97).below (uh D8)); have x9 := (uh X98).cell; have g9 := (uh X98).lt; obtain ⟨x0, k0, k1, k2, k3, k4, k5, k6, k7, k8, k9, k10, k11⟩ := uh KA _ (uh B8); clear b8 s8 z8)
              | (at_builtin; (refine wpList_append_rc atWd noAtA rfl _ _ 34 rfl w3 52 i1 _ 208 Try.underlying34 hi1 y1 z1 b1 rfl _ (skipR ats K N) rfl ((uh OW7).below (bl_tr (uh D8) (bl_tr (al1p _ _) (al1p _ _)))) _ _ [(⟨en, ek, ef, 0, es, (ty, ds, fs, is, bs), ⟨pd, cd, pf, cf, pi, ci', pb, cb⟩, efs, epf, ecf, eis, epi, eci⟩ : AtA)] rfl (at1_8 (k := w8.heap.size + 1) (by simp) rfl) (by rw [uh hm]; simp only [List.length_cons, List.length_nil]; unfold maxLen; omega) (by rw [uh hm]; simp only [List.length_cons, List.length_nil]; omega) ?_; intro v9 w9 O9 G9; have Z9 := hide (((uh X98).below (bl_tr (al1p _ _) (al1p _ _))).grown8 ((uh OW7).below (bl_tr (uh D8) (bl_tr (al1p _ _) (al1p _ _)))) (by decide) G9); have HK9 : Hid (∀ k, wr.heap.size ≤ k → k < w8.heap.size → w9.heap[k]? = w8.heap[k]?) := hide (fun k h1 h2 => (G9.block k (by simp; omega) (fun e => by have := uh HOB k e.symm; omega)).trans ((bl_tr (al1p _ _) (al1p _ _)).block k h2)); have HS9 : Hid (w8.heap.size ≤ w9.heap.size) := hide (Nat.le_trans (by simp; omega) G9.size); obtain ⟨q9, c9, e9, N9⟩ := NoIn.with8 ((uh HS0).below8 (bl_tr (uh B4) O9.2)) (w0 := w3) (fun x hx => (List.mem_append.1 hx).elim (fun h => ((uh HS0).below8 (bl_tr (uh B4) O9.2)).2.2.2.2.1 x (skip_mem h)) (fun h => by rw [List.mem_singleton.1 h]; exact uh HA2 _ O9.2)) O9; rw [uh HM9] at e9; subst e9; have CR3 := hide (cresolve8_any (NoA.put ⟨op, nm, ins, qi, ci, outs, qo, co, ats, some ⟨b5, o5, none⟩, ca⟩ (skipR ats K N ++ [(⟨en, ek, ef, 0, es, (ty, ds, fs, is, bs), ⟨pd, cd, pf, cf, pi, ci', pb, cb⟩, efs, epf, ecf, eis, epi, eci⟩ : AtA)]) q9 c9) W.heap.size _ (N9.set8 (j := 4) (u := .slice q9 (m + 1) c9) (uh Z9) (by have := uh ZX; omega)) (fun x hx => (List.mem_append.1 hx).elim (fun h => (uh HU0).1 x (skip_mem h)) (fun h => by rw [List.mem_singleton.1 h]; exact uh HUK))); rw [uh HRV9 q9 c9] at CR3; simp only [noCells, NoA.put, strV, uh HM9] at CR3; have B9 := hide (Below.setCell O9.2 (p := ⟨w3.heap.size, 4, none⟩) (Nat.le_refl _) (.slice q9 (m + 1) c9)); have z9 := (uh Z9).cell; have f9 := (uh Z9).frozen; have l9 := (uh Z9).lt; clear O9 G9 N9)))
            refine (uh CR3).mono ?_
            rintro e w11 ⟨cs11, rfl, hs11, hb11⟩
            have HC11 := hide hs11.ones
            have HS11 := hide hs11
            have BY : Hid (Below w3.heap.size w3 w11) := hide (bl_tr (uh B9) hb11)
            have HK11 : Hid (∀ k, wr.heap.size ≤ k → k < w8.heap.size → w11.heap[k]? = w8.heap[k]?) := hide (fun k h1 h2 => by
              have z := uh HS9
              have z2 := uh ZW
              have e1 : (w9.setCell ⟨w3.heap.size, 4, none⟩ (.slice q9 (m + 1) c9)).heap[k]? = w9.heap[k]? := Below.heap_setCell _ _ _ _ (by simp only; omega)
              exact ((hb11.block k (by simp [World.setCell]; omega)).trans e1).trans (uh HK9 k h1 h2))
            have HZ11 : Hid (w8.heap.size ≤ w11.heap.size) := hide (by have := hb11.size; simp [World.setCell] at this; have := uh HS9; omega)
            have T7 := hide (((uh HS7).below (uh D8)).hold (uh HZ11) (uh HK11))
            have V13b : Hid (Box w11 w7.heap.size cs7 45) := hide ((uh HK11 _ (uh ZW).1 (uh V13).lt).trans (uh V13))
            have Y7b := hide ((uh Y7).below (uh BY))
            have u3 : ((0 : Int) == 0) = true := rfl
            clear hs11 hb11 CR3 HK9 HK11 HRV9 HA2 x9 z9 f9 l9
            go_wp2_with (first | (refine wpList_store8 rfl _ _ rfl rfl rfl (Box.new _ _ _) (uh HC11).1 rfl (uh HC11).2 ?_; intro w12 b12 s12 z12; have D12 := hide (bl_tr7 (al1p _ _) s12.1); have V17 := hide b12; have V13c := hide ((uh V13b).below (uh D12)); have Y7c := hide ((uh Y7b).below (uh D12)); clear b12 s12 z12) | (refine wpList_load8g (by rfl) _ rfl rfl (uh V13c) (uh HC7).1 ?_) | (refine wpList_load8g (by rfl) _ rfl rfl (uh V17) (uh HC11).1 ?_))
            refine (csame8_any _ ((uh T7).below (uh D12)) ((uh HS11).below (uh D12))).mono ?_
            rintro e w13 ⟨rfl, hb13⟩
            have ka := (box_i8 ((uh Y7c).below hb13) (uh HS2) (k := 16) (by omega) rfl).1
            have kb := (box_i8 ((uh V13c).below hb13) (uh HS7) (k := 16) (by omega) rfl).1
            rw [uh hs16] at ka
            obtain ⟨sx, hsx⟩ : ∃ s, (t2 16).x = s := ⟨_, rfl⟩
            rw [hsx] at ka kb
            clear hsx
            have ts : (sx == sx) = true := by simp
            have B13 := hide (bl_tr (uh B4) (bl_tr (bl_tr (uh BY) (uh D12)) hb13))
            clear hb13
            go_wp2_with fail
            go_ret
            exact ⟨rfl, uh B13⟩
          ·
            have HD2 := uh HD (AtA.d ⟨en, ek, ef, 1, es, (ty, ds, fs, is, bs), ⟨pd, cd, pf, cf, pi, ci', pb, cb⟩, efs, epf, ecf, eis, epi, eci⟩) (by show dflA t2 (en, ek, ef, ei, es, (ty, ds, fs, is, bs), efs, eis) = some _; unfold dflA; simp only; rw [if_neg e0, if_neg e1, if_neg e2, if_neg e3, if_pos e4, hy]; rfl)
            have hs16 := hide HD2.2
            have HRV9 : Hid (∀ q c, resV (NoA.put ⟨op, nm, ins, qi, ci, outs, qo, co, ats, some ⟨b5, o5, none⟩, ca⟩ (skipR ats K N ++ [(⟨en, ek, ef, 1, es, (ty, ds, fs, is, bs), ⟨pd, cd, pf, cf, pi, ci', pb, cb⟩, efs, epf, ecf, eis, epi, eci⟩ : AtA)]) q c).d = (r1, t2, 0)) := hide (fun q c => by
              show resV (op, nm, ins, outs, (skipR ats K N ++ [(⟨en, ek, ef, 1, es, (ty, ds, fs, is, bs), ⟨pd, cd, pf, cf, pi, ci', pb, cb⟩, efs, epf, ecf, eis, epi, eci⟩ : AtA)]).map AtA.d) = _
              rw [List.map_append]
              exact HD2.1)
            have HA2 : Hid (∀ v, Below w3.heap.size w3 v → AtIn W.heap.size v ⟨en, ek, ef, 1, es, (ty, ds, fs, is, bs), ⟨pd, cd, pf, cf, pi, ci', pb, cb⟩, efs, epf, ecf, eis, epi, eci⟩) := hide (fun v hv => by
              have h := (uh HIN).below8 hv
              exact ⟨h.1, h.2.1, h.2.2.1, rfl, h.2.2.2.2⟩)
            have HM9 : Hid ((skipR ats K N ++ [(⟨en, ek, ef, 1, es, (ty, ds, fs, is, bs), ⟨pd, cd, pf, cf, pi, ci', pb, cb⟩, efs, epf, ecf, eis, epi, eci⟩ : AtA)]).length = m + 1) := hide (by rw [List.length_append, uh hm]; rfl)
            clear HD2 e0 e1 e2 e3 e4
            go_wp2_with (first
              | (refine wpList_store8 rfl _ _ rfl rfl rfl (Box.new _ _ _) (uh HC7).1 rfl (uh HC7).2 ?_; intro w8 b8 s8 z8; have D8 := hide (bl_tr7 (al1p _ _) s8.1); have V13 := hide b8; have kx := box_b8 b8 ((uh HS7).below (uh D8)) (k := 3) (by omega) rfl; rw [hy] at kx; have g13 := b8.lt; have B8 := hide (bl_tr (uh BW7) (uh D8)); have X98 := hide ((uh X97).below (uh D8)); have x9 := (uh X98).cell; have g9 := (uh X98).lt; obtain ⟨x0, k0, k1, k2, k3, k4, k5, k6, k7, k8, k9, k10, k11⟩ := uh KA _ (uh B8); clear b8 s8 z8)
              | (at_builtin; (refine wpList_append_rc atWd noAtA rfl _ _ 34 rfl w3 52 i1 _ 208 Try.underlying34 hi1 y1 z1 b1 rfl _ (skipR ats K N) rfl ((uh OW7).below (bl_tr (uh D8) (bl_tr (al1p _ _) (al1p _ _)))) _ _ [(⟨en, ek, ef, 1, es, (ty, ds, fs, is, bs), ⟨pd, cd, pf, cf, pi, ci', pb, cb⟩, efs, epf, ecf, eis, epi, eci⟩ : AtA)] rfl (at1_8 (k := w8.heap.size + 1) (by simp) rfl) (by rw [uh hm]; simp only [List.length_cons, List.length_nil]; unfold maxLen; omega) (by rw [uh hm]; simp only [List.length_cons, List.length_nil]; omega) ?_; intro v9 w9 O9 G9; have Z9 := hide (((uh X98).below (bl_tr (al1p _ _) (al1p _ _))).grown8 ((uh OW7).below (bl_tr (uh D8) (bl_tr (al1p _ _) (al1p _ _)))) (by decide) G9); have HK9 : Hid (∀ k, wr.heap.size ≤ k → k < w8.heap.size → w9.heap[k]? = w8.heap[k]?) := hide (fun k h1 h2 => (G9.block k (by simp; omega) (fun e => by have := uh HOB k e.symm; omega)).trans ((bl_tr (al1p _ _) (al1p _ _)).block k h2)); have HS9 : Hid (w8.heap.size ≤ w9.heap.size) := hide (Nat.le_trans (by simp; omega) G9.size); obtain ⟨q9, c9, e9, N9⟩ := NoIn.with8 ((uh HS0).below8 (bl_tr (uh B4) O9.2)) (w0 := w3) (fun x hx => (List.mem_append.1 hx).elim (fun h => ((uh HS0).below8 (bl_tr (uh B4) O9.2)).2.2.2.2.1 x (skip_mem h)) (fun h => by rw [List.mem_singleton.1 h]; exact uh HA2 _ O9.2)) O9; rw [uh HM9] at e9; subst e9; have CR3 := hide (cresolve8_any (NoA.put ⟨op, nm, ins, qi, ci, outs, qo, co, ats, some ⟨b5, o5, none⟩, ca⟩ (skipR ats K N ++ [(⟨en, ek, ef, 1, es, (ty, ds, fs, is, bs), ⟨pd, cd, pf, cf, pi, ci', pb, cb⟩, efs, epf, ecf, eis, epi, eci⟩ : AtA)]) q9 c9) W.heap.size _ (N9.set8 (j := 4) (u := .slice q9 (m + 1) c9) (uh Z9) (by have := uh ZX; omega)) (fun x hx => (List.mem_append.1 hx).elim (fun h => (uh HU0).1 x (skip_mem h)) (fun h => by rw [List.mem_singleton.1 h]; exact uh HUK))); rw [uh HRV9 q9 c9] at CR3; simp only [noCells, NoA.put, strV, uh HM9] at CR3; have B9 := hide (Below.setCell O9.2 (p := ⟨w3.heap.size, 4, none⟩) (Nat.le_refl _) (.slice q9 (m + 1) c9)); have z9 := (uh Z9).cell; have f9 := (uh Z9).frozen; have l9 := (uh Z9).lt; clear O9 G9 N9)))
            refine (uh CR3).mono ?_
            rintro e w11 ⟨cs11, rfl, hs11, hb11⟩
            have HC11 := hide hs11.ones
            have HS11 := hide hs11
            have BY : Hid (Below w3.heap.size w3 w11) := hide (bl_tr (uh B9) hb11)
            have HK11 : Hid (∀ k, wr.heap.size ≤ k → k < w8.heap.size → w11.heap[k]? = w8.heap[k]?) := hide (fun k h1 h2 => by
              have z := uh HS9
              have z2 := uh ZW
              have e1 : (w9.setCell ⟨w3.heap.size, 4, none⟩ (.slice q9 (m + 1) c9)).heap[k]? = w9.heap[k]? := Below.heap_setCell _ _ _ _ (by simp only; omega)
              exact ((hb11.block k (by simp [World.setCell]; omega)).trans e1).trans (uh HK9 k h1 h2))
            have HZ11 : Hid (w8.heap.size ≤ w11.heap.size) := hide (by have := hb11.size; simp [World.setCell] at this; have := uh HS9; omega)
            have T7 := hide (((uh HS7).below (uh D8)).hold (uh HZ11) (uh HK11))
            have V13b : Hid (Box w11 w7.heap.size cs7 45) := hide ((uh HK11 _ (uh ZW).1 (uh V13).lt).trans (uh V13))
            have Y7b := hide ((uh Y7).below (uh BY))
            have u3 : ((0 : Int) == 0) = true := rfl
            clear hs11 hb11 CR3 HK9 HK11 HRV9 HA2 x9 z9 f9 l9
            go_wp2_with (first | (refine wpList_store8 rfl _ _ rfl rfl rfl (Box.new _ _ _) (uh HC11).1 rfl (uh HC11).2 ?_; intro w12 b12 s12 z12; have D12 := hide (bl_tr7 (al1p _ _) s12.1); have V17 := hide b12; have V13c := hide ((uh V13b).below (uh D12)); have Y7c := hide ((uh Y7b).below (uh D12)); clear b12 s12 z12) | (refine wpList_load8g (by rfl) _ rfl rfl (uh V13c) (uh HC7).1 ?_) | (refine wpList_load8g (by rfl) _ rfl rfl (uh V17) (uh HC11).1 ?_))
            refine (csame8_any _ ((uh T7).below (uh D12)) ((uh HS11).below (uh D12))).mono ?_
            rintro e w13 ⟨rfl, hb13⟩
            have ka := (box_i8 ((uh Y7c).below hb13) (uh HS2) (k := 16) (by omega) rfl).1
            have kb := (box_i8 ((uh V13c).below hb13) (uh HS7) (k := 16) (by omega) rfl).1
            rw [uh hs16] at ka
            obtain ⟨sx, hsx⟩ : ∃ s, (t2 16).x = s := ⟨_, rfl⟩
            rw [hsx] at ka kb
            clear hsx
            have ts : (sx == sx) = true := by simp
            have B13 := hide (bl_tr (uh B4) (bl_tr (bl_tr (uh BY) (uh D12)) hb13))
            clear hb13
            go_wp2_with fail
            go_ret
            exact ⟨rfl, uh B13⟩
        by_cases e5 : en = [116, 114, 97, 110, 115, 65]
        ·
          have n0 : ((strOfNums en).toList == [97, 120, 105, 115]) = false := lit_no8 (uh HNM) [97, 120, 105, 115] rfl _ rfl e0
          have n1 : ((strOfNums en).toList == [97, 108, 112, 104, 97]) = false := lit_no8 (uh HNM) [97, 108, 112, 104, 97] rfl _ rfl e1
          have n2 : ((strOfNums en).toList == [98, 101, 116, 97]) = false := lit_no8 (uh HNM) [98, 101, 116, 97] rfl _ rfl e2
          have n3 : ((strOfNums en).toList == [101, 112, 115, 105, 108, 111, 110]) = false := lit_no8 (uh HNM) [101, 112, 115, 105, 108, 111, 110] rfl _ rfl e3
          have n4 : ((strOfNums en).toList == [107, 101, 101, 112, 100, 105, 109, 115]) = false := lit_no8 (uh HNM) [107, 101, 101, 112, 100, 105, 109, 115] rfl _ rfl e4
          have n5 : ((strOfNums en).toList == [116, 114, 97, 110, 115, 65]) = true := lit_yes8 (uh HNM) [116, 114, 97, 110, 115, 65] rfl _ rfl e5
          have HD2 := uh HD (AtA.d ⟨en, ek, ef, 0, es, (ty, ds, fs, is, bs), ⟨pd, cd, pf, cf, pi, ci', pb, cb⟩, efs, epf, ecf, eis, epi, eci⟩) (by show dflA t2 (en, ek, ef, ei, es, (ty, ds, fs, is, bs), efs, eis) = some _; unfold dflA; simp only; rw [if_neg e0, if_neg e1, if_neg e2, if_neg e3, if_neg e4, if_pos e5]; rfl)
          have hs16 := hide HD2.2
          have HRV9 : Hid (∀ q c, resV (NoA.put ⟨op, nm, ins, qi, ci, outs, qo, co, ats, some ⟨b5, o5, none⟩, ca⟩ (skipR ats K N ++ [(⟨en, ek, ef, 0, es, (ty, ds, fs, is, bs), ⟨pd, cd, pf, cf, pi, ci', pb, cb⟩, efs, epf, ecf, eis, epi, eci⟩ : AtA)]) q c).d = (r1, t2, 0)) := hide (fun q c => by
            show resV (op, nm, ins, outs, (skipR ats K N ++ [(⟨en, ek, ef, 0, es, (ty, ds, fs, is, bs), ⟨pd, cd, pf, cf, pi, ci', pb, cb⟩, efs, epf, ecf, eis, epi, eci⟩ : AtA)]).map AtA.d) = _
            rw [List.map_append]
            exact HD2.1)
          have HA2 : Hid (∀ v, Below w3.heap.size w3 v → AtIn W.heap.size v ⟨en, ek, ef, 0, es, (ty, ds, fs, is, bs), ⟨pd, cd, pf, cf, pi, ci', pb, cb⟩, efs, epf, ecf, eis, epi, eci⟩) := hide (fun v hv => by
            have h := (uh HIN).below8 hv
            exact ⟨h.1, h.2.1, h.2.2.1, rfl, h.2.2.2.2⟩)
          have HM9 : Hid ((skipR ats K N ++ [(⟨en, ek, ef, 0, es, (ty, ds, fs, is, bs), ⟨pd, cd, pf, cf, pi, ci', pb, cb⟩, efs, epf, ecf, eis, epi, eci⟩ : AtA)]).length = m + 1) := hide (by rw [List.length_append, uh hm]; rfl)
          clear HD2 e0 e1 e2 e3 e4 e5
          go_wp2_with (first
            | (refine wpList_store8 rfl _ _ rfl rfl rfl (Box.new _ _ _) (uh HC7).1 rfl (uh HC7).2 ?_; intro w8 b8 s8 z8; have D8 := hide (bl_tr7 (al1p _ _) s8.1); have V13 := hide b8; have g13 := b8.lt; have B8 := hide (bl_tr (uh BW7) (uh D8)); have X98 := hide ((uh X97).below (uh D8)); have x9 := (uh X98).cell; have g9 := (uh X98).lt; obtain ⟨x0, k0, k1, k2, k3, k4, k5, k6, k7, k8, k9, k10, k11⟩ := uh KA _ (uh B8); clear b8 s8 z8)
            | (at_builtin; (refine wpList_append_rc atWd noAtA rfl _ _ 34 rfl w3 52 i1 _ 208 Try.underlying34 hi1 y1 z1 b1 rfl _ (skipR ats K N) rfl ((uh OW7).below (bl_tr (uh D8) (bl_tr (al1p _ _) (al1p _ _)))) _ _ [(⟨en, ek, ef, 0, es, (ty, ds, fs, is, bs), ⟨pd, cd, pf, cf, pi, ci', pb, cb⟩, efs, epf, ecf, eis, epi, eci⟩ : AtA)] rfl (at1_8 (k := w8.heap.size + 1) (by simp) rfl) (by rw [uh hm]; simp only [List.length_cons, List.length_nil]; unfold maxLen; omega) (by rw [uh hm]; simp only [List.length_cons, List.length_nil]; omega) ?_; intro v9 w9 O9 G9; have Z9 := hide (((uh X98).below (bl_tr (al1p _ _) (al1p _ _))).grown8 ((uh OW7).below (bl_tr (uh D8) (bl_tr (al1p _ _) (al1p _ _)))) (by decide) G9); have HK9 : Hid (∀ k, wr.heap.size ≤ k → k < w8.heap.size → w9.heap[k]? = w8.heap[k]?) := hide (fun k h1 h2 => (G9.block k (by simp; omega) (fun e => by have := uh HOB k e.symm; omega)).trans ((bl_tr (al1p _ _) (al1p _ _)).block k h2)); have HS9 : Hid (w8.heap.size ≤ w9.heap.size) := hide (Nat.le_trans (by simp; omega) G9.size); obtain ⟨q9, c9, e9, N9⟩ := NoIn.with8 ((uh HS0).below8 (bl_tr (uh B4) O9.2)) (w0 := w3) (fun x hx => (List.mem_append.1 hx).elim (fun h => ((uh HS0).below8 (bl_tr (uh B4) O9.2)).2.2.2.2.1 x (skip_mem h)) (fun h => by rw [List.mem_singleton.1 h]; exact uh HA2 _ O9.2)) O9; rw [uh HM9] at e9; subst e9; have CR3 := hide (cresolve8_any (NoA.put ⟨op, nm, ins, qi, ci, outs, qo, co, ats, some ⟨b5, o5, none⟩, ca⟩ (skipR ats K N ++ [(⟨en, ek, ef, 0, es, (ty, ds, fs, is, bs), ⟨pd, cd, pf, cf, pi, ci', pb, cb⟩, efs, epf, ecf, eis, epi, eci⟩ : AtA)]) q9 c9) W.heap.size _ (N9.set8 (j := 4) (u := .slice q9 (m + 1) c9) (uh Z9) (by have := uh ZX; omega)) (fun x hx => (List.mem_append.1 hx).elim (fun h => (uh HU0).1 x (skip_mem h)) (fun h => by rw [List.mem_singleton.1 h]; exact uh HUK))); rw [uh HRV9 q9 c9] at CR3; simp only [noCells, NoA.put, strV, uh HM9] at CR3; have B9 := hide (Below.setCell O9.2 (p := ⟨w3.heap.size, 4, none⟩) (Nat.le_refl _) (.slice q9 (m + 1) c9)); have z9 := (uh Z9).cell; have f9 := (uh Z9).frozen; have l9 := (uh Z9).lt; clear O9 G9 N9)))
          refine (uh CR3).mono ?_
          rintro e w11 ⟨cs11, rfl, hs11, hb11⟩
          have HC11 := hide hs11.ones
          have HS11 := hide hs11
          have BY : Hid (Below w3.heap.size w3 w11) := hide (bl_tr (uh B9) hb11)
          have HK11 : Hid (∀ k, wr.heap.size ≤ k → k < w8.heap.size → w11.heap[k]? = w8.heap[k]?) := hide (fun k h1 h2 => by
            have z := uh HS9
            have z2 := uh ZW
            have e1 : (w9.setCell ⟨w3.heap.size, 4, none⟩ (.slice q9 (m + 1) c9)).heap[k]? = w9.heap[k]? := Below.heap_setCell _ _ _ _ (by simp only; omega)
            exact ((hb11.block k (by simp [World.setCell]; omega)).trans e1).trans (uh HK9 k h1 h2))
          have HZ11 : Hid (w8.heap.size ≤ w11.heap.size) := hide (by have := hb11.size; simp [World.setCell] at this; have := uh HS9; omega)
          have T7 := hide (((uh HS7).below (uh D8)).hold (uh HZ11) (uh HK11))
          have V13b : Hid (Box w11 w7.heap.size cs7 45) := hide ((uh HK11 _ (uh ZW).1 (uh V13).lt).trans (uh V13))
          have Y7b := hide ((uh Y7).below (uh BY))
          have u3 : ((0 : Int) == 0) = true := rfl
          clear hs11 hb11 CR3 HK9 HK11 HRV9 HA2 x9 z9 f9 l9
          go_wp2_with (first | (refine wpList_store8 rfl _ _ rfl rfl rfl (Box.new _ _ _) (uh HC11).1 rfl (uh HC11).2 ?_; intro w12 b12 s12 z12; have D12 := hide (bl_tr7 (al1p _ _) s12.1); have V17 := hide b12; have V13c := hide ((uh V13b).below (uh D12)); have Y7c := hide ((uh Y7b).below (uh D12)); clear b12 s12 z12) | (refine wpList_load8g (by rfl) _ rfl rfl (uh V13c) (uh HC7).1 ?_) | (refine wpList_load8g (by rfl) _ rfl rfl (uh V17) (uh HC11).1 ?_))
          refine (csame8_any _ ((uh T7).below (uh D12)) ((uh HS11).below (uh D12))).mono ?_
          rintro e w13 ⟨rfl, hb13⟩
          have ka := (box_i8 ((uh Y7c).below hb13) (uh HS2) (k := 16) (by omega) rfl).1
          have kb := (box_i8 ((uh V13c).below hb13) (uh HS7) (k := 16) (by omega) rfl).1
          rw [uh hs16] at ka
          obtain ⟨sx, hsx⟩ : ∃ s, (t2 16).x = s := ⟨_, rfl⟩
          rw [hsx] at ka kb
          clear hsx
          have ts : (sx == sx) = true := by simp
          have B13 := hide (bl_tr (uh B4) (bl_tr (bl_tr (uh BY) (uh D12)) hb13))
          clear hb13
          go_wp2_with fail
          go_ret
          exact ⟨rfl, uh B13⟩
        by_cases e6 : en = [116, 114, 97, 110, 115, 66]
        ·
          have n0 : ((strOfNums en).toList == [97, 120, 105, 115]) = false := lit_no8 (uh HNM) [97, 120, 105, 115] rfl _ rfl e0
          have n1 : ((strOfNums en).toList == [97, 108, 112, 104, 97]) = false := lit_no8 (uh HNM) [97, 108, 112, 104, 97] rfl _ rfl e1
          have n2 : ((strOfNums en).toList == [98, 101, 116, 97]) = false := lit_no8 (uh HNM) [98, 101, 116, 97] rfl _ rfl e2
          have n3 : ((strOfNums en).toList == [101, 112, 115, 105, 108, 111, 110]) = false := lit_no8 (uh HNM) [101, 112, 115, 105, 108, 111, 110] rfl _ rfl e3
          have n4 : ((strOfNums en).toList == [107, 101, 101, 112, 100, 105, 109, 115]) = false := lit_no8 (uh HNM) [107, 101, 101, 112, 100, 105, 109, 115] rfl _ rfl e4
          have n5 : ((strOfNums en).toList == [116, 114, 97, 110, 115, 65]) = false := lit_no8 (uh HNM) [116, 114, 97, 110, 115, 65] rfl _ rfl e5
          have n6 : ((strOfNums en).toList == [116, 114, 97, 110, 115, 66]) = true := lit_yes8 (uh HNM) [116, 114, 97, 110, 115, 66] rfl _ rfl e6
          have HD2 := uh HD (AtA.d ⟨en, ek, ef, 0, es, (ty, ds, fs, is, bs), ⟨pd, cd, pf, cf, pi, ci', pb, cb⟩, efs, epf, ecf, eis, epi, eci⟩) (by show dflA t2 (en, ek, ef, ei, es, (ty, ds, fs, is, bs), efs, eis) = some _; unfold dflA; simp only; rw [if_neg e0, if_neg e1, if_neg e2, if_neg e3, if_neg e4, if_neg e5, if_pos e6]; rfl)
          have hs16 := hide HD2.2
          have HRV9 : Hid (∀ q c, resV (NoA.put ⟨op, nm, ins, qi, ci, outs, qo, co, ats, some ⟨b5, o5, none⟩, ca⟩ (skipR ats K N ++ [(⟨en, ek, ef, 0, es, (ty, ds, fs, is, bs), ⟨pd, cd, pf, cf, pi, ci', pb, cb⟩, efs, epf, ecf, eis, epi, eci⟩ : AtA)]) q c).d = (r1, t2, 0)) := hide (fun q c => by
            show resV (op, nm, ins, outs, (skipR ats K N ++ [(⟨en, ek, ef, 0, es, (ty, ds, fs, is, bs), ⟨pd, cd, pf, cf, pi, ci', pb, cb⟩, efs, epf, ecf, eis, epi, eci⟩ : AtA)]).map AtA.d) = _
            rw [List.map_append]
            exact HD2.1)
          have HA2 : Hid (∀ v, Below w3.heap.size w3 v → AtIn W.heap.size v ⟨en, ek, ef, 0, es, (ty, ds, fs, is, bs), ⟨pd, cd, pf, cf, pi, ci', pb, cb⟩, efs, epf, ecf, eis, epi, eci⟩) := hide (fun v hv => by
            have h := (uh HIN).below8 hv
            exact ⟨h.1, h.2.1, h.2.2.1, rfl, h.2.2.2.2⟩)
          have HM9 : Hid ((skipR ats K N ++ [(⟨en, ek, ef, 0, es, (ty, ds, fs, is, bs), ⟨pd, cd, pf, cf, pi, ci', pb, cb⟩, efs, epf, ecf, eis, epi, eci⟩ : AtA)]).length = m + 1) := hide (by rw [List.length_append, uh hm]; rfl)
          clear HD2 e0 e1 e2 e3 e4 e5 e6
          go_wp2_with (first
            | (refine wpList_store8 rfl _ _ rfl rfl rfl (Box.new _ _ _) (uh HC7).1 rfl (uh HC7).2 ?_; intro w8 b8 s8 z8; have D8 := hide (bl_tr7 (al1p _ _) s8.1); have V13 := hide b8; have g13 := b8.lt; have B8 := hide (bl_tr (uh BW7) (uh D8)); have X98 := hide ((uh X97).below (uh D8)); have x9 := (uh X98).cell; have g9 := (uh X98).lt; obtain ⟨x0, k0, k1, k2, k3, k4, k5, k6, k7, k8, k9, k10, k11⟩ := uh KA _ (uh B8); clear b8 s8 z8)
            | (at_builtin; (refine wpList_append_rc atWd noAtA rfl _ _ 34 rfl w3 52 i1 _ 208 Try.underlying34 hi1 y1 z1 b1 rfl _ (skipR ats K N) rfl ((uh OW7).below (bl_tr (uh D8) (bl_tr (al1p _ _) (al1p _ _)))) _ _ [(⟨en, ek, ef, 0, es, (ty, ds, fs, is, bs), ⟨pd, cd, pf, cf, pi, ci', pb, cb⟩, efs, epf, ecf, eis, epi, eci⟩ : AtA)] rfl (at1_8 (k := w8.heap.size + 1) (by simp) rfl) (by rw [uh hm]; simp only [List.length_cons, List.length_nil]; unfold maxLen; omega) (by rw [uh hm]; simp only [List.length_cons, List.length_nil]; omega) ?_; intro v9 w9 O9 G9; have Z9 := hide (((uh X98).below (bl_tr (al1p _ _) (al1p _ _))).grown8 ((uh OW7).below (bl_tr (uh D8) (bl_tr (al1p _ _) (al1p _ _)))) (by decide) G9); have HK9 : Hid (∀ k, wr.heap.size ≤ k → k < w8.heap.size → w9.heap[k]? = w8.heap[k]?) := hide (fun k h1 h2 => (G9.block k (by simp; omega) (fun e => by have := uh HOB k e.symm; omega)).trans ((bl_tr (al1p _ _) (al1p _ _)).block k h2)); have HS9 : Hid (w8.heap.size ≤ w9.heap.size) := hide (Nat.le_trans (by simp; omega) G9.size); obtain ⟨q9, c9, e9, N9⟩ := NoIn.with8 ((uh HS0).below8 (bl_tr (uh B4) O9.2)) (w0 := w3) (fun x hx => (List.mem_append.1 hx).elim (fun h => ((uh HS0).below8 (bl_tr (uh B4) O9.2)).2.2.2.2.1 x (skip_mem h)) (fun h => by rw [List.mem_singleton.1 h]; exact uh HA2 _ O9.2)) O9; rw [uh HM9] at e9; subst e9; have CR3 := hide (cresolve8_any (NoA.put ⟨op, nm, ins, qi, ci, outs, qo, co, ats, some ⟨b5, o5, none⟩, ca⟩ (skipR ats K N ++ [(⟨en, ek, ef, 0, es, (ty, ds, fs, is, bs), ⟨pd, cd, pf, cf, pi, ci', pb, cb⟩, efs, epf, ecf, eis, epi, eci⟩ : AtA)]) q9 c9) W.heap.size _ (N9.set8 (j := 4) (u := .slice q9 (m + 1) c9) (uh Z9) (by have := uh ZX; omega)) (fun x hx => (List.mem_append.1 hx).elim (fun h => (uh HU0).1 x (skip_mem h)) (fun h => by rw [List.mem_singleton.1 h]; exact uh HUK))); rw [uh HRV9 q9 c9] at CR3; simp only [noCells, NoA.put, strV, uh HM9] at CR3; have B9 := hide (Below.setCell O9.2 (p := ⟨w3.heap.size, 4, none⟩) (Nat.le_refl _) (.slice q9 (m + 1) c9)); have z9 := (uh Z9).cell; have f9 := (uh Z9).frozen; have l9 := (uh Z9).lt; clear O9 G9 N9)))
          refine (uh CR3).mono ?_
          rintro e w11 ⟨cs11, rfl, hs11, hb11⟩
          have HC11 := hide hs11.ones
          have HS11 := hide hs11
          have BY : Hid (Below w3.heap.size w3 w11) := hide (bl_tr (uh B9) hb11)
          have HK11 : Hid (∀ k, wr.heap.size ≤ k → k < w8.heap.size → w11.heap[k]? = w8.heap[k]?) := hide (fun k h1 h2 => by
            have z := uh HS9
            have z2 := uh ZW
            have e1 : (w9.setCell ⟨w3.heap.size, 4, none⟩ (.slice q9 (m + 1) c9)).heap[k]? = w9.heap[k]? := Below.heap_setCell _ _ _ _ (by simp only; omega)
            exact ((hb11.block k (by simp [World.setCell]; omega)).trans e1).trans (uh HK9 k h1 h2))
          have HZ11 : Hid (w8.heap.size ≤ w11.heap.size) := hide (by have := hb11.size; simp [World.setCell] at this; have := uh HS9; omega)
          have T7 := hide (((uh HS7).below (uh D8)).hold (uh HZ11) (uh HK11))
          have V13b : Hid (Box w11 w7.heap.size cs7 45) := hide ((uh HK11 _ (uh ZW).1 (uh V13).lt).trans (uh V13))
          have Y7b := hide ((uh Y7).below (uh BY))
          have u3 : ((0 : Int) == 0) = true := rfl
          clear hs11 hb11 CR3 HK9 HK11 HRV9 HA2 x9 z9 f9 l9
          go_wp2_with (first | (refine wpList_store8 rfl _ _ rfl rfl rfl (Box.new _ _ _) (uh HC11).1 rfl (uh HC11).2 ?_; intro w12 b12 s12 z12; have D12 := hide (bl_tr7 (al1p _ _) s12.1); have V17 := hide b12; have V13c := hide ((uh V13b).below (uh D12)); have Y7c := hide ((uh Y7b).below (uh D12)); clear b12 s12 z12) | (refine wpList_load8g (by rfl) _ rfl rfl (uh V13c) (uh HC7).1 ?_) | (refine wpList_load8g (by rfl) _ rfl rfl (uh V17) (uh HC11).1 ?_))
          refine (csame8_any _ ((uh T7).below (uh D12)) ((uh HS11).below (uh D12))).mono ?_
          rintro e w13 ⟨rfl, hb13⟩
          have ka := (box_i8 ((uh Y7c).below hb13) (uh HS2) (k := 16) (by omega) rfl).1
          have kb := (box_i8 ((uh V13c).below hb13) (uh HS7) (k := 16) (by omega) rfl).1
          rw [uh hs16] at ka
          obtain ⟨sx, hsx⟩ : ∃ s, (t2 16).x = s := ⟨_, rfl⟩
          rw [hsx] at ka kb
          clear hsx
          have ts : (sx == sx) = true := by simp
          have B13 := hide (bl_tr (uh B4) (bl_tr (bl_tr (uh BY) (uh D12)) hb13))
          clear hb13
          go_wp2_with fail
          go_ret
          exact ⟨rfl, uh B13⟩
        by_cases e7 : en = [102, 109, 111, 100]
        ·
          have n0 : ((strOfNums en).toList == [97, 120, 105, 115]) = false := lit_no8 (uh HNM) [97, 120, 105, 115] rfl _ rfl e0
          have n1 : ((strOfNums en).toList == [97, 108, 112, 104, 97]) = false := lit_no8 (uh HNM) [97, 108, 112, 104, 97] rfl _ rfl e1
          have n2 : ((strOfNums en).toList == [98, 101, 116, 97]) = false := lit_no8 (uh HNM) [98, 101, 116, 97] rfl _ rfl e2
          have n3 : ((strOfNums en).toList == [101, 112, 115, 105, 108, 111, 110]) = false := lit_no8 (uh HNM) [101, 112, 115, 105, 108, 111, 110] rfl _ rfl e3
          have n4 : ((strOfNums en).toList == [107, 101, 101, 112, 100, 105, 109, 115]) = false := lit_no8 (uh HNM) [107, 101, 101, 112, 100, 105, 109, 115] rfl _ rfl e4
          have n5 : ((strOfNums en).toList == [116, 114, 97, 110, 115, 65]) = false := lit_no8 (uh HNM) [116, 114, 97, 110, 115, 65] rfl _ rfl e5
          have n6 : ((strOfNums en).toList == [116, 114, 97, 110, 115, 66]) = false := lit_no8 (uh HNM) [116, 114, 97, 110, 115, 66] rfl _ rfl e6
          have n7 : ((strOfNums en).toList == [102, 109, 111, 100]) = true := lit_yes8 (uh HNM) [102, 109, 111, 100] rfl _ rfl e7
          have HD2 := uh HD (AtA.d ⟨en, ek, ef, 0, es, (ty, ds, fs, is, bs), ⟨pd, cd, pf, cf, pi, ci', pb, cb⟩, efs, epf, ecf, eis, epi, eci⟩) (by show dflA t2 (en, ek, ef, ei, es, (ty, ds, fs, is, bs), efs, eis) = some _; unfold dflA; simp only; rw [if_neg e0, if_neg e1, if_neg e2, if_neg e3, if_neg e4, if_neg e5, if_neg e6, if_pos e7]; rfl)
          have hs16 := hide HD2.2
          have HRV9 : Hid (∀ q c, resV (NoA.put ⟨op, nm, ins, qi, ci, outs, qo, co, ats, some ⟨b5, o5, none⟩, ca⟩ (skipR ats K N ++ [(⟨en, ek, ef, 0, es, (ty, ds, fs, is, bs), ⟨pd, cd, pf, cf, pi, ci', pb, cb⟩, efs, epf, ecf, eis, epi, eci⟩ : AtA)]) q c).d = (r1, t2, 0)) := hide (fun q c => by
            show resV (op, nm, ins, outs, (skipR ats K N ++ [(⟨en, ek, ef, 0, es, (ty, ds, fs, is, bs), ⟨pd, cd, pf, cf, pi, ci', pb, cb⟩, efs, epf, ecf, eis, epi, eci⟩ : AtA)]).map AtA.d) = _
            rw [List.map_append]
            exact HD2.1)
          have HA2 : Hid (∀ v, Below w3.heap.size w3 v → AtIn W.heap.size v ⟨en, ek, ef, 0, es, (ty, ds, fs, is, bs), ⟨pd, cd, pf, cf, pi, ci', pb, cb⟩, efs, epf, ecf, eis, epi, eci⟩) := hide (fun v hv => by
            have h := (uh HIN).below8 hv
            exact ⟨h.1, h.2.1, h.2.2.1, rfl, h.2.2.2.2⟩)
          have HM9 : Hid ((skipR ats K N ++ [(⟨en, ek, ef, 0, es, (ty, ds, fs, is, bs), ⟨pd, cd, pf, cf, pi, ci', pb, cb⟩, efs, epf, ecf, eis, epi, eci⟩ : AtA)]).length = m + 1) := hide (by rw [List.length_append, uh hm]; rfl)
          clear HD2 e0 e1 e2 e3 e4 e5 e6 e7
          go_wp2_with (first
            | (refine wpList_store8 rfl _ _ rfl rfl rfl (Box.new _ _ _) (uh HC7).1 rfl (uh HC7).2 ?_; intro w8 b8 s8 z8; have D8 := hide (bl_tr7 (al1p _ _) s8.1); have V13 := hide b8; have g13 := b8.lt; have B8 := hide (bl_tr (uh BW7) (uh D8)); have X98 := hide ((uh X97).below (uh D8)); have x9 := (uh X98).cell; have g9 := (uh X98).lt; obtain ⟨x0, k0, k1, k2, k3, k4, k5, k6, k7, k8, k9, k10, k11⟩ := uh KA _ (uh B8); clear b8 s8 z8)
            | (at_builtin; (refine wpList_append_rc atWd noAtA rfl _ _ 34 rfl w3 52 i1 _ 208 Try.underlying34 hi1 y1 z1 b1 rfl _ (skipR ats K N) rfl ((uh OW7).below (bl_tr (uh D8) (bl_tr (al1p _ _) (al1p _ _)))) _ _ [(⟨en, ek, ef, 0, es, (ty, ds, fs, is, bs), ⟨pd, cd, pf, cf, pi, ci', pb, cb⟩, efs, epf, ecf, eis, epi, eci⟩ : AtA)] rfl (at1_8 (k := w8.heap.size + 1) (by simp) rfl) (by rw [uh hm]; simp only [List.length_cons, List.length_nil]; unfold maxLen; omega) (by rw [uh hm]; simp only [List.length_cons, List.length_nil]; omega) ?_; intro v9 w9 O9 G9; have Z9 := hide (((uh X98).below (bl_tr (al1p _ _) (al1p _ _))).grown8 ((uh OW7).below (bl_tr (uh D8) (bl_tr (al1p _ _) (al1p _ _)))) (by decide) G9); have HK9 : Hid (∀ k, wr.heap.size ≤ k → k < w8.heap.size → w9.heap[k]? = w8.heap[k]?) := hide (fun k h1 h2 => (G9.block k (by simp; omega) (fun e => by have := uh HOB k e.symm; omega)).trans ((bl_tr (al1p _ _) (al1p _ _)).block k h2)); have HS9 : Hid (w8.heap.size ≤ w9.heap.size) := hide (Nat.le_trans (by simp; omega) G9.size); obtain ⟨q9, c9, e9, N9⟩ := NoIn.with8 ((uh HS0).below8 (bl_tr (uh B4) O9.2)) (w0 := w3) (fun x hx => (List.mem_append.1 hx).elim (fun h => ((uh HS0).below8 (bl_tr (uh B4) O9.2)).2.2.2.2.1 x (skip_mem h)) (fun h => by rw [List.mem_singleton.1 h]; exact uh HA2 _ O9.2)) O9; rw [uh HM9] at e9; subst e9; have CR3 := hide (cresolve8_any (NoA.put ⟨op, nm, ins, qi, ci, outs, qo, co, ats, some ⟨b5, o5, none⟩, ca⟩ (skipR ats K N ++ [(⟨en, ek, ef, 0, es, (ty, ds, fs, is, bs), ⟨pd, cd, pf, cf, pi, ci', pb, cb⟩, efs, epf, ecf, eis, epi, eci⟩ : AtA)]) q9 c9) W.heap.size _ (N9.set8 (j := 4) (u := .slice q9 (m + 1) c9) (uh Z9) (by have := uh ZX; omega)) (fun x hx => (List.mem_append.1 hx).elim (fun h => (uh HU0).1 x (skip_mem h)) (fun h => by rw [List.mem_singleton.1 h]; exact uh HUK))); rw [uh HRV9 q9 c9] at CR3; simp only [noCells, NoA.put, strV, uh HM9] at CR3; have B9 := hide (Below.setCell O9.2 (p := ⟨w3.heap.size, 4, none⟩) (Nat.le_refl _) (.slice q9 (m + 1) c9)); have z9 := (uh Z9).cell; have f9 := (uh Z9).frozen; have l9 := (uh Z9).lt; clear O9 G9 N9)))
          refine (uh CR3).mono ?_
          rintro e w11 ⟨cs11, rfl, hs11, hb11⟩
          have HC11 := hide hs11.ones
          have HS11 := hide hs11
          have BY : Hid (Below w3.heap.size w3 w11) := hide (bl_tr (uh B9) hb11)
          have HK11 : Hid (∀ k, wr.heap.size ≤ k → k < w8.heap.size → w11.heap[k]? = w8.heap[k]?) := hide (fun k h1 h2 => by
            have z := uh HS9
            have z2 := uh ZW
            have e1 : (w9.setCell ⟨w3.heap.size, 4, none⟩ (.slice q9 (m + 1) c9)).heap[k]? = w9.heap[k]? := Below.heap_setCell _ _ _ _ (by simp only; omega)
            exact ((hb11.block k (by simp [World.setCell]; omega)).trans e1).trans (uh HK9 k h1 h2))
          have HZ11 : Hid (w8.heap.size ≤ w11.heap.size) := hide (by have := hb11.size; simp [World.setCell] at this; have := uh HS9; omega)
          have T7 := hide (((uh HS7).below (uh D8)).hold (uh HZ11) (uh HK11))
          have V13b : Hid (Box w11 w7.heap.size cs7 45) := hide ((uh HK11 _ (uh ZW).1 (uh V13).lt).trans (uh V13))
          have Y7b := hide ((uh Y7).below (uh BY))
          have u3 : ((0 : Int) == 0) = true := rfl
          clear hs11 hb11 CR3 HK9 HK11 HRV9 HA2 x9 z9 f9 l9
          go_wp2_with (first | (refine wpList_store8 rfl _ _ rfl rfl rfl (Box.new _ _ _) (uh HC11).1 rfl (uh HC11).2 ?_; intro w12 b12 s12 z12; have D12 := hide (bl_tr7 (al1p _ _) s12.1); have V17 := hide b12; have V13c := hide ((uh V13b).below (uh D12)); have Y7c := hide ((uh Y7b).below (uh D12)); clear b12 s12 z12) | (refine wpList_load8g (by rfl) _ rfl rfl (uh V13c) (uh HC7).1 ?_) | (refine wpList_load8g (by rfl) _ rfl rfl (uh V17) (uh HC11).1 ?_))
          refine (csame8_any _ ((uh T7).below (uh D12)) ((uh HS11).below (uh D12))).mono ?_
          rintro e w13 ⟨rfl, hb13⟩
          have ka := (box_i8 ((uh Y7c).below hb13) (uh HS2) (k := 16) (by omega) rfl).1
          have kb := (box_i8 ((uh V13c).below hb13) (uh HS7) (k := 16) (by omega) rfl).1
          rw [uh hs16] at ka
          obtain ⟨sx, hsx⟩ : ∃ s, (t2 16).x = s := ⟨_, rfl⟩
          rw [hsx] at ka kb
          clear hsx
          have ts : (sx == sx) = true := by simp
          have B13 := hide (bl_tr (uh B4) (bl_tr (bl_tr (uh BY) (uh D12)) hb13))
          clear hb13
          go_wp2_with fail
          go_ret
          exact ⟨rfl, uh B13⟩
        by_cases e8 : en = [99, 101, 105, 108, 95, 109, 111, 100, 101]
        ·
          have n0 : ((strOfNums en).toList == [97, 120, 105, 115]) = false := lit_no8 (uh HNM) [97, 120, 105, 115] rfl _ rfl e0
          have n1 : ((strOfNums en).toList == [97, 108, 112, 104, 97]) = false := lit_no8 (uh HNM) [97, 108, 112, 104, 97] rfl _ rfl e1
          have n2 : ((strOfNums en).toList == [98, 101, 116, 97]) = false := lit_no8 (uh HNM) [98, 101, 116, 97] rfl _ rfl e2
          have n3 : ((strOfNums en).toList == [101, 112, 115, 105, 108, 111, 110]) = false := lit_no8 (uh HNM) [101, 112, 115, 105, 108, 111, 110] rfl _ rfl e3
          have n4 : ((strOfNums en).toList == [107, 101, 101, 112, 100, 105, 109, 115]) = false := lit_no8 (uh HNM) [107, 101, 101, 112, 100, 105, 109, 115] rfl _ rfl e4
          have n5 : ((strOfNums en).toList == [116, 114, 97, 110, 115, 65]) = false := lit_no8 (uh HNM) [116, 114, 97, 110, 115, 65] rfl _ rfl e5
          have n6 : ((strOfNums en).toList == [116, 114, 97, 110, 115, 66]) = false := lit_no8 (uh HNM) [116, 114, 97, 110, 115, 66] rfl _ rfl e6
          have n7 : ((strOfNums en).toList == [102, 109, 111, 100]) = false := lit_no8 (uh HNM) [102, 109, 111, 100] rfl _ rfl e7
          have n8 : ((strOfNums en).toList == [99, 101, 105, 108, 95, 109, 111, 100, 101]) = true := lit_yes8 (uh HNM) [99, 101, 105, 108, 95, 109, 111, 100, 101] rfl _ rfl e8
          have HD2 := uh HD (AtA.d ⟨en, ek, ef, 0, es, (ty, ds, fs, is, bs), ⟨pd, cd, pf, cf, pi, ci', pb, cb⟩, efs, epf, ecf, eis, epi, eci⟩) (by show dflA t2 (en, ek, ef, ei, es, (ty, ds, fs, is, bs), efs, eis) = some _; unfold dflA; simp only; rw [if_neg e0, if_neg e1, if_neg e2, if_neg e3, if_neg e4, if_neg e5, if_neg e6, if_neg e7, if_pos e8]; rfl)
          have hs16 := hide HD2.2
          have HRV9 : Hid (∀ q c, resV (NoA.put ⟨op, nm, ins, qi, ci, outs, qo, co, ats, some ⟨b5, o5, none⟩, ca⟩ (skipR ats K N ++ [(⟨en, ek, ef, 0, es, (ty, ds, fs, is, bs), ⟨pd, cd, pf, cf, pi, ci', pb, cb⟩, efs, epf, ecf, eis, epi, eci⟩ : AtA)]) q c).d = (r1, t2, 0)) := hide (fun q c => by
            show resV (op, nm, ins, outs, (skipR ats K N ++ [(⟨en, ek, ef, 0, es, (ty, ds, fs, is, bs), ⟨pd, cd, pf, cf, pi, ci', pb, cb⟩, efs, epf, ecf, eis, epi, eci⟩ : AtA)]).map AtA.d) = _
            rw [List.map_append]
            exact HD2.1)
          have HA2 : Hid (∀ v, Below w3.heap.size w3 v → AtIn W.heap.size v ⟨en, ek, ef, 0, es, (ty, ds, fs, is, bs), ⟨pd, cd, pf, cf, pi, ci', pb, cb⟩, efs, epf, ecf, eis, epi, eci⟩) := hide (fun v hv => by
            have h := (uh HIN).below8 hv
            exact ⟨h.1, h.2.1, h.2.2.1, rfl, h.2.2.2.2⟩)
          have HM9 : Hid ((skipR ats K N ++ [(⟨en, ek, ef, 0, es, (ty, ds, fs, is, bs), ⟨pd, cd, pf, cf, pi, ci', pb, cb⟩, efs, epf, ecf, eis, epi, eci⟩ : AtA)]).length = m + 1) := hide (by rw [List.length_append, uh hm]; rfl)
          clear HD2 e0 e1 e2 e3 e4 e5 e6 e7 e8
          go_wp2_with (first
            | (refine wpList_store8 rfl _ _ rfl rfl rfl (Box.new _ _ _) (uh HC7).1 rfl (uh HC7).2 ?_; intro w8 b8 s8 z8; have D8 := hide (bl_tr7 (al1p _ _) s8.1); have V13 := hide b8; have g13 := b8.lt; have B8 := hide (bl_tr (uh BW7) (uh D8)); have X98 := hide ((uh X97).below (uh D8)); have x9 := (uh X98).cell; have g9 := (uh X98).lt; obtain ⟨x0, k0, k1, k2, k3, k4, k5, k6, k7, k8, k9, k10, k11⟩ := uh KA _ (uh B8); clear b8 s8 z8)
            | (at_builtin; (refine wpList_append_rc atWd noAtA rfl _ _ 34 rfl w3 52 i1 _ 208 Try.underlying34 hi1 y1 z1 b1 rfl _ (skipR ats K N) rfl ((uh OW7).below (bl_tr (uh D8) (bl_tr (al1p _ _) (al1p _ _)))) _ _ [(⟨en, ek, ef, 0, es, (ty, ds, fs, is, bs), ⟨pd, cd, pf, cf, pi, ci', pb, cb⟩, efs, epf, ecf, eis, epi, eci⟩ : AtA)] rfl (at1_8 (k := w8.heap.size + 1) (by simp) rfl) (by rw [uh hm]; simp only [List.length_cons, List.length_nil]; unfold maxLen; omega) (by rw [uh hm]; simp only [List.length_cons, List.length_nil]; omega) ?_; intro v9 w9 O9 G9; have Z9 := hide (((uh X98).below (bl_tr (al1p _ _) (al1p _ _))).grown8 ((uh OW7).below (bl_tr (uh D8) (bl_tr (al1p _ _) (al1p _ _)))) (by decide) G9); have HK9 : Hid (∀ k, wr.heap.size ≤ k → k < w8.heap.size → w9.heap[k]? = w8.heap[k]?) := hide (fun k h1 h2 => (G9.block k (by simp; omega) (fun e => by have := uh HOB k e.symm; omega)).trans ((bl_tr (al1p _ _) (al1p _ _)).block k h2)); have HS9 : Hid (w8.heap.size ≤ w9.heap.size) := hide (Nat.le_trans (by simp; omega) G9.size); obtain ⟨q9, c9, e9, N9⟩ := NoIn.with8 ((uh HS0).below8 (bl_tr (uh B4) O9.2)) (w0 := w3) (fun x hx => (List.mem_append.1 hx).elim (fun h => ((uh HS0).below8 (bl_tr (uh B4) O9.2)).2.2.2.2.1 x (skip_mem h)) (fun h => by rw [List.mem_singleton.1 h]; exact uh HA2 _ O9.2)) O9; rw [uh HM9] at e9; subst e9; have CR3 := hide (cresolve8_any (NoA.put ⟨op, nm, ins, qi, ci, outs, qo, co, ats, some ⟨b5, o5, none⟩, ca⟩ (skipR ats K N ++ [(⟨en, ek, ef, 0, es, (ty, ds, fs, is, bs), ⟨pd, cd, pf, cf, pi, ci', pb, cb⟩, efs, epf, ecf, eis, epi, eci⟩ : AtA)]) q9 c9) W.heap.size _ (N9.set8 (j := 4) (u := .slice q9 (m + 1) c9) (uh Z9) (by have := uh ZX; omega)) (fun x hx => (List.mem_append.1 hx).elim (fun h => (uh HU0).1 x (skip_mem h)) (fun h => by rw [List.mem_singleton.1 h]; exact uh HUK))); rw [uh HRV9 q9 c9] at CR3; simp only [noCells, NoA.put, strV, uh HM9] at CR3; have B9 := hide (Below.setCell O9.2 (p := ⟨w3.heap.size, 4, none⟩) (Nat.le_refl _) (.slice q9 (m + 1) c9)); have z9 := (uh Z9).cell; have f9 := (uh Z9).frozen; have l9 := (uh Z9).lt; clear O9 G9 N9)))
          refine (uh CR3).mono ?_
          rintro e w11 ⟨cs11, rfl, hs11, hb11⟩
          have HC11 := hide hs11.ones
          have HS11 := hide hs11
          have BY : Hid (Below w3.heap.size w3 w11) := hide (bl_tr (uh B9) hb11)
          have HK11 : Hid (∀ k, wr.heap.size ≤ k → k < w8.heap.size → w11.heap[k]? = w8.heap[k]?) := hide (fun k h1 h2 => by
            have z := uh HS9
            have z2 := uh ZW
            have e1 : (w9.setCell ⟨w3.heap.size, 4, none⟩ (.slice q9 (m + 1) c9)).heap[k]? = w9.heap[k]? := Below.heap_setCell _ _ _ _ (by simp only; omega)
            exact ((hb11.block k (by simp [World.setCell]; omega)).trans e1).trans (uh HK9 k h1 h2))
          have HZ11 : Hid (w8.heap.size ≤ w11.heap.size) := hide (by have := hb11.size; simp [World.setCell] at this; have := uh HS9; omega)
          have T7 := hide (((uh HS7).below (uh D8)).hold (uh HZ11) (uh HK11))
          have V13b : Hid (Box w11 w7.heap.size cs7 45) := hide ((uh HK11 _ (uh ZW).1 (uh V13).lt).trans (uh V13))
          have Y7b := hide ((uh Y7).below (uh BY))
          have u3 : ((0 : Int) == 0) = true := rfl
          clear hs11 hb11 CR3 HK9 HK11 HRV9 HA2 x9 z9 f9 l9
          go_wp2_with (first | (refine wpList_store8 rfl _ _ rfl rfl rfl (Box.new _ _ _) (uh HC11).1 rfl (uh HC11).2 ?_; intro w12 b12 s12 z12; have D12 := hide (bl_tr7 (al1p _ _) s12.1); have V17 := hide b12; have V13c := hide ((uh V13b).below (uh D12)); have Y7c := hide ((uh Y7b).below (uh D12)); clear b12 s12 z12) | (refine wpList_load8g (by rfl) _ rfl rfl (uh V13c) (uh HC7).1 ?_) | (refine wpList_load8g (by rfl) _ rfl rfl (uh V17) (uh HC11).1 ?_))
          refine (csame8_any _ ((uh T7).below (uh D12)) ((uh HS11).below (uh D12))).mono ?_
          rintro e w13 ⟨rfl, hb13⟩
          have ka := (box_i8 ((uh Y7c).below hb13) (uh HS2) (k := 16) (by omega) rfl).1
          have kb := (box_i8 ((uh V13c).below hb13) (uh HS7) (k := 16) (by omega) rfl).1
          rw [uh hs16] at ka
          obtain ⟨sx, hsx⟩ : ∃ s, (t2 16).x = s := ⟨_, rfl⟩
          rw [hsx] at ka kb
          clear hsx
          have ts : (sx == sx) = true := by simp
          have B13 := hide (bl_tr (uh B4) (bl_tr (bl_tr (uh BY) (uh D12)) hb13))
          clear hb13
          go_wp2_with fail
          go_ret
          exact ⟨rfl, uh B13⟩
        by_cases e9 : en = [97, 108, 108, 111, 119, 122, 101, 114, 111]
        ·
          have n0 : ((strOfNums en).toList == [97, 120, 105, 115]) = false := lit_no8 (uh HNM) [97, 120, 105, 115] rfl _ rfl e0
          have n1 : ((strOfNums en).toList == [97, 108, 112, 104, 97]) = false := lit_no8 (uh HNM) [97, 108, 112, 104, 97] rfl _ rfl e1
          have n2 : ((strOfNums en).toList == [98, 101, 116, 97]) = false := lit_no8 (uh HNM) [98, 101, 116, 97] rfl _ rfl e2
          have n3 : ((strOfNums en).toList == [101, 112, 115, 105, 108, 111, 110]) = false := lit_no8 (uh HNM) [101, 112, 115, 105, 108, 111, 110] rfl _ rfl e3
          have n4 : ((strOfNums en).toList == [107, 101, 101, 112, 100, 105, 109, 115]) = false := lit_no8 (uh HNM) [107, 101, 101, 112, 100, 105, 109, 115] rfl _ rfl e4
          have n5 : ((strOfNums en).toList == [116, 114, 97, 110, 115, 65]) = false := lit_no8 (uh HNM) [116, 114, 97, 110, 115, 65] rfl _ rfl e5
          have n6 : ((strOfNums en).toList == [116, 114, 97, 110, 115, 66]) = false := lit_no8 (uh HNM) [116, 114, 97, 110, 115, 66] rfl _ rfl e6
          have n7 : ((strOfNums en).toList == [102, 109, 111, 100]) = false := lit_no8 (uh HNM) [102, 109, 111, 100] rfl _ rfl e7
          have n8 : ((strOfNums en).toList == [99, 101, 105, 108, 95, 109, 111, 100, 101]) = false := lit_no8 (uh HNM) [99, 101, 105, 108, 95, 109, 111, 100, 101] rfl _ rfl e8
          have n9 : ((strOfNums en).toList == [97, 108, 108, 111, 119, 122, 101, 114, 111]) = true := lit_yes8 (uh HNM) [97, 108, 108, 111, 119, 122, 101, 114, 111] rfl _ rfl e9
          have HD2 := uh HD (AtA.d ⟨en, ek, ef, 0, es, (ty, ds, fs, is, bs), ⟨pd, cd, pf, cf, pi, ci', pb, cb⟩, efs, epf, ecf, eis, epi, eci⟩) (by show dflA t2 (en, ek, ef, ei, es, (ty, ds, fs, is, bs), efs, eis) = some _; unfold dflA; simp only; rw [if_neg e0, if_neg e1, if_neg e2, if_neg e3, if_neg e4, if_neg e5, if_neg e6, if_neg e7, if_neg e8, if_pos e9]; rfl)
          have hs16 := hide HD2.2
          have HRV9 : Hid (∀ q c, resV (NoA.put ⟨op, nm, ins, qi, ci, outs, qo, co, ats, some ⟨b5, o5, none⟩, ca⟩ (skipR ats K N ++ [(⟨en, ek, ef, 0, es, (ty, ds, fs, is, bs), ⟨pd, cd, pf, cf, pi, ci', pb, cb⟩, efs, epf, ecf, eis, epi, eci⟩ : AtA)]) q c).d = (r1, t2, 0)) := hide (fun q c => by
            show resV (op, nm, ins, outs, (skipR ats K N ++ [(⟨en, ek, ef, 0, es, (ty, ds, fs, is, bs), ⟨pd, cd, pf, cf, pi, ci', pb, cb⟩, efs, epf, ecf, eis, epi, eci⟩ : AtA)]).map AtA.d) = _
            rw [List.map_append]
            exact HD2.1)
          have HA2 : Hid (∀ v, Below w3.heap.size w3 v → AtIn W.heap.size v ⟨en, ek, ef, 0, es, (ty, ds, fs, is, bs), ⟨pd, cd, pf, cf, pi, ci', pb, cb⟩, efs, epf, ecf, eis, epi, eci⟩) := hide (fun v hv => by
            have h := (uh HIN).below8 hv
            exact ⟨h.1, h.2.1, h.2.2.1, rfl, h.2.2.2.2⟩)
          have HM9 : Hid ((skipR ats K N ++ [(⟨en, ek, ef, 0, es, (ty, ds, fs, is, bs), ⟨pd, cd, pf, cf, pi, ci', pb, cb⟩, efs, epf, ecf, eis, epi, eci⟩ : AtA)]).length = m + 1) := hide (by rw [List.length_append, uh hm]; rfl)
          clear HD2 e0 e1 e2 e3 e4 e5 e6 e7 e8 e9
          go_wp2_with (first
            | (refine wpList_store8 rfl _ _ rfl rfl rfl (Box.new _ _ _) (uh HC7).1 rfl (uh HC7).2 ?_; intro w8 b8 s8 z8; have D8 := hide (bl_tr7 (al1p _ _) s8.1); have V13 := hide b8; have g13 := b8.lt; have B8 := hide (bl_tr (uh BW7) (uh D8)); have X98 := hide ((uh X97).below (uh D8)); have x9 := (uh X98).cell; have g9 := (uh X98).lt; obtain ⟨x0, k0, k1, k2, k3, k4, k5, k6, k7, k8, k9, k10, k11⟩ := uh KA _ (uh B8); clear b8 s8 z8)
            | (at_builtin; (refine wpList_append_rc atWd noAtA rfl _ _ 34 rfl w3 52 i1 _ 208 Try.underlying34 hi1 y1 z1 b1 rfl _ (skipR ats K N) rfl ((uh OW7).below (bl_tr (uh D8) (bl_tr (al1p _ _) (al1p _ _)))) _ _ [(⟨en, ek, ef, 0, es, (ty, ds, fs, is, bs), ⟨pd, cd, pf, cf, pi, ci', pb, cb⟩, efs, epf, ecf, eis, epi, eci⟩ : AtA)] rfl (at1_8 (k := w8.heap.size + 1) (by simp) rfl) (by rw [uh hm]; simp only [List.length_cons, List.length_nil]; unfold maxLen; omega) (by rw [uh hm]; simp only [List.length_cons, List.length_nil]; omega) ?_; intro v9 w9 O9 G9; have Z9 := hide (((uh X98).below (bl_tr (al1p _ _) (al1p _ _))).grown8 ((uh OW7).below (bl_tr (uh D8) (bl_tr (al1p _ _) (al1p _ _)))) (by decide) G9); have HK9 : Hid (∀ k, wr.heap.size ≤ k → k < w8.heap.size → w9.heap[k]? = w8.heap[k]?) := hide (fun k h1 h2 => (G9.block k (by simp; omega) (fun e => by have := uh HOB k e.symm; omega)).trans ((bl_tr (al1p _ _) (al1p _ _)).block k h2)); have HS9 : Hid (w8.heap.size ≤ w9.heap.size) := hide (Nat.le_trans (by simp; omega) G9.size); obtain ⟨q9, c9, e9, N9⟩ := NoIn.with8 ((uh HS0).below8 (bl_tr (uh B4) O9.2)) (w0 := w3) (fun x hx => (List.mem_append.1 hx).elim (fun h => ((uh HS0).below8 (bl_tr (uh B4) O9.2)).2.2.2.2.1 x (skip_mem h)) (fun h => by rw [List.mem_singleton.1 h]; exact uh HA2 _ O9.2)) O9; rw [uh HM9] at e9; subst e9; have CR3 := hide (cresolve8_any (NoA.put ⟨op, nm, ins, qi, ci, outs, qo, co, ats, some ⟨b5, o5, none⟩, ca⟩ (skipR ats K N ++ [(⟨en, ek, ef, 0, es, (ty, ds, fs, is, bs), ⟨pd, cd, pf, cf, pi, ci', pb, cb⟩, efs, epf, ecf, eis, epi, eci⟩ : AtA)]) q9 c9) W.heap.size _ (N9.set8 (j := 4) (u := .slice q9 (m + 1) c9) (uh Z9) (by have := uh ZX; omega)) (fun x hx => (List.mem_append.1 hx).elim (fun h => (uh HU0).1 x (skip_mem h)) (fun h => by rw [List.mem_singleton.1 h]; exact uh HUK))); rw [uh HRV9 q9 c9] at CR3; simp only [noCells, NoA.put, strV, uh HM9] at CR3; have B9 := hide (Below.setCell O9.2 (p := ⟨w3.heap.size, 4, none⟩) (Nat.le_refl _) (.slice q9 (m + 1) c9)); have z9 := (uh Z9).cell; have f9 := (uh Z9).frozen; have l9 := (uh Z9).lt; clear O9 G9 N9)))
          refine (uh CR3).mono ?_
          rintro e w11 ⟨cs11, rfl, hs11, hb11⟩
          have HC11 := hide hs11.ones
          have HS11 := hide hs11
          have BY : Hid (Below w3.heap.size w3 w11) := hide (bl_tr (uh B9) hb11)
          have HK11 : Hid (∀ k, wr.heap.size ≤ k → k < w8.heap.size → w11.heap[k]? = w8.heap[k]?) := hide (fun k h1 h2 => by
            have z := uh HS9
            have z2 := uh ZW
            have e1 : (w9.setCell ⟨w3.heap.size, 4, none⟩ (.slice q9 (m + 1) c9)).heap[k]? = w9.heap[k]? := Below.heap_setCell _ _ _ _ (by simp only; omega)
            exact ((hb11.block k (by simp [World.setCell]; omega)).trans e1).trans (uh HK9 k h1 h2))
          have HZ11 : Hid (w8.heap.size ≤ w11.heap.size) := hide (by have := hb11.size; simp [World.setCell] at this; have := uh HS9; omega)
          have T7 := hide (((uh HS7).below (uh D8)).hold (uh HZ11) (uh HK11))
          have V13b : Hid (Box w11 w7.heap.size cs7 45) := hide ((uh HK11 _ (uh ZW).1 (uh V13).lt).trans (uh V13))
          have Y7b := hide ((uh Y7).below (uh BY))
          have u3 : ((0 : Int) == 0) = true := rfl
          clear hs11 hb11 CR3 HK9 HK11 HRV9 HA2 x9 z9 f9 l9
          go_wp2_with (first | (refine wpList_store8 rfl _ _ rfl rfl rfl (Box.new _ _ _) (uh HC11).1 rfl (uh HC11).2 ?_; intro w12 b12 s12 z12; have D12 := hide (bl_tr7 (al1p _ _) s12.1); have V17 := hide b12; have V13c := hide ((uh V13b).below (uh D12)); have Y7c := hide ((uh Y7b).below (uh D12)); clear b12 s12 z12) | (refine wpList_load8g (by rfl) _ rfl rfl (uh V13c) (uh HC7).1 ?_) | (refine wpList_load8g (by rfl) _ rfl rfl (uh V17) (uh HC11).1 ?_))
          refine (csame8_any _ ((uh T7).below (uh D12)) ((uh HS11).below (uh D12))).mono ?_
          rintro e w13 ⟨rfl, hb13⟩
          have ka := (box_i8 ((uh Y7c).below hb13) (uh HS2) (k := 16) (by omega) rfl).1
          have kb := (box_i8 ((uh V13c).below hb13) (uh HS7) (k := 16) (by omega) rfl).1
          rw [uh hs16] at ka
          obtain ⟨sx, hsx⟩ : ∃ s, (t2 16).x = s := ⟨_, rfl⟩
          rw [hsx] at ka kb
          clear hsx
          have ts : (sx == sx) = true := by simp
          have B13 := hide (bl_tr (uh B4) (bl_tr (bl_tr (uh BY) (uh D12)) hb13))
          clear hb13
          go_wp2_with fail
          go_ret
          exact ⟨rfl, uh B13⟩
        have n0 : ((strOfNums en).toList == [97, 120, 105, 115]) = false := lit_no8 (uh HNM) [97, 120, 105, 115] rfl _ rfl e0
        have n1 : ((strOfNums en).toList == [97, 108, 112, 104, 97]) = false := lit_no8 (uh HNM) [97, 108, 112, 104, 97] rfl _ rfl e1
        have n2 : ((strOfNums en).toList == [98, 101, 116, 97]) = false := lit_no8 (uh HNM) [98, 101, 116, 97] rfl _ rfl e2
        have n3 : ((strOfNums en).toList == [101, 112, 115, 105, 108, 111, 110]) = false := lit_no8 (uh HNM) [101, 112, 115, 105, 108, 111, 110] rfl _ rfl e3
        have n4 : ((strOfNums en).toList == [107, 101, 101, 112, 100, 105, 109, 115]) = false := lit_no8 (uh HNM) [107, 101, 101, 112, 100, 105, 109, 115] rfl _ rfl e4
        have n5 : ((strOfNums en).toList == [116, 114, 97, 110, 115, 65]) = false := lit_no8 (uh HNM) [116, 114, 97, 110, 115, 65] rfl _ rfl e5
        have n6 : ((strOfNums en).toList == [116, 114, 97, 110, 115, 66]) = false := lit_no8 (uh HNM) [116, 114, 97, 110, 115, 66] rfl _ rfl e6
        have n7 : ((strOfNums en).toList == [102, 109, 111, 100]) = false := lit_no8 (uh HNM) [102, 109, 111, 100] rfl _ rfl e7
        have n8 : ((strOfNums en).toList == [99, 101, 105, 108, 95, 109, 111, 100, 101]) = false := lit_no8 (uh HNM) [99, 101, 105, 108, 95, 109, 111, 100, 101] rfl _ rfl e8
        have n9 : ((strOfNums en).toList == [97, 108, 108, 111, 119, 122, 101, 114, 111]) = false := lit_no8 (uh HNM) [97, 108, 108, 111, 119, 122, 101, 114, 111] rfl _ rfl e9
        go_wp2_with (refine wpList_store8 rfl _ _ rfl rfl rfl (Box.new _ _ _) (uh HC7).1 rfl (uh HC7).2 ?_; intro w8 b8 s8 z8; have D8 := hide (bl_tr7 (al1p _ _) s8.1); have B8 := hide (bl_tr (uh BW7) (uh D8)); obtain ⟨x0, k0, k1, k2, k3, k4, k5, k6, k7, k8, k9, k10, k11⟩ := uh KA _ (uh B8); clear b8 s8 z8)
        go_ret
        exact ⟨rfl, bl_tr (uh B4) (bl_tr (uh B8) (al1p _ _))⟩

set_option maxRecDepth 100000 in
theorem contract (H : Type) (enc : TypeId × Value → H) (W : World) (base : Nat) (args : Array Value) (ds gs : List (DataW H)) (before : List MemPlace)
    (hval0 : ∀ (j : Nat) t v, Try.f7.params[j]? = some t → args[j]? = some v → Value.okWide Try.prog W .any base t v)
    (hW : DataW.Whole enc Try.prog Try.f7.params.toList Rows.opsDefaultsSpec.vars false W args.toList ds gs before) (hsz0 : (DataW.weightsEach Try.prog (Try.f7.params.toList ++ Rows.opsDefaultsSpec.plain.varTypes Try.prog) (ds ++ gs)).all (· ≤ reachBytes) = true) :
    Calls Try.prog 7 args W fun e W' => ∃ v, e = .returned v ∧ Rows.opsDefaultsSpec.post enc Try.prog Try.f7 false true false false W args v W' := by
  have hval : ∀ (j : Nat) t v, Try.f7.params[j]? = some t → args[j]? = some v → Value.okWide Try.prog W .any base t v := hval0
  have hW' := hW
  obtain ⟨p, q, hA0, hV, rfl, hfz, hnd⟩ := hW
  have hA : DataW.TrodAll enc Try.prog W 0 (fun _ => true) true Try.f7.params.toList args.toList ds p := hA0
  have hsz : (DataW.weightsEach Try.prog (Try.f7.params.toList ++ Rows.opsDefaultsSpec.plain.varTypes Try.prog) (ds ++ gs)).all (· ≤ reachBytes) = true := hsz0
  clear hsz0
  rw [Try.params7] at hA hval hsz
  obtain ⟨v0, vs0, d0, ds0, pl0, q0, hargs, rfl, rfl, h0, r0⟩ := trodAll_cons hA
  obtain ⟨v1, vs1, d1, ds1, pl1, q1, rfl, rfl, rfl, h1, r1⟩ := trodAll_cons r0
  obtain ⟨rfl, rfl, rfl⟩ := trodAll_nil r1
  obtain rfl : args = #[v0, v1] := by cases args; simp_all
  obtain ⟨rfl, rfl⟩ := trodVars_none hV
  have h0k := h0
  obtain ⟨N0, rfl, s0, g0⟩ := no8_open (hval 0 36 v0 rfl rfl) h0
  have hlt0 : ∀ y ∈ pl0, y.block < W.heap.size := fun y hy => hW'.lt y (by simp [hy])
  have u0 : NoSz N0 := g0 (fun m hm => by have h9 := List.all_eq_true.1 hsz m (DataW.weights_mem_each (j := 0) rfl rfl m hm); simpa using h9)
  obtain ⟨a1, rfl, rfl, rfl, w1⟩ := open_int Try.underlying3 (hval 1 3 v1 rfl rfl) h1
  clear hA0 hval0
  simp only [List.append_nil] at hW'
  refine (walk N0 a1 W s0 u0 w1).mono fun e W' ⟨he, bel⟩ => ?_
  subst he
  exact ⟨_, rfl, _, _, _, [], _, [], hW', trodAll_mk1 (shut_bool Try.underlying4 _), (trodAll_cons_mk (Below.trod laidOut (by kernel_rfl) (of_decide_eq_true (by kernel_rfl)) h0k bel hlt0) (trodAll_cons_mk (shut_int Try.underlying3 w1) trodAll_mk0)), rfl, bel.frame _, fun h => by cases h⟩

set_option maxRecDepth 100000 in
theorem lifted (os : Os) (started : os.Started) (H : Type) (enc : TypeId × Value → H) :
    ReturnsInHanded {} Try.checked os 7 .any (Rows.opsDefaultsSpec.pre6 enc Try.prog Try.f7 Rows.opsDefaultsRow.domain false) (Rows.opsDefaultsSpec.post enc Try.prog Try.f7 false true false false) := by
  refine returnsInHanded_of_change_sized (C := Try.checked) own started (by kernel_rfl) Try.func7
    (ChangeSpec.witness6 (enc := enc) (C := Try.checked) false ⟨#[], #[.agg #[.string { data := #[] }, .string { data := #[] }, .slice none 0 0, .slice none 0 0, .slice none 0 0], .int .i64 0], []⟩ 8 (by kernel_rfl) (by kernel_rfl) (by kernel_rfl) (by kernel_rfl)) ?_
  intro W base args ds gs before hval hW hcnd hsz _
  exact contract H enc W base args ds gs before hval hW hsz

theorem proved : Rows.OpsDefaultsSaid :=
  OpenClaim.holds_of_wide 7 Try.f7 rfl rfl rfl rfl rfl rfl rfl ⟨rfl, rfl, rfl, rfl, rfl⟩ rfl rfl rfl rfl rfl (by kernel_rfl) Try.func7 (by kernel_rfl)
    (of_decide_eq_true (by kernel_rfl)) (by unfold Func.isWrapper; first | (rw [if_pos (by decide +kernel)]; kernel_rfl) | (rw [if_neg (by decide +kernel)]; exact ⟨rfl, rfl⟩))
    (fun os started H enc _ => lifted os started H enc)
#print axioms proved
end Go.Proofs.Ytkpmfkkfcikfhaa.opsDefaults
