import Derived.Test.YtkpmfkkfcikfhaaRows
import Derived.WalkKit
import Derived.ProofKit
import Derived.OpenShut
import Derived.Below
import Derived.Carry
import Derived.SizedLaws
import Derived.Test.YtkpmfkkfcikfhaaV52
import Derived.Test.YtkpmfkkfcikfhaaV47
import Derived.Test.YtkpmfkkfcikfhaaV50

/- For all nodes and places: attributes in another order say the same; no condition. -/
namespace Go.Proofs.Ytkpmfkkfcikfhaa.opsOrder
open Go.ChangeShapes Go.WideShapes Go.ChangeAt Go.RowKit
set_option linter.unusedVariables false

theorem own : ownKnob Try.prog.godebug = none := by kernel_rfl
theorem laidOut : laidOutB Try.prog = true := by kernel_rfl

set_option maxRecDepth 100000 in
set_option linter.unusedSimpArgs false in
set_option maxHeartbeats 8000000 in
/-- The statement's call returns true, whatever came in. -/
theorem walk (N0 : NoA) (a1 : Int) (W : World) (s0 : NoIn W.heap.size W N0) (u0 : NoSz N0) (w1 : (Lit.int .i64 a1).wf = true) :
    Calls Try.prog 5 #[.agg (noCells N0).toArray, .int .i64 a1] W fun e W' => e = .returned (.bool true) ∧ Below W.heap.size W W' := by
  have CR := hide (fun v (hv : Below W.heap.size W v) => cresolve8_any N0 W.heap.size v (s0.below8 hv) u0.1)
  have HS0 := hide s0
  have HU0 := hide u0
  clear s0 u0
  obtain ⟨op, nm, ins, qi, ci, outs, qo, co, ats, qa, ca⟩ := N0
  simp only [noCells, strV] at CR ⊢
  obtain ⟨N, hN⟩ : ∃ N, ats.length = N := ⟨_, rfl⟩
  have HLN := hide hN
  rw [hN] at CR ⊢
  have hcap : ats.length ≤ ca := (uh HS0).2.2.2.2.2.1.1
  have hsz : ca * 208 ≤ 140737488351232 := (uh HU0).2
  rw [hN] at hcap
  clear hN
  obtain ⟨R, hR⟩ : ∃ R, resV (NoA.d ⟨op, nm, ins, qi, ci, outs, qo, co, ats, qa, ca⟩) = R := ⟨_, rfl⟩
  rw [hR] at CR
  obtain ⟨r1, r2, r3⟩ := R
  simp only at CR
  have HR := hide hR
  clear hR
  have hand := and65535_8 a1
  have hM0 : 0 ≤ a1 % 65536 ∧ a1 % 65536 < 65536 := ⟨Int.emod_nonneg _ (by decide), Int.emod_lt_of_pos _ (by decide)⟩
  generalize a1 % 65536 = M at hand hM0
  obtain ⟨M', rfl⟩ : ∃ M' : Nat, M = M' := ⟨M.toNat, by omega⟩
  have hM : M' < 65536 := by omega
  clear hM0 w1
  obtain ⟨K, hK⟩ : ∃ K : Nat, K = if 0 < N then M' % N else 0 := ⟨_, rfl⟩
  have KN : K < N ∨ ats = [] := by
    by_cases h : 0 < N
    · rw [if_pos h] at hK; exact .inl (by rw [hK]; exact Nat.mod_lt _ h)
    · exact .inr (List.eq_nil_of_length_eq_zero (by rw [uh HLN]; omega))
  have HK := hide hK
  have HKN := hide KN
  clear hK KN
  go_enter Try.func5, Try.ntmps5
  go_wp2_with fail
  refine (awake8_any _).mono ?_
  rintro e w1 ⟨rfl, hb⟩
  have X0 := hide (Box.below (Box.new W #[.string (strOfNums op), .string (strOfNums nm), .slice qi ins.length ci, .slice qo outs.length co, .slice qa N ca] 36) hb)
  have B1 := hide (bl_tr (al1p _ _) hb)
  clear hb
  have x0 := (uh X0).cell
  go_wp2_with fail
  refine (uh CR _ (uh B1)).mono ?_
  rintro e w2 ⟨cs2, rfl, hs2, hb2⟩
  have HC2 := hide hs2.ones
  have HS2 := hide hs2
  have B2 := hide (bl_tr (uh B1) hb2)
  replace X0 := hide ((uh X0).below hb2)
  clear hs2 hb2 x0 B1 CR
  have HN0 : Hid (0 < N → (Int.tmod (M' : Int) (N : Int) = (K : Int))) := hide (fun h => by
    rw [uh HK, if_pos h, Int.tmod_eq_emod_of_nonneg (Int.natCast_nonneg _)]; rfl)
  have HN1 : Hid (¬ 0 < N → K = 0) := hide (fun h => by rw [uh HK, if_neg h])
  by_cases hn0 : 0 < N
  · have tg : decide ((0 : Int) < (N : Int)) = true := decide_eq_true (by omega)
    have hnz : ((N : Int) == 0) = false := by rw [beq_eq_false_iff_ne]; omega
    have hrm := uh HN0 hn0
    go_wp2_with (refine wpList_store8 rfl _ _ rfl rfl rfl (Box.new _ _ _) (uh HC2).1 rfl (uh HC2).2 ?_; intro w3 b3 s3 z3; have B3 : Hid (Below w2.heap.size w2 w3) := hide (bl_tr7 (al1p _ _) s3.1); have Y0 := hide ((uh X0).below (uh B3)); have Y7 := hide b3; have B4 := hide (bl_tr (uh B2) (uh B3)); have x0 := (uh Y0).cell; have xl0 := (uh Y0).lt; clear b3 s3 z3)
    have RAT : Hid (Rc 12 atCells noAtA w3 qa ca ats) := hide ((uh HS0).below8 (uh B4)).2.2.2.2.2.1
    clear tg hnz hrm hand x0 xl0
    go_loopw [11] (fun iv wr => ∃ n : Nat, ∃ i : Int, iv = .int .i64 i ∧ i = (N : Int) - 1 - n ∧ n ≤ N ∧ ∃ q c, Hid (Box wr w3.heap.size #[.string (strOfNums op), .string (strOfNums nm), .slice qi ins.length ci, .slice qo outs.length co, .slice q n c] 36) ∧ Hid (OwnR 52 12 atCells w3 wr (.slice q n c) (revR ats K n))) (fun iv _ => (intOf iv + 1).toNat)
    case atStart => exact ⟨0, _, rfl, by omega, by omega, none, 0, hide (Box.new _ _ _), hide (OwnR.nil _ (al1p _ _))⟩
    case round =>
      obtain ⟨n, i, rfl, hi0, hn, q, c, hX9, hO⟩ := hrel
      have BW := hide (uh hO).2
      have Y0r := hide ((uh Y0).below (uh BW))
      have x0 := (uh Y0r).cell
      have x9 := (uh hX9).cell
      by_cases hlt : n < N
      · have hi : decide ((0 : Int) ≤ i) = true := by simp; omega
        have hnz : ((N : Int) == 0) = false := by rw [beq_eq_false_iff_ne]; omega
        obtain ⟨J, hJ⟩ : ∃ J, (N - 1 - n + K) % N = J := ⟨_, rfl⟩
        have hJl : J < N := by rw [← hJ]; exact Nat.mod_lt _ (by omega)
        have hKl : K < N := by
          rcases uh HKN with h | h
          · exact h
          · have := uh HLN; rw [h] at this; simp at this; omega
        obtain ⟨s, hs⟩ : ∃ s : Int, i + (K : Int) = s := ⟨_, rfl⟩
        have hw : IntKind.i64.wrap (i + (K : Int)) = s := by rw [IntKind.wrap_i64]; omega
        have hrm : Int.tmod s (N : Int) = (J : Int) := by
          have e : s = ((N - 1 - n + K : Nat) : Int) := by omega
          rw [e, Int.tmod_eq_emod_of_nonneg (Int.natCast_nonneg _), ← Int.natCast_emod, hJ]
        have j0 : (0 : Int) ≤ (J : Int) := by omega
        have nz1 : ¬ N = 0 := by omega
        have nz2 : ¬ (N : Int) = 0 := by omega
        have j1 : (J : Int) < (N : Int) := by omega
        obtain ⟨b5, o5, rfl, hb5, hc5⟩ := (uh RAT).lies (by rw [uh HLN]; omega)
        have hE := hc5 J (by rw [uh HLN]; exact hJl)
        have HRV := hide (revR_succ ats K n)
        rw [uh HLN, hJ] at HRV
        obtain ⟨a, ha⟩ : ∃ a, ats.getD J noAtA = a := ⟨_, rfl⟩
        rw [ha] at hE HRV
        obtain ⟨en, ek, ef, ei, es, ⟨ty, ds, fs, is, bs⟩, ⟨pd, cd, pf, cf, pi, ci', pb, cb⟩, efs, epf, ecf, eis, epi, eci⟩ := a
        have KA : Hid (∀ v, Below w3.heap.size w3 v → (∀ j, v.cell? ⟨W.heap.size, j, none⟩ = (#[.string (strOfNums op), .string (strOfNums nm), .slice qi ins.length ci, .slice qo outs.length co, .slice (some ⟨b5, o5, none⟩) N ca] : Array Value)[j]?) ∧ v.cell? ⟨b5, o5 + J * 12, none⟩ = some (.string (strOfNums en)) ∧ v.cell? ⟨b5, o5 + J * 12 + 1, none⟩ = some (.int .i64 ek) ∧ v.cell? ⟨b5, o5 + J * 12 + 2, none⟩ = some (.int .u32 ef) ∧ v.cell? ⟨b5, o5 + J * 12 + 3, none⟩ = some (.int .i64 ei) ∧ v.cell? ⟨b5, o5 + J * 12 + 4, none⟩ = some (.string (strOfNums es)) ∧ v.cell? ⟨b5, o5 + J * 12 + 5, none⟩ = some (.int .i64 ty) ∧ v.cell? ⟨b5, o5 + J * 12 + 6, none⟩ = some (.slice pd ds.length cd) ∧ v.cell? ⟨b5, o5 + J * 12 + 7, none⟩ = some (.slice pf fs.length cf) ∧ v.cell? ⟨b5, o5 + J * 12 + 8, none⟩ = some (.slice pi is.length ci') ∧ v.cell? ⟨b5, o5 + J * 12 + 9, none⟩ = some (.slice pb bs.length cb) ∧ v.cell? ⟨b5, o5 + J * 12 + 10, none⟩ = some (.slice epf efs.length ecf) ∧ v.cell? ⟨b5, o5 + J * 12 + 11, none⟩ = some (.slice epi eis.length eci)) := hide (fun v hv => ⟨((uh Y0).below hv).cell, (by have h := (World.cell?_of_block (hv.block b5 hb5)).trans (hE 0 _ rfl); simpa [strV] using h), (World.cell?_of_block (hv.block b5 hb5)).trans (hE 1 _ rfl), (World.cell?_of_block (hv.block b5 hb5)).trans (hE 2 _ rfl), (World.cell?_of_block (hv.block b5 hb5)).trans (hE 3 _ rfl), (World.cell?_of_block (hv.block b5 hb5)).trans (hE 4 _ rfl), (World.cell?_of_block (hv.block b5 hb5)).trans (hE 5 _ rfl), (World.cell?_of_block (hv.block b5 hb5)).trans (hE 6 _ rfl), (World.cell?_of_block (hv.block b5 hb5)).trans (hE 7 _ rfl), (World.cell?_of_block (hv.block b5 hb5)).trans (hE 8 _ rfl), (World.cell?_of_block (hv.block b5 hb5)).trans (hE 9 _ rfl), (World.cell?_of_block (hv.block b5 hb5)).trans (hE 10 _ rfl), (World.cell?_of_block (hv.block b5 hb5)).trans (hE 11 _ rfl)⟩)
        have HI0 := hide hi0
        have ii0 : (0 : Int) ≤ i := by omega
        have ii1 : i < (N : Int) := by omega
        clear hc5 hE ha hJ hKl hs hi0
        have DD : Hid (Below wr.heap.size wr (wr.alloc (Obj.cells #[.string (strOfNums en), .int .i64 ek, .int .u32 ef, .int .i64 ei, .string (strOfNums es), .int .i64 ty, .slice pd ds.length cd, .slice pf fs.length cf, .slice pi is.length ci', .slice pb bs.length cb, .slice epf efs.length ecf, .slice epi eis.length eci] 52)).drew) := hide (bl_tr (al1p _ _) (bdrew8 _))
        have D1 := hide (bl_tr (uh BW) (bdrew8 _))
        have D2 := hide (bl_tr (uh BW) (uh DD))
        have x9d := ((uh hX9).below (bdrew8 _)).cell
        have x9a := ((uh hX9).below (uh DD)).cell
        obtain ⟨i1, hi1, y1, z1, b1⟩ := info_parts Try.info8Attr
        go_wp2_with fail
        refine wp_region_held_drew (S := fun v => (∀ j, v.cell? ⟨W.heap.size, j, none⟩ = (#[.string (strOfNums op), .string (strOfNums nm), .slice qi ins.length ci, .slice qo outs.length co, .slice (some ⟨b5, o5, none⟩) N ca] : Array Value)[j]?) ∧ v.cell? ⟨b5, o5 + J * 12, none⟩ = some (.string (strOfNums en)) ∧ v.cell? ⟨b5, o5 + J * 12 + 1, none⟩ = some (.int .i64 ek) ∧ v.cell? ⟨b5, o5 + J * 12 + 2, none⟩ = some (.int .u32 ef) ∧ v.cell? ⟨b5, o5 + J * 12 + 3, none⟩ = some (.int .i64 ei) ∧ v.cell? ⟨b5, o5 + J * 12 + 4, none⟩ = some (.string (strOfNums es)) ∧ v.cell? ⟨b5, o5 + J * 12 + 5, none⟩ = some (.int .i64 ty) ∧ v.cell? ⟨b5, o5 + J * 12 + 6, none⟩ = some (.slice pd ds.length cd) ∧ v.cell? ⟨b5, o5 + J * 12 + 7, none⟩ = some (.slice pf fs.length cf) ∧ v.cell? ⟨b5, o5 + J * 12 + 8, none⟩ = some (.slice pi is.length ci') ∧ v.cell? ⟨b5, o5 + J * 12 + 9, none⟩ = some (.slice pb bs.length cb) ∧ v.cell? ⟨b5, o5 + J * 12 + 10, none⟩ = some (.slice epf efs.length ecf) ∧ v.cell? ⟨b5, o5 + J * 12 + 11, none⟩ = some (.slice epi eis.length eci)) (by kernel_rfl) (uh KA _ (uh D1)) (fun hHeld => ?_)
        refine wpAnyH_take (i := 0) (oi := { dst := some 42, op := _, type := _, pos := _, after := _, guard := _ }) (v := ?vv1) rfl (by kernel_rfl) (by kernel_rfl) (by kernel_rfl) (fun _ _ _ h => h) (Or.inl ⟨by rfl, ?hy1⟩) (by assumption) ?rest1
        case hy1 => (intro w hSw; (try dsimp only at hSw); go_simp; (first | done | with_reducible rfl))
        (try simp only [Act.put, List.setIfInBounds_toArray, List.set_cons_zero, List.set_cons_succ])
        refine wpAnyH_take (i := 2) (oi := { dst := some 44, op := _, type := _, pos := _, after := _, guard := _ }) (v := ?vv2) rfl (by kernel_rfl) (by kernel_rfl) (by kernel_rfl) (fun _ _ _ h => h) (Or.inl ⟨by rfl, ?hy2⟩) (by assumption) ?rest2
        case hy2 => (intro w hSw; (try dsimp only at hSw); go_simp; (first | done | with_reducible rfl))
        (try simp only [Act.put, List.setIfInBounds_toArray, List.set_cons_zero, List.set_cons_succ])
        refine wpAnyH_take (i := 3) (oi := { dst := some 45, op := _, type := _, pos := _, after := _, guard := _ }) (v := ?vv3) rfl (by kernel_rfl) (by kernel_rfl) (by kernel_rfl) (fun _ _ _ h => h) (Or.inl ⟨by rfl, ?hy3⟩) (by assumption) ?rest3
        case hy3 => (intro w hSw; (try dsimp only at hSw); go_simp; (first | done | with_reducible rfl))
        (try simp only [Act.put, List.setIfInBounds_toArray, List.set_cons_zero, List.set_cons_succ])
        refine wpAnyH_take (i := 4) (oi := { dst := some 46, op := _, type := _, pos := _, after := _, guard := _ }) (v := ?vv4) rfl (by kernel_rfl) (by kernel_rfl) (by kernel_rfl) (fun _ _ _ h => h) (Or.inl ⟨by rfl, ?hy4⟩) (by assumption) ?rest4
        case hy4 => (intro w hSw; (try dsimp only at hSw); go_simp; (first | done | with_reducible rfl))
        (try simp only [Act.put, List.setIfInBounds_toArray, List.set_cons_zero, List.set_cons_succ])
        refine wpAnyH_take (i := 5) (oi := { dst := some 47, op := _, type := _, pos := _, after := _, guard := _ }) (v := ?vv5) rfl (by kernel_rfl) (by kernel_rfl) (by kernel_rfl) (fun _ _ _ h => h) (Or.inl ⟨by rfl, ?hy5⟩) (by assumption) ?rest5
        case hy5 => (intro w hSw; (try dsimp only at hSw); go_simp; (first | done | with_reducible rfl))
        (try simp only [Act.put, List.setIfInBounds_toArray, List.set_cons_zero, List.set_cons_succ])
        refine wpAnyH_take (i := 6) (oi := { dst := some 48, op := _, type := _, pos := _, after := _, guard := _ }) (v := ?vv6) rfl (by kernel_rfl) (by kernel_rfl) (by kernel_rfl) (fun _ _ _ h => h) (Or.inl ⟨by rfl, ?hy6⟩) (by assumption) ?rest6
        case hy6 => (intro w hSw; (try dsimp only at hSw); go_simp; (first | done | with_reducible rfl))
        (try simp only [Act.put, List.setIfInBounds_toArray, List.set_cons_zero, List.set_cons_succ])
        refine wpAnyH_take (i := 7) (oi := { dst := some 49, op := _, type := _, pos := _, after := _, guard := _ }) (v := ?vv7) rfl (by kernel_rfl) (by kernel_rfl) (by kernel_rfl) (fun _ _ _ h => h) (Or.inl ⟨by rfl, ?hy7⟩) (by assumption) ?rest7
        case hy7 => (intro w hSw; (try dsimp only at hSw); go_simp; (first | done | with_reducible rfl))
        (try simp only [Act.put, List.setIfInBounds_toArray, List.set_cons_zero, List.set_cons_succ])
        refine wpAnyH_take (i := 8) (oi := { dst := some 50, op := _, type := _, pos := _, after := _, guard := _ }) (v := ?vv8) rfl (by kernel_rfl) (by kernel_rfl) (by kernel_rfl) (fun _ _ _ h => h) (Or.inl ⟨by rfl, ?hy8⟩) (by assumption) ?rest8
        case hy8 => (intro w hSw; (try dsimp only at hSw); go_simp; (first | done | with_reducible rfl))
        (try simp only [Act.put, List.setIfInBounds_toArray, List.set_cons_zero, List.set_cons_succ])
        refine wpAnyH_take (i := 9) (oi := { dst := some 51, op := _, type := _, pos := _, after := _, guard := _ }) (v := ?vv9) rfl (by kernel_rfl) (by kernel_rfl) (by kernel_rfl) (fun _ _ _ h => h) (Or.inl ⟨by rfl, ?hy9⟩) (by assumption) ?rest9
        case hy9 => (intro w hSw; (try dsimp only at hSw); go_simp; (first | done | with_reducible rfl))
        (try simp only [Act.put, List.setIfInBounds_toArray, List.set_cons_zero, List.set_cons_succ])
        refine wpAnyH_take (i := 10) (oi := { dst := some 52, op := _, type := _, pos := _, after := _, guard := _ }) (v := ?vv10) rfl (by kernel_rfl) (by kernel_rfl) (by kernel_rfl) (fun _ _ _ h => h) (Or.inl ⟨by rfl, ?hy10⟩) (by assumption) ?rest10
        case hy10 => (intro w hSw; (try dsimp only at hSw); go_simp; (first | done | with_reducible rfl))
        (try simp only [Act.put, List.setIfInBounds_toArray, List.set_cons_zero, List.set_cons_succ])
        refine wpAnyH_take (i := 11) (oi := { dst := some 53, op := _, type := _, pos := _, after := _, guard := _ }) (v := ?vv11) rfl (by kernel_rfl) (by kernel_rfl) (by kernel_rfl) (fun _ _ _ h => h) (Or.inl ⟨by rfl, ?hy11⟩) (by assumption) ?rest11
        case hy11 => (intro w hSw; (try dsimp only at hSw); go_simp; (first | done | with_reducible rfl))
        (try simp only [Act.put, List.setIfInBounds_toArray, List.set_cons_zero, List.set_cons_succ])
        refine wpAnyH_take (i := 12) (oi := { dst := some 54, op := _, type := _, pos := _, after := _, guard := _ }) (v := ?vv12) rfl (by kernel_rfl) (by kernel_rfl) (by kernel_rfl) (fun _ _ _ h => h) (Or.inl ⟨by rfl, ?hy12⟩) (by assumption) ?rest12
        case hy12 => (intro w hSw; (try dsimp only at hSw); go_simp; (first | done | with_reducible rfl))
        (try simp only [Act.put, List.setIfInBounds_toArray, List.set_cons_zero, List.set_cons_succ])
        refine wpAnyH_ready (rs := [1, 13]) (by kernel_rfl) (by simp) ?_
        refine AllReadyH.cons (o := { dst := some 43, op := _, type := _, pos := _, after := _, guard := _ }) rfl (fun KC hK => ?_) (AllReadyH.cons (o := { dst := some 55, op := _, type := _, pos := _, after := _, guard := _ }) rfl (fun KC hK => ?_) AllReadyH.nil)
        ·
          go_simp
          refine hK.out _ _ (uh KA _ (uh D1)) (fun hHeld2 => ?_)
          clear hK KC hHeld
          (try simp only [Act.put, List.setIfInBounds_toArray, List.set_cons_zero, List.set_cons_succ])
          refine wpAnyH_ready (rs := [13]) (by kernel_rfl) (by simp) ?_
          refine AllReadyH.cons (o := { dst := some 55, op := _, type := _, pos := _, after := _, guard := _ }) rfl (fun KC hK => ?_) AllReadyH.nil
          go_simp
          refine hK.out _ _ (uh KA _ (uh D2)) (fun hHeld3 => ?_)
          clear hK KC hHeld2
          (try simp only [Act.put, List.setIfInBounds_toArray, List.set_cons_zero, List.set_cons_succ])
          refine wpAnyH_ready (rs := [14]) (by kernel_rfl) (by simp) ?_
          refine AllReadyH.cons (o := { dst := some 56, op := _, type := _, pos := _, after := _, guard := _ }) rfl (fun KC hK => ?_) AllReadyH.nil
          (refine step_append_rc atWd noAtA rfl (.tmp 43) (.tmp 55) 34 rfl w3 52 i1 _ 208 Try.underlying34 hi1 y1 z1 b1 rfl _ (revR ats K n) (by simp [Act.eval]) ((uh hO).below (uh DD)) _ _ [(⟨en, ek, ef, ei, es, (ty, ds, fs, is, bs), ⟨pd, cd, pf, cf, pi, ci', pb, cb⟩, efs, epf, ecf, eis, epi, eci⟩ : AtA)] (by simp [Act.eval]) ((at1_8 rfl rfl).below (bdrew8 _)) (by rw [revR_len]; simp only [List.length_cons, List.length_nil]; unfold maxLen; omega) (by rw [revR_len]; simp only [List.length_cons, List.length_nil]; omega) ?_; intro v2 w5 O2 G2; have Z9 := hide (((uh hX9).below (uh DD)).grown8 ((uh hO).below (uh DD)) (by decide) G2); rw [← uh HRV] at O2; obtain ⟨q2, c2, e2, _⟩ := O2.form (z := noAtA) atWd; rw [revR_len] at e2; subst e2; have K2 := hide O2.2; have z9 := (uh Z9).cell; have f9 := (uh Z9).frozen; have l9 := (uh Z9).lt; replace O2 := hide O2; clear G2)
          refine hK.out _ _ (uh KA _ (uh K2)) (fun hHeld4 => ?_)
          clear hK KC hHeld3
          (try simp only [Act.put, List.setIfInBounds_toArray, List.set_cons_zero, List.set_cons_succ])
          refine wpAnyH_take (i := 15) (oi := { dst := some 57, op := _, type := _, pos := _, after := _, guard := _ }) (v := ?vv13) rfl (by kernel_rfl) (by kernel_rfl) (by kernel_rfl) (fun _ _ _ h => h) (Or.inl ⟨by rfl, ?hy13⟩) (by assumption) ?rest13
          case hy13 => (intro w hSw; (try dsimp only at hSw); go_simp; (first | done | with_reducible rfl))
          (try simp only [Act.put, List.setIfInBounds_toArray, List.set_cons_zero, List.set_cons_succ])
          refine wpAnyH_ready (rs := [16]) (by kernel_rfl) (by simp) ?_
          refine AllReadyH.cons (o := { dst := none, op := _, type := _, pos := _, after := _, guard := _ }) rfl (fun KC hK => ?_) AllReadyH.nil
          go_simp
          refine hK.out _ _ (uh KA _ (Below.setCell (uh K2) (p := ⟨w3.heap.size, 4, none⟩) (Nat.le_refl _) _)) (fun hHeld5 => ?_)
          clear hK KC hHeld4
          (try simp only [Act.put, List.setIfInBounds_toArray, List.set_cons_zero, List.set_cons_succ])
          refine wpAnyH_done (by kernel_rfl) ?_ _
          go_wp2_with fail
          go_roundw
          case rel => exact ⟨n + 1, i - 1, by go_num, by have := uh HI0; omega, by omega, q2, c2, hide ((uh Z9).same 4 _), hide ((uh O2).set8 (uh Z9) (by decide) (Nat.le_refl _))⟩
          case measure => simp [intOf]; omega
        ·
          go_simp
          refine hK.out _ _ (uh KA _ (uh D2)) (fun hHeld2 => ?_)
          clear hK KC hHeld
          (try simp only [Act.put, List.setIfInBounds_toArray, List.set_cons_zero, List.set_cons_succ])
          refine wpAnyH_ready (rs := [1]) (by kernel_rfl) (by simp) ?_
          refine AllReadyH.cons (o := { dst := some 43, op := _, type := _, pos := _, after := _, guard := _ }) rfl (fun KC hK => ?_) AllReadyH.nil
          go_simp
          refine hK.out _ _ (uh KA _ (uh D2)) (fun hHeld3 => ?_)
          clear hK KC hHeld2
          (try simp only [Act.put, List.setIfInBounds_toArray, List.set_cons_zero, List.set_cons_succ])
          refine wpAnyH_ready (rs := [14]) (by kernel_rfl) (by simp) ?_
          refine AllReadyH.cons (o := { dst := some 56, op := _, type := _, pos := _, after := _, guard := _ }) rfl (fun KC hK => ?_) AllReadyH.nil
          (refine step_append_rc atWd noAtA rfl (.tmp 43) (.tmp 55) 34 rfl w3 52 i1 _ 208 Try.underlying34 hi1 y1 z1 b1 rfl _ (revR ats K n) (by simp [Act.eval]) ((uh hO).below (uh DD)) _ _ [(⟨en, ek, ef, ei, es, (ty, ds, fs, is, bs), ⟨pd, cd, pf, cf, pi, ci', pb, cb⟩, efs, epf, ecf, eis, epi, eci⟩ : AtA)] (by simp [Act.eval]) ((at1_8 rfl rfl).below (bdrew8 _)) (by rw [revR_len]; simp only [List.length_cons, List.length_nil]; unfold maxLen; omega) (by rw [revR_len]; simp only [List.length_cons, List.length_nil]; omega) ?_; intro v2 w5 O2 G2; have Z9 := hide (((uh hX9).below (uh DD)).grown8 ((uh hO).below (uh DD)) (by decide) G2); rw [← uh HRV] at O2; obtain ⟨q2, c2, e2, _⟩ := O2.form (z := noAtA) atWd; rw [revR_len] at e2; subst e2; have K2 := hide O2.2; have z9 := (uh Z9).cell; have f9 := (uh Z9).frozen; have l9 := (uh Z9).lt; replace O2 := hide O2; clear G2)
          refine hK.out _ _ (uh KA _ (uh K2)) (fun hHeld4 => ?_)
          clear hK KC hHeld3
          (try simp only [Act.put, List.setIfInBounds_toArray, List.set_cons_zero, List.set_cons_succ])
          refine wpAnyH_take (i := 15) (oi := { dst := some 57, op := _, type := _, pos := _, after := _, guard := _ }) (v := ?vv14) rfl (by kernel_rfl) (by kernel_rfl) (by kernel_rfl) (fun _ _ _ h => h) (Or.inl ⟨by rfl, ?hy14⟩) (by assumption) ?rest14
          case hy14 => (intro w hSw; (try dsimp only at hSw); go_simp; (first | done | with_reducible rfl))
          (try simp only [Act.put, List.setIfInBounds_toArray, List.set_cons_zero, List.set_cons_succ])
          refine wpAnyH_ready (rs := [16]) (by kernel_rfl) (by simp) ?_
          refine AllReadyH.cons (o := { dst := none, op := _, type := _, pos := _, after := _, guard := _ }) rfl (fun KC hK => ?_) AllReadyH.nil
          go_simp
          refine hK.out _ _ (uh KA _ (Below.setCell (uh K2) (p := ⟨w3.heap.size, 4, none⟩) (Nat.le_refl _) _)) (fun hHeld5 => ?_)
          clear hK KC hHeld4
          (try simp only [Act.put, List.setIfInBounds_toArray, List.set_cons_zero, List.set_cons_succ])
          refine wpAnyH_done (by kernel_rfl) ?_ _
          go_wp2_with fail
          go_roundw
          case rel => exact ⟨n + 1, i - 1, by go_num, by have := uh HI0; omega, by omega, q2, c2, hide ((uh Z9).same 4 _), hide ((uh O2).set8 (uh Z9) (by decide) (Nat.le_refl _))⟩
          case measure => simp [intOf]; omega
      · have hi : decide ((0 : Int) ≤ i) = false := by simp; omega
        have en : n = N := by omega
        rw [en] at hX9 hO
        clear en
        have hp : (revR ats K N).Perm ats := by
          have h := revR_perm ats K (by rw [uh HLN]; exact uh HKN)
          rw [uh HLN] at h
          exact h
        obtain ⟨q', c', e', hN⟩ := NoIn.with8 (w0 := w3) ((uh HS0).below8 (bl_tr (uh B4) (uh BW))) (fun x hx => ((uh HS0).below8 (bl_tr (uh B4) (uh BW))).2.2.2.2.1 x (hp.mem_iff.1 hx)) (uh hO)
        rw [revR_len] at e'
        simp only [Value.slice.injEq, true_and] at e'
        obtain ⟨rfl, rfl⟩ := e'
        have CR2 := hide (cresolve8_any (NoA.put ⟨op, nm, ins, qi, ci, outs, qo, co, ats, qa, ca⟩ (revR ats K N) q c) W.heap.size wr hN (fun x hx => (uh HU0).1 x (hp.mem_iff.1 hx)))
        rw [show resV (NoA.put ⟨op, nm, ins, qi, ci, outs, qo, co, ats, qa, ca⟩ (revR ats K N) q c).d = resV (op, nm, ins, outs, (revR ats K N).map AtA.d) from rfl, (res_perm op nm ins outs (hp.map AtA.d)).trans (uh HR)] at CR2
        simp only [noCells, NoA.put, strV, revR_len] at CR2
        clear x9
        have x9 := (uh hX9).cell
        clear hi0 hp hN hO
        go_wp2_with fail
        refine (uh CR2).mono ?_
        rintro e w7 ⟨cs7, rfl, hs7, hb7⟩
        have HC7 := hide hs7.ones
        have HS7 := hide hs7
        have BW7 := hide (bl_tr (uh BW) hb7)
        have t1 : (r1 == r1) = true := by simp
        have t3 : (r3 == r3) = true := by simp
        clear hs7 hb7 CR2 x9 x0
        go_wp2_with (first | (refine wpList_store8 rfl _ _ rfl rfl rfl (Box.new _ _ _) (uh HC7).1 rfl (uh HC7).2 ?_; intro w8 b8 s8 z8; have D8 := hide (bl_tr7 (al1p _ _) s8.1); have V13 := hide b8; have V7 := hide ((uh Y7).below (bl_tr (uh BW7) (uh D8))); clear b8 s8 z8) | (refine wpList_load8g (by rfl) _ rfl rfl (uh V7) (uh HC2).1 ?_) | (refine wpList_load8g (by rfl) _ rfl rfl (uh V13) (uh HC7).1 ?_))
        refine (csame8_any _ (((uh HS2).below (uh B3)).below (bl_tr (uh BW7) (uh D8))) ((uh HS7).below (uh D8))).mono ?_
        rintro e w9 ⟨rfl, hb9⟩
        have B9 := hide (bl_tr (uh B4) (bl_tr (bl_tr (uh BW7) (uh D8)) hb9))
        clear hb9
        go_wp2_with fail
        go_ret
        exact ⟨rfl, uh B9⟩
  · have tg : decide ((0 : Int) < (N : Int)) = false := by simp; omega
    have hK0 := uh HN1 hn0
    subst hK0
    go_wp2_with (refine wpList_store8 rfl _ _ rfl rfl rfl (Box.new _ _ _) (uh HC2).1 rfl (uh HC2).2 ?_; intro w3 b3 s3 z3; have B3 : Hid (Below w2.heap.size w2 w3) := hide (bl_tr7 (al1p _ _) s3.1); have Y0 := hide ((uh X0).below (uh B3)); have Y7 := hide b3; have B4 := hide (bl_tr (uh B2) (uh B3)); have x0 := (uh Y0).cell; have xl0 := (uh Y0).lt; clear b3 s3 z3)
    have RAT : Hid (Rc 12 atCells noAtA w3 qa ca ats) := hide ((uh HS0).below8 (uh B4)).2.2.2.2.2.1
    clear tg hand x0 xl0
    go_loopw [11] (fun iv wr => ∃ n : Nat, ∃ i : Int, iv = .int .i64 i ∧ i = (N : Int) - 1 - n ∧ n ≤ N ∧ ∃ q c, Hid (Box wr w3.heap.size #[.string (strOfNums op), .string (strOfNums nm), .slice qi ins.length ci, .slice qo outs.length co, .slice q n c] 36) ∧ Hid (OwnR 52 12 atCells w3 wr (.slice q n c) (revR ats 0 n))) (fun iv _ => (intOf iv + 1).toNat)
    case atStart => exact ⟨0, _, rfl, by omega, by omega, none, 0, hide (Box.new _ _ _), hide (OwnR.nil _ (al1p _ _))⟩
    case round =>
      obtain ⟨n, i, rfl, hi0, hn, q, c, hX9, hO⟩ := hrel
      have BW := hide (uh hO).2
      have Y0r := hide ((uh Y0).below (uh BW))
      have x0 := (uh Y0r).cell
      have x9 := (uh hX9).cell
      by_cases hlt : n < N
      · exact absurd hlt (by omega)
      · have hi : decide ((0 : Int) ≤ i) = false := by simp; omega
        have en : n = N := by omega
        rw [en] at hX9 hO
        clear en
        have hp : (revR ats 0 N).Perm ats := by
          have h := revR_perm ats 0 (by rw [uh HLN]; exact uh HKN)
          rw [uh HLN] at h
          exact h
        obtain ⟨q', c', e', hN⟩ := NoIn.with8 (w0 := w3) ((uh HS0).below8 (bl_tr (uh B4) (uh BW))) (fun x hx => ((uh HS0).below8 (bl_tr (uh B4) (uh BW))).2.2.2.2.1 x (hp.mem_iff.1 hx)) (uh hO)
        rw [revR_len] at e'
        simp only [Value.slice.injEq, true_and] at e'
        obtain ⟨rfl, rfl⟩ := e'
        have CR2 := hide (cresolve8_any (NoA.put ⟨op, nm, ins, qi, ci, outs, qo, co, ats, qa, ca⟩ (revR ats 0 N) q c) W.heap.size wr hN (fun x hx => (uh HU0).1 x (hp.mem_iff.1 hx)))
        rw [show resV (NoA.put ⟨op, nm, ins, qi, ci, outs, qo, co, ats, qa, ca⟩ (revR ats 0 N) q c).d = resV (op, nm, ins, outs, (revR ats 0 N).map AtA.d) from rfl, (res_perm op nm ins outs (hp.map AtA.d)).trans (uh HR)] at CR2
        simp only [noCells, NoA.put, strV, revR_len] at CR2
        clear x9
        have x9 := (uh hX9).cell
        clear hi0 hp hN hO
        go_wp2_with fail
        refine (uh CR2).mono ?_
        rintro e w7 ⟨cs7, rfl, hs7, hb7⟩
        have HC7 := hide hs7.ones
        have HS7 := hide hs7
        have BW7 := hide (bl_tr (uh BW) hb7)
        have t1 : (r1 == r1) = true := by simp
        have t3 : (r3 == r3) = true := by simp
        clear hs7 hb7 CR2 x9 x0
        go_wp2_with (first | (refine wpList_store8 rfl _ _ rfl rfl rfl (Box.new _ _ _) (uh HC7).1 rfl (uh HC7).2 ?_; intro w8 b8 s8 z8; have D8 := hide (bl_tr7 (al1p _ _) s8.1); have V13 := hide b8; have V7 := hide ((uh Y7).below (bl_tr (uh BW7) (uh D8))); clear b8 s8 z8) | (refine wpList_load8g (by rfl) _ rfl rfl (uh V7) (uh HC2).1 ?_) | (refine wpList_load8g (by rfl) _ rfl rfl (uh V13) (uh HC7).1 ?_))
        refine (csame8_any _ (((uh HS2).below (uh B3)).below (bl_tr (uh BW7) (uh D8))) ((uh HS7).below (uh D8))).mono ?_
        rintro e w9 ⟨rfl, hb9⟩
        have B9 := hide (bl_tr (uh B4) (bl_tr (bl_tr (uh BW7) (uh D8)) hb9))
        clear hb9
        go_wp2_with fail
        go_ret
        exact ⟨rfl, uh B9⟩

set_option maxRecDepth 100000 in
theorem contract (H : Type) (enc : TypeId × Value → H) (W : World) (base : Nat) (args : Array Value) (ds gs : List (DataW H)) (before : List MemPlace)
    (hval0 : ∀ (j : Nat) t v, Try.f5.params[j]? = some t → args[j]? = some v → Value.okWide Try.prog W .any base t v)
    (hW : DataW.Whole enc Try.prog Try.f5.params.toList Rows.opsOrderSpec.vars false W args.toList ds gs before) (hsz0 : (DataW.weightsEach Try.prog (Try.f5.params.toList ++ Rows.opsOrderSpec.plain.varTypes Try.prog) (ds ++ gs)).all (· ≤ reachBytes) = true) :
    Calls Try.prog 5 args W fun e W' => ∃ v, e = .returned v ∧ Rows.opsOrderSpec.post enc Try.prog Try.f5 false true false false W args v W' := by
  have hval : ∀ (j : Nat) t v, Try.f5.params[j]? = some t → args[j]? = some v → Value.okWide Try.prog W .any base t v := hval0
  have hW' := hW
  obtain ⟨p, q, hA0, hV, rfl, hfz, hnd⟩ := hW
  have hA : DataW.TrodAll enc Try.prog W 0 (fun _ => true) true Try.f5.params.toList args.toList ds p := hA0
  have hsz : (DataW.weightsEach Try.prog (Try.f5.params.toList ++ Rows.opsOrderSpec.plain.varTypes Try.prog) (ds ++ gs)).all (· ≤ reachBytes) = true := hsz0
  clear hsz0
  rw [Try.params5] at hA hval hsz
  obtain ⟨v0, vs0, d0, ds0, pl0, q0, hargs, rfl, rfl, h0, r0⟩ := trodAll_cons hA
  obtain ⟨v1, vs1, d1, ds1, pl1, q1, rfl, rfl, rfl, h1, r1⟩ := trodAll_cons r0
  obtain ⟨rfl, rfl, rfl⟩ := trodAll_nil r1
  obtain rfl : args = #[v0, v1] := by cases args; simp_all
  obtain ⟨rfl, rfl⟩ := trodVars_none hV
  have h0k := h0
  obtain ⟨N0, rfl, s0, g0⟩ := no8_open (hval 0 36 v0 rfl rfl) h0
  have hlt0 : ∀ y ∈ pl0, y.block < W.heap.size := fun y hy => hW'.lt y (by simp [hy])
  have u0 : NoSz N0 := g0 (fun m hm => by have h9 := List.all_eq_true.1 hsz m (DataW.weights_mem_each (j := 0) rfl rfl m hm); simpa using h9)
  obtain ⟨a1, rfl, rfl, rfl, w1⟩ := open_int Try.underlying3 (hval 1 3 v1 rfl rfl) h1
  clear hA0 hval0
  simp only [List.append_nil] at hW'
  refine (walk N0 a1 W s0 u0 w1).mono fun e W' ⟨he, bel⟩ => ?_
  subst he
  exact ⟨_, rfl, _, _, _, [], _, [], hW', trodAll_mk1 (shut_bool Try.underlying4 _), (trodAll_cons_mk (Below.trod laidOut (by kernel_rfl) (of_decide_eq_true (by kernel_rfl)) h0k bel hlt0) (trodAll_cons_mk (shut_int Try.underlying3 w1) trodAll_mk0)), rfl, bel.frame _, fun h => by cases h⟩

set_option maxRecDepth 100000 in
theorem lifted (os : Os) (started : os.Started) (H : Type) (enc : TypeId × Value → H) :
    ReturnsInHanded {} Try.checked os 5 .any (Rows.opsOrderSpec.pre6 enc Try.prog Try.f5 Rows.opsOrderRow.domain false) (Rows.opsOrderSpec.post enc Try.prog Try.f5 false true false false) := by
  refine returnsInHanded_of_change_sized (C := Try.checked) own started (by kernel_rfl) Try.func5
    (ChangeSpec.witness6 (enc := enc) (C := Try.checked) false ⟨#[], #[.agg #[.string { data := #[] }, .string { data := #[] }, .slice none 0 0, .slice none 0 0, .slice none 0 0], .int .i64 0], []⟩ 8 (by kernel_rfl) (by kernel_rfl) (by kernel_rfl) (by kernel_rfl)) ?_
  intro W base args ds gs before hval hW hcnd hsz _
  exact contract H enc W base args ds gs before hval hW hsz

theorem proved : Rows.OpsOrderSaid :=
  OpenClaim.holds_of_wide 5 Try.f5 rfl rfl rfl rfl rfl rfl rfl ⟨rfl, rfl, rfl, rfl, rfl⟩ rfl rfl rfl rfl rfl (by kernel_rfl) Try.func5 (by kernel_rfl)
    (of_decide_eq_true (by kernel_rfl)) (by unfold Func.isWrapper; first | (rw [if_pos (by decide +kernel)]; kernel_rfl) | (rw [if_neg (by decide +kernel)]; exact ⟨rfl, rfl⟩))
    (fun os started H enc _ => lifted os started H enc)
#print axioms proved
end Go.Proofs.Ytkpmfkkfcikfhaa.opsOrder
