import Derived.Test.YtbmmcbagdomonaaGreatRows
import Derived.WalkKit
import Derived.ProofKit
import Derived.OpenShut
import Derived.Below
import Derived.Carry
import Derived.SizedLaws
import Derived.Test.YtbmmcbagdomonaaGreatV52

/- For all models: whether a model is taken, and how many nodes and values its graph has, does not hang on the order of its nodes; no condition. -/
namespace Go.Proofs.YtbmmcbagdomonaaGreat.graphTurned
open Go.ChangeShapes Go.WideShapes Go.ChangeAt Go.RowKit
set_option linter.unusedVariables false

theorem own : ownKnob Tryz.prog.godebug = none := by kernel_rfl
theorem laidOut : laidOutB Tryz.prog = true := by kernel_rfl

set_option maxRecDepth 100000 in
set_option linter.unusedSimpArgs false in
set_option maxHeartbeats 8000000 in
/-- The statement's call returns true, whatever came in. -/
theorem walk (M0 : MoA) (a1 : Int) (W : World) (s0 : MoIn W.heap.size W M0) (u0 : MoSz9 M0) (w1 : (Lit.int .i64 a1).wf = true) :
    Calls Tryz.prog 6 #[moV M0, .int .i64 a1] W fun e W' => e = .returned (.bool true) ∧ Below W.heap.size W W' := by
  have CR := hide (fun v (hv : Below W.heap.size W v) => cbuild9_any M0 W.heap.size v (s0.below hv) u0.1)
  have HS0 := hide s0
  have HU0 := hide u0
  clear s0 u0
  obtain ⟨ops, nm, nodes, qn, cn, inits, qi, ci, inp, qp, cp, out, qo, co⟩ := M0
  obtain ⟨MD, hMD⟩ : ∃ D, MoA.d ⟨ops, nm, nodes, qn, cn, inits, qi, ci, inp, qp, cp, out, qo, co⟩ = D := ⟨_, rfl⟩
  have HMD := hide hMD
  rw [hMD] at CR
  clear hMD
  simp only [moV, moCells, strV] at CR ⊢
  obtain ⟨N, hN⟩ : ∃ N, nodes.length = N := ⟨_, rfl⟩
  have HLN := hide hN
  rw [hN] at CR ⊢
  have hcap : nodes.length ≤ cn := (uh HS0).2.2.1.2.1.1
  have hsz : cn * 104 ≤ 140737488351232 := (uh HU0).2
  rw [hN] at hcap
  clear hN
  have hand := and1023_9 a1
  have hM0 : 0 ≤ a1 % 1024 ∧ a1 % 1024 < 1024 := ⟨Int.emod_nonneg _ (by decide), Int.emod_lt_of_pos _ (by decide)⟩
  generalize a1 % 1024 = M at hand hM0
  obtain ⟨M', rfl⟩ : ∃ M' : Nat, M = M' := ⟨M.toNat, by omega⟩
  have hM : M' < 1024 := by omega
  clear hM0 w1
  obtain ⟨K, hK⟩ : ∃ K : Nat, K = if 0 < N then M' % N else 0 := ⟨_, rfl⟩
  have KN : K < N ∨ nodes = [] := by
    by_cases h : 0 < N
    · rw [if_pos h] at hK; exact .inl (by rw [hK]; exact Nat.mod_lt _ h)
    · exact .inr (List.eq_nil_of_length_eq_zero (by rw [uh HLN]; omega))
  have HK := hide hK
  have HKN := hide KN
  clear hK KN
  go_enter Tryz.func6, Tryz.ntmps6
  go_wp2_with fail
  refine (awake9_any _).mono ?_
  rintro e w1 ⟨rfl, hb⟩
  have X0 := hide (Box.below (Box.new W #[.int .i64 ops, .string (strOfNums nm), .slice qn N cn, .slice qi inits.length ci, .slice qp inp.length cp, .slice qo out.length co] 26) hb)
  have B1 := hide (bl_tr (al1p _ _) hb)
  clear hb
  have x0 := (uh X0).cell
  go_wp2_with fail
  refine (uh CR _ (uh B1)).mono ?_
  rintro e w2 ⟨ga, rfl, hga, hgi, hb2⟩
  have GD := hide hga
  have B2 := hide (bl_tr (uh B1) hb2)
  have Y2 := hide ((uh X0).below hb2)
  clear hga hgi hb2 x0 B1 CR
  obtain ⟨gvals, gqv, gcv, gnodes, gqn, gcn, ginp, gqi, gci, gout, gqo, gco⟩ := ga
  simp only [grV, grCells]
  obtain ⟨w3, hw3⟩ : ∃ V, w2.alloc (.cells #[.slice gqv gvals.length gcv, .slice gqn gnodes.length gcn, .slice gqi ginp.length gci, .slice gqo gout.length gco] 32) = V := ⟨_, rfl⟩
  have G3 : Hid (Box w3 w2.heap.size #[.slice gqv gvals.length gcv, .slice gqn gnodes.length gcn, .slice gqi ginp.length gci, .slice gqo gout.length gco] 32) := hide (by rw [← hw3]; exact Box.new _ _ _)
  have K3 : Hid (Below w2.heap.size w2 w3) := hide (by rw [← hw3]; exact al1p _ _)
  have Y0 := hide ((uh Y2).below (uh K3))
  have y3 := (uh Y0).cell
  have y3l := (uh Y0).lt
  have B4 := hide (bl_tr (uh B2) (uh K3))
  clear K3
  go_upto_region 3 with fail
  (try rw [hw3])
  clear hw3
  obtain ⟨gb, hgb⟩ : ∃ g, w2.heap.size = g := ⟨_, rfl⟩
  rw [hgb] at G3 ⊢
  clear hgb Y2 B2
  obtain ⟨E1, hE1⟩ : ∃ E, (buildV MD).2.1 = E := ⟨_, rfl⟩
  obtain ⟨A1, hA1⟩ : ∃ E, (buildV MD).2.2 = E := ⟨_, rfl⟩
  have HE1 := hide hE1
  rw [hE1, hA1]
  clear hE1 hA1
  obtain ⟨i1, hi1, y1, z1, b1⟩ := info_parts Tryz.info9No
  have RAT : Hid (Rc 5 noCells noNoA w3 qn cn nodes) := hide ((uh HS0).below (uh B4)).2.2.1.2.1
  go_upto_region 7 with fail
  clear y3 y3l
  have HG3 := G3
  go_loopw [11] (fun iv wr => ∃ n : Nat, iv = .int .i64 n ∧ n ≤ N ∧ ∃ q c, Hid (Box wr w3.heap.size #[.int .i64 ops, .string (strOfNums nm), .slice q n c, .slice qi inits.length ci, .slice qp inp.length cp, .slice qo out.length co] 26) ∧ Hid (OwnR 55 5 noCells w3 wr (.slice q n c) (revN nodes K n))) (fun iv _ => N - (intOf iv).toNat)
  case atStart => exact ⟨0, rfl, by omega, none, 0, hide (Box.new _ _ _), hide (OwnR.nil _ (al1p _ _))⟩
  case round =>
    obtain ⟨n, rfl, hn, q, c, hX9, hO⟩ := hrel
    have BW := hide (uh hO).2
    have Y0r := hide ((uh Y0).below (uh BW))
    have x0 := (uh Y0r).cell
    have x9 := (uh hX9).cell
    by_cases hlt : n < N
    · have hi : (n : Int) < (N : Int) := by omega
      have hnz : ((N : Int) == 0) = false := by rw [beq_eq_false_iff_ne]; omega
      obtain ⟨J, hJ⟩ : ∃ J, (N - 1 - n + K) % N = J := ⟨_, rfl⟩
      have hJl : J < N := by rw [← hJ]; exact Nat.mod_lt _ (by omega)
      have hw1 : IntKind.i64.wrap ((N : Int) - 1) = (N : Int) - 1 := by rw [IntKind.wrap_i64]; omega
      have hw2 : IntKind.i64.wrap ((N : Int) - 1 - (n : Int)) = (N : Int) - 1 - (n : Int) := by rw [IntKind.wrap_i64]; omega
      have hw3 : IntKind.i64.wrap ((N : Int) - 1 - (n : Int) + (M' : Int)) = (N : Int) - 1 - (n : Int) + (M' : Int) := by rw [IntKind.wrap_i64]; omega
      have hrm : Int.tmod ((N : Int) - 1 - (n : Int) + (M' : Int)) (N : Int) = (J : Int) := by
        have e : (N : Int) - 1 - (n : Int) + (M' : Int) = ((N - 1 - n + M' : Nat) : Int) := by omega
        have hKe := uh HK
        rw [if_pos (by omega)] at hKe
        rw [e, Int.tmod_eq_emod_of_nonneg (Int.natCast_nonneg _), ← Int.natCast_emod, ← hJ, hKe, Nat.add_mod_mod]
      have j0 : (0 : Int) ≤ (J : Int) := by omega
      have nz1 : ¬ N = 0 := by omega
      have nz2 : ¬ (N : Int) = 0 := by omega
      have j1 : (J : Int) < (N : Int) := by omega
      obtain ⟨b5, o5, rfl, hb5, hc5⟩ := (uh RAT).lies (by rw [uh HLN]; omega)
      have hE := hc5 J (by rw [uh HLN]; exact hJl)
      have HRV := hide (revN_succ nodes K n)
      rw [uh HLN, hJ] at HRV
      obtain ⟨a, ha⟩ : ∃ a, nodes.getD J noNoA = a := ⟨_, rfl⟩
      rw [ha] at hE HRV
      obtain ⟨eop, enm, eins, eqi, eci, eouts, eqo, eco, eats, eqa, eca⟩ := a
      have KA : Hid (∀ v, Below w3.heap.size w3 v → (∀ j, v.cell? ⟨W.heap.size, j, none⟩ = (#[.int .i64 ops, .string (strOfNums nm), .slice (some ⟨b5, o5, none⟩) N cn, .slice qi inits.length ci, .slice qp inp.length cp, .slice qo out.length co] : Array Value)[j]?) ∧ v.cell? ⟨b5, o5 + J * 5, none⟩ = some (.string (strOfNums eop)) ∧ v.cell? ⟨b5, o5 + J * 5 + 1, none⟩ = some (.string (strOfNums enm)) ∧ v.cell? ⟨b5, o5 + J * 5 + 2, none⟩ = some (.slice eqi eins.length eci) ∧ v.cell? ⟨b5, o5 + J * 5 + 3, none⟩ = some (.slice eqo eouts.length eco) ∧ v.cell? ⟨b5, o5 + J * 5 + 4, none⟩ = some (.slice eqa eats.length eca)) := hide (fun v hv => ⟨((uh Y0).below hv).cell, (by have h := (World.cell?_of_block (hv.block b5 hb5)).trans (hE 0 _ rfl); simpa [strV] using h), (by have h := (World.cell?_of_block (hv.block b5 hb5)).trans (hE 1 _ rfl); simpa [strV] using h), (World.cell?_of_block (hv.block b5 hb5)).trans (hE 2 _ rfl), (World.cell?_of_block (hv.block b5 hb5)).trans (hE 3 _ rfl), (World.cell?_of_block (hv.block b5 hb5)).trans (hE 4 _ rfl)⟩)
      have ii0 : (0 : Int) ≤ (n : Int) := by omega
      clear hc5 hE ha hJ
      have DD : Hid (Below wr.heap.size wr (wr.alloc (Obj.cells #[.string (strOfNums eop), .string (strOfNums enm), .slice eqi eins.length eci, .slice eqo eouts.length eco, .slice eqa eats.length eca] 55)).drew) := hide (bl_tr (al1p _ _) (bdrew8 _))
      have D1 := hide (bl_tr (uh BW) (bdrew8 _))
      have D2 := hide (bl_tr (uh BW) (uh DD))
      have x9d := ((uh hX9).below (bdrew8 _)).cell
      have x9a := ((uh hX9).below (uh DD)).cell
      go_wp2_with fail
      refine wp_region_held_drew (S := fun v => (∀ j, v.cell? ⟨W.heap.size, j, none⟩ = (#[.int .i64 ops, .string (strOfNums nm), .slice (some ⟨b5, o5, none⟩) N cn, .slice qi inits.length ci, .slice qp inp.length cp, .slice qo out.length co] : Array Value)[j]?) ∧ v.cell? ⟨b5, o5 + J * 5, none⟩ = some (.string (strOfNums eop)) ∧ v.cell? ⟨b5, o5 + J * 5 + 1, none⟩ = some (.string (strOfNums enm)) ∧ v.cell? ⟨b5, o5 + J * 5 + 2, none⟩ = some (.slice eqi eins.length eci) ∧ v.cell? ⟨b5, o5 + J * 5 + 3, none⟩ = some (.slice eqo eouts.length eco) ∧ v.cell? ⟨b5, o5 + J * 5 + 4, none⟩ = some (.slice eqa eats.length eca)) (by kernel_rfl) (uh KA _ (uh D1)) (fun hHeld => ?_)
      refine wpAnyH_take (i := 0) (oi := { dst := some 32, op := _, type := _, pos := _, after := _, guard := _ }) (v := ?vv1) rfl (by kernel_rfl) (by kernel_rfl) (by kernel_rfl) (fun _ _ _ h => h) (Or.inl ⟨by rfl, ?hy1⟩) (by assumption) ?rest1
      case hy1 => (intro w hSw; (try dsimp only at hSw); go_simp; (first | done | with_reducible rfl))
      (try simp only [Act.put, List.setIfInBounds_toArray, List.set_cons_zero, List.set_cons_succ])
      refine wpAnyH_take (i := 2) (oi := { dst := some 34, op := _, type := _, pos := _, after := _, guard := _ }) (v := ?vv2) rfl (by kernel_rfl) (by kernel_rfl) (by kernel_rfl) (fun _ _ _ h => h) (Or.inl ⟨by rfl, ?hy2⟩) (by assumption) ?rest2
      case hy2 => (intro w hSw; (try dsimp only at hSw); go_simp; (first | done | with_reducible rfl))
      (try simp only [Act.put, List.setIfInBounds_toArray, List.set_cons_zero, List.set_cons_succ])
      refine wpAnyH_take (i := 3) (oi := { dst := some 35, op := _, type := _, pos := _, after := _, guard := _ }) (v := ?vv3) rfl (by kernel_rfl) (by kernel_rfl) (by kernel_rfl) (fun _ _ _ h => h) (Or.inl ⟨by rfl, ?hy3⟩) (by assumption) ?rest3
      case hy3 => (intro w hSw; (try dsimp only at hSw); go_simp; (first | done | with_reducible rfl))
      (try simp only [Act.put, List.setIfInBounds_toArray, List.set_cons_zero, List.set_cons_succ])
      refine wpAnyH_take (i := 4) (oi := { dst := some 36, op := _, type := _, pos := _, after := _, guard := _ }) (v := ?vv4) rfl (by kernel_rfl) (by kernel_rfl) (by kernel_rfl) (fun _ _ _ h => h) (Or.inl ⟨by rfl, ?hy4⟩) (by assumption) ?rest4
      case hy4 => (intro w hSw; (try dsimp only at hSw); go_simp; (first | done | with_reducible rfl))
      (try simp only [Act.put, List.setIfInBounds_toArray, List.set_cons_zero, List.set_cons_succ])
      refine wpAnyH_take (i := 5) (oi := { dst := some 37, op := _, type := _, pos := _, after := _, guard := _ }) (v := ?vv5) rfl (by kernel_rfl) (by kernel_rfl) (by kernel_rfl) (fun _ _ _ h => h) (Or.inl ⟨by rfl, ?hy5⟩) (by assumption) ?rest5
      case hy5 => (intro w hSw; (try dsimp only at hSw); go_simp; (first | done | with_reducible rfl))
      (try simp only [Act.put, List.setIfInBounds_toArray, List.set_cons_zero, List.set_cons_succ])
      refine wpAnyH_take (i := 6) (oi := { dst := some 38, op := _, type := _, pos := _, after := _, guard := _ }) (v := ?vv6) rfl (by kernel_rfl) (by kernel_rfl) (by kernel_rfl) (fun _ _ _ h => h) (Or.inl ⟨by rfl, ?hy6⟩) (by assumption) ?rest6
      case hy6 => (intro w hSw; (try dsimp only at hSw); go_simp; (first | done | with_reducible rfl))
      (try simp only [Act.put, List.setIfInBounds_toArray, List.set_cons_zero, List.set_cons_succ])
      refine wpAnyH_take (i := 7) (oi := { dst := some 39, op := _, type := _, pos := _, after := _, guard := _ }) (v := ?vv7) rfl (by kernel_rfl) (by kernel_rfl) (by kernel_rfl) (fun _ _ _ h => h) (Or.inl ⟨by rfl, ?hy7⟩) (by assumption) ?rest7
      case hy7 => (intro w hSw; (try dsimp only at hSw); go_simp; (first | done | with_reducible rfl))
      (try simp only [Act.put, List.setIfInBounds_toArray, List.set_cons_zero, List.set_cons_succ])
      refine wpAnyH_take (i := 8) (oi := { dst := some 40, op := _, type := _, pos := _, after := _, guard := _ }) (v := ?vv8) rfl (by kernel_rfl) (by kernel_rfl) (by kernel_rfl) (fun _ _ _ h => h) (Or.inl ⟨by rfl, ?hy8⟩) (by assumption) ?rest8
      case hy8 => (intro w hSw; (try dsimp only at hSw); go_simp; (first | done | with_reducible rfl))
      (try simp only [Act.put, List.setIfInBounds_toArray, List.set_cons_zero, List.set_cons_succ])
      refine wpAnyH_take (i := 9) (oi := { dst := some 41, op := _, type := _, pos := _, after := _, guard := _ }) (v := ?vv9) rfl (by kernel_rfl) (by kernel_rfl) (by kernel_rfl) (fun _ _ _ h => h) (Or.inl ⟨by rfl, ?hy9⟩) (by assumption) ?rest9
      case hy9 => (intro w hSw; (try dsimp only at hSw); go_simp; (first | done | with_reducible rfl))
      (try simp only [Act.put, List.setIfInBounds_toArray, List.set_cons_zero, List.set_cons_succ])
      refine wpAnyH_take (i := 10) (oi := { dst := some 42, op := _, type := _, pos := _, after := _, guard := _ }) (v := ?vv10) rfl (by kernel_rfl) (by kernel_rfl) (by kernel_rfl) (fun _ _ _ h => h) (Or.inl ⟨by rfl, ?hy10⟩) (by assumption) ?rest10
      case hy10 => (intro w hSw; (try dsimp only at hSw); go_simp; (first | done | with_reducible rfl))
      (try simp only [Act.put, List.setIfInBounds_toArray, List.set_cons_zero, List.set_cons_succ])
      refine wpAnyH_take (i := 11) (oi := { dst := some 43, op := _, type := _, pos := _, after := _, guard := _ }) (v := ?vv11) rfl (by kernel_rfl) (by kernel_rfl) (by kernel_rfl) (fun _ _ _ h => h) (Or.inl ⟨by rfl, ?hy11⟩) (by assumption) ?rest11
      case hy11 => (intro w hSw; (try dsimp only at hSw); go_simp; (first | done | with_reducible rfl))
      (try simp only [Act.put, List.setIfInBounds_toArray, List.set_cons_zero, List.set_cons_succ])
      refine wpAnyH_take (i := 12) (oi := { dst := some 44, op := _, type := _, pos := _, after := _, guard := _ }) (v := ?vv12) rfl (by kernel_rfl) (by kernel_rfl) (by kernel_rfl) (fun _ _ _ h => h) (Or.inl ⟨by rfl, ?hy12⟩) (by assumption) ?rest12
      case hy12 => (intro w hSw; (try dsimp only at hSw); go_simp; (first | done | with_reducible rfl))
      (try simp only [Act.put, List.setIfInBounds_toArray, List.set_cons_zero, List.set_cons_succ])
      refine wpAnyH_take (i := 13) (oi := { dst := some 45, op := _, type := _, pos := _, after := _, guard := _ }) (v := ?vv13) rfl (by kernel_rfl) (by kernel_rfl) (by kernel_rfl) (fun _ _ _ h => h) (Or.inl ⟨by rfl, ?hy13⟩) (by assumption) ?rest13
      case hy13 => (intro w hSw; (try dsimp only at hSw); go_simp; (first | done | with_reducible rfl))
      (try simp only [Act.put, List.setIfInBounds_toArray, List.set_cons_zero, List.set_cons_succ])
      refine wpAnyH_take (i := 14) (oi := { dst := some 46, op := _, type := _, pos := _, after := _, guard := _ }) (v := ?vv14) rfl (by kernel_rfl) (by kernel_rfl) (by kernel_rfl) (fun _ _ _ h => h) (Or.inl ⟨by rfl, ?hy14⟩) (by assumption) ?rest14
      case hy14 => (intro w hSw; (try dsimp only at hSw); go_simp; (first | done | with_reducible rfl))
      (try simp only [Act.put, List.setIfInBounds_toArray, List.set_cons_zero, List.set_cons_succ])
      refine wpAnyH_ready (rs := [1, 15]) (by kernel_rfl) (by simp) ?_
      refine AllReadyH.cons (o := { dst := some 33, op := _, type := _, pos := _, after := _, guard := _ }) rfl (fun KC hK => ?_) (AllReadyH.cons (o := { dst := some 47, op := _, type := _, pos := _, after := _, guard := _ }) rfl (fun KC hK => ?_) AllReadyH.nil)
      ·
        go_simp
        refine hK.out _ _ (uh KA _ (uh D1)) (fun hHeld2 => ?_)
        clear hK KC hHeld
        (try simp only [Act.put, List.setIfInBounds_toArray, List.set_cons_zero, List.set_cons_succ])
        refine wpAnyH_ready (rs := [15]) (by kernel_rfl) (by simp) ?_
        refine AllReadyH.cons (o := { dst := some 47, op := _, type := _, pos := _, after := _, guard := _ }) rfl (fun KC hK => ?_) AllReadyH.nil
        go_simp
        refine hK.out _ _ (uh KA _ (uh D2)) (fun hHeld3 => ?_)
        clear hK KC hHeld2
        (try simp only [Act.put, List.setIfInBounds_toArray, List.set_cons_zero, List.set_cons_succ])
        refine wpAnyH_ready (rs := [16]) (by kernel_rfl) (by simp) ?_
        refine AllReadyH.cons (o := { dst := some 48, op := _, type := _, pos := _, after := _, guard := _ }) rfl (fun KC hK => ?_) AllReadyH.nil
        (refine step_append_rc noWd noNoA rfl (.tmp 33) (.tmp 47) 22 rfl w3 55 i1 _ 104 Tryz.underlying22 hi1 y1 z1 b1 rfl _ (revN nodes K n) (by simp [Act.eval]) ((uh hO).below (uh DD)) _ _ [(⟨eop, enm, eins, eqi, eci, eouts, eqo, eco, eats, eqa, eca⟩ : NoA)] (by simp [Act.eval]) ((no1_9 rfl rfl).below (bdrew8 _)) (by rw [revN_len]; simp only [List.length_cons, List.length_nil]; unfold maxLen; omega) (by rw [revN_len]; simp only [List.length_cons, List.length_nil]; omega) ?_; intro v2 w5 O2 G2; have Z9 := hide (((uh hX9).below (uh DD)).grown8 ((uh hO).below (uh DD)) (by decide) G2); rw [← uh HRV] at O2; obtain ⟨q2, c2, e2, _⟩ := O2.form (z := noNoA) noWd; rw [revN_len] at e2; subst e2; have K2 := hide O2.2; have z9 := (uh Z9).cell; have f9 := (uh Z9).frozen; have l9 := (uh Z9).lt; replace O2 := hide O2; clear G2)
        refine hK.out _ _ (uh KA _ (uh K2)) (fun hHeld4 => ?_)
        clear hK KC hHeld3
        (try simp only [Act.put, List.setIfInBounds_toArray, List.set_cons_zero, List.set_cons_succ])
        refine wpAnyH_take (i := 17) (oi := { dst := some 49, op := _, type := _, pos := _, after := _, guard := _ }) (v := ?vv15) rfl (by kernel_rfl) (by kernel_rfl) (by kernel_rfl) (fun _ _ _ h => h) (Or.inl ⟨by rfl, ?hy15⟩) (by assumption) ?rest15
        case hy15 => (intro w hSw; (try dsimp only at hSw); go_simp; (first | done | with_reducible rfl))
        (try simp only [Act.put, List.setIfInBounds_toArray, List.set_cons_zero, List.set_cons_succ])
        refine wpAnyH_ready (rs := [18]) (by kernel_rfl) (by simp) ?_
        refine AllReadyH.cons (o := { dst := none, op := _, type := _, pos := _, after := _, guard := _ }) rfl (fun KC hK => ?_) AllReadyH.nil
        go_simp
        refine hK.out _ _ (uh KA _ (Below.setCell (uh K2) (p := ⟨w3.heap.size, 2, none⟩) (Nat.le_refl _) _)) (fun hHeld5 => ?_)
        clear hK KC hHeld4
        (try simp only [Act.put, List.setIfInBounds_toArray, List.set_cons_zero, List.set_cons_succ])
        refine wpAnyH_done (by kernel_rfl) ?_ _
        go_wp2_with fail
        go_roundw
        case rel => exact ⟨n + 1, by go_num, by omega, q2, c2, hide ((uh Z9).same 2 _), hide ((uh O2).set8 (uh Z9) (by decide) (Nat.le_refl _))⟩
        case measure => (simp [intOf] <;> omega)
      ·
        go_simp
        refine hK.out _ _ (uh KA _ (uh D2)) (fun hHeld2 => ?_)
        clear hK KC hHeld
        (try simp only [Act.put, List.setIfInBounds_toArray, List.set_cons_zero, List.set_cons_succ])
        refine wpAnyH_ready (rs := [1]) (by kernel_rfl) (by simp) ?_
        refine AllReadyH.cons (o := { dst := some 33, op := _, type := _, pos := _, after := _, guard := _ }) rfl (fun KC hK => ?_) AllReadyH.nil
        go_simp
        refine hK.out _ _ (uh KA _ (uh D2)) (fun hHeld3 => ?_)
        clear hK KC hHeld2
        (try simp only [Act.put, List.setIfInBounds_toArray, List.set_cons_zero, List.set_cons_succ])
        refine wpAnyH_ready (rs := [16]) (by kernel_rfl) (by simp) ?_
        refine AllReadyH.cons (o := { dst := some 48, op := _, type := _, pos := _, after := _, guard := _ }) rfl (fun KC hK => ?_) AllReadyH.nil
        (refine step_append_rc noWd noNoA rfl (.tmp 33) (.tmp 47) 22 rfl w3 55 i1 _ 104 Tryz.underlying22 hi1 y1 z1 b1 rfl _ (revN nodes K n) (by simp [Act.eval]) ((uh hO).below (uh DD)) _ _ [(⟨eop, enm, eins, eqi, eci, eouts, eqo, eco, eats, eqa, eca⟩ : NoA)] (by simp [Act.eval]) ((no1_9 rfl rfl).below (bdrew8 _)) (by rw [revN_len]; simp only [List.length_cons, List.length_nil]; unfold maxLen; omega) (by rw [revN_len]; simp only [List.length_cons, List.length_nil]; omega) ?_; intro v2 w5 O2 G2; have Z9 := hide (((uh hX9).below (uh DD)).grown8 ((uh hO).below (uh DD)) (by decide) G2); rw [← uh HRV] at O2; obtain ⟨q2, c2, e2, _⟩ := O2.form (z := noNoA) noWd; rw [revN_len] at e2; subst e2; have K2 := hide O2.2; have z9 := (uh Z9).cell; have f9 := (uh Z9).frozen; have l9 := (uh Z9).lt; replace O2 := hide O2; clear G2)
        refine hK.out _ _ (uh KA _ (uh K2)) (fun hHeld4 => ?_)
        clear hK KC hHeld3
        (try simp only [Act.put, List.setIfInBounds_toArray, List.set_cons_zero, List.set_cons_succ])
        refine wpAnyH_take (i := 17) (oi := { dst := some 49, op := _, type := _, pos := _, after := _, guard := _ }) (v := ?vv16) rfl (by kernel_rfl) (by kernel_rfl) (by kernel_rfl) (fun _ _ _ h => h) (Or.inl ⟨by rfl, ?hy16⟩) (by assumption) ?rest16
        case hy16 => (intro w hSw; (try dsimp only at hSw); go_simp; (first | done | with_reducible rfl))
        (try simp only [Act.put, List.setIfInBounds_toArray, List.set_cons_zero, List.set_cons_succ])
        refine wpAnyH_ready (rs := [18]) (by kernel_rfl) (by simp) ?_
        refine AllReadyH.cons (o := { dst := none, op := _, type := _, pos := _, after := _, guard := _ }) rfl (fun KC hK => ?_) AllReadyH.nil
        go_simp
        refine hK.out _ _ (uh KA _ (Below.setCell (uh K2) (p := ⟨w3.heap.size, 2, none⟩) (Nat.le_refl _) _)) (fun hHeld5 => ?_)
        clear hK KC hHeld4
        (try simp only [Act.put, List.setIfInBounds_toArray, List.set_cons_zero, List.set_cons_succ])
        refine wpAnyH_done (by kernel_rfl) ?_ _
        go_wp2_with fail
        go_roundw
        case rel => exact ⟨n + 1, by go_num, by omega, q2, c2, hide ((uh Z9).same 2 _), hide ((uh O2).set8 (uh Z9) (by decide) (Nat.le_refl _))⟩
        case measure => (simp [intOf] <;> omega)
    · have hi : ¬ (n : Int) < (N : Int) := by omega
      have en : n = N := by omega
      rw [en] at hX9 hO
      clear en
      have hp : (revN nodes K N).Perm nodes := by
        have h := revN_perm nodes K (by rw [uh HLN]; exact uh HKN)
        rw [uh HLN] at h
        exact h
      have B5 := hide (bl_tr (uh B4) (uh BW))
      have hM2 := MoIn.with9 (w0 := w3) ((uh HS0).below (uh B5)) (fun x hx => hp.mem_iff.1 hx) (show OwnR 55 5 noCells w3 wr (.slice q (revN nodes K N).length c) (revN nodes K N) by rw [revN_len]; exact uh hO)
      have CR2 := hide (cbuild9_any _ W.heap.size wr hM2 ((uh HU0).1.with9 (fun x hx => hp.mem_iff.1 hx)))
      have HT := build_turn (turn9 (M := ⟨ops, nm, nodes, qn, cn, inits, qi, ci, inp, qp, cp, out, qo, co⟩) (q := q) (c := c) hp)
      rw [uh HMD, uh HE1, ← uh GD] at HT
      simp only [GrA.d, List.length_map] at HT
      have HTT := hide HT
      obtain ⟨RV, hRV⟩ : ∃ R, buildV (MoA.putN ⟨ops, nm, nodes, qn, cn, inits, qi, ci, inp, qp, cp, out, qo, co⟩ (revN nodes K N) q c).d = R := ⟨_, rfl⟩
      rw [hRV] at CR2 HTT
      simp only [moV, moCells, strV, MoA.putN, revN_len] at CR2
      obtain ⟨R1, E2, A2⟩ := RV
      simp only at CR2 HTT
      clear x9 hp hM2 hRV HT
      have x9 := (uh hX9).cell
      clear hO
      have HGR := hide ((uh G3).below (uh BW))
      go_wp2_with fail
      refine (uh CR2).mono ?_
      rintro e w7 ⟨ha, he, hd, _, hb7⟩
      obtain ⟨hvals, hqv, hcv, hnodes, hqn, hcn, hinp, hqi, hci, hout, hqo, hco⟩ := ha
      have hl1 : hnodes.length = gnodes.length := by
        have := congrArg (fun g : GrD => g.nodes.length) hd
        simp only [GrA.d, List.length_map] at this
        rw [this]; exact (uh HTT).2.1.symm
      have hl2 : hvals.length = gvals.length := by
        have := congrArg (fun g : GrD => g.vals.length) hd
        simp only [GrA.d, List.length_map] at this
        rw [this]; exact (uh HTT).2.2.symm
      simp only [grV, grCells, hl1, hl2] at he
      subst he
      have BW7 := hide (bl_tr (uh B5) hb7)
      have g7 := ((uh HGR).below (bl_tr hb7 (al1p w7 (Obj.cells #[.slice hqv gvals.length hcv, .slice hqn gnodes.length hcn, .slice hqi hinp.length hci, .slice hqo hout.length hco] 32)))).cell
      clear hb7 CR2 x9 x0 hd hl1 hl2
      by_cases h0 : E1 = 0
      · have h2 : E2 = 0 := (uh HTT).1.1 h0
        subst h0
        subst h2
        go_wp2_with fail
        go_ret
        exact ⟨rfl, bl_tr (uh BW7) (al1p _ _)⟩
      · have t1 : (E1 == 0) = false := by simpa using h0
        have t2 : (E2 == 0) = false := by
          have : ¬ E2 = 0 := fun e => h0 ((uh HTT).1.2 e)
          simpa using this
        clear h0
        go_wp2_with fail
        go_ret
        exact ⟨rfl, bl_tr (uh BW7) (al1p _ _)⟩

set_option maxRecDepth 100000 in
theorem contract (H : Type) (enc : TypeId × Value → H) (W : World) (base : Nat) (args : Array Value) (ds gs : List (DataW H)) (before : List MemPlace)
    (hval0 : ∀ (j : Nat) t v, Tryz.f6.params[j]? = some t → args[j]? = some v → Value.okWide Tryz.prog W .any base t v)
    (hW : DataW.Whole enc Tryz.prog Tryz.f6.params.toList Rows.graphTurnedSpec.vars false W args.toList ds gs before) (hsz0 : (DataW.weightsEach Tryz.prog (Tryz.f6.params.toList ++ Rows.graphTurnedSpec.plain.varTypes Tryz.prog) (ds ++ gs)).all (· ≤ reachBytes) = true) :
    Calls Tryz.prog 6 args W fun e W' => ∃ v, e = .returned v ∧ Rows.graphTurnedSpec.post enc Tryz.prog Tryz.f6 false true false false W args v W' := by
  have hval : ∀ (j : Nat) t v, Tryz.f6.params[j]? = some t → args[j]? = some v → Value.okWide Tryz.prog W .any base t v := hval0
  have hW' := hW
  obtain ⟨p, q, hA0, hV, rfl, hfz, hnd⟩ := hW
  have hA : DataW.TrodAll enc Tryz.prog W 0 (fun _ => true) true Tryz.f6.params.toList args.toList ds p := hA0
  have hsz : (DataW.weightsEach Tryz.prog (Tryz.f6.params.toList ++ Rows.graphTurnedSpec.plain.varTypes Tryz.prog) (ds ++ gs)).all (· ≤ reachBytes) = true := hsz0
  clear hsz0
  rw [Tryz.params6] at hA hval hsz
  obtain ⟨v0, vs0, d0, ds0, pl0, q0, hargs, rfl, rfl, h0, r0⟩ := trodAll_cons hA
  obtain ⟨v1, vs1, d1, ds1, pl1, q1, rfl, rfl, rfl, h1, r1⟩ := trodAll_cons r0
  obtain ⟨rfl, rfl, rfl⟩ := trodAll_nil r1
  obtain rfl : args = #[v0, v1] := by cases args; simp_all
  obtain ⟨rfl, rfl⟩ := trodVars_none hV
  have h0k := h0
  obtain ⟨M0, rfl, s0, g0⟩ := mo9_open (hval 0 26 v0 rfl rfl) h0
  have hlt0 : ∀ y ∈ pl0, y.block < W.heap.size := fun y hy => hW'.lt y (by simp [hy])
  have u0 : MoSz9 M0 := g0 (fun m hm => by have h9 := List.all_eq_true.1 hsz m (DataW.weights_mem_each (j := 0) rfl rfl m hm); simpa using h9)
  obtain ⟨a1, rfl, rfl, rfl, w1⟩ := open_int Tryz.underlying3 (hval 1 3 v1 rfl rfl) h1
  clear hA0 hval0
  simp only [List.append_nil] at hW'
  refine (walk M0 a1 W s0 u0 w1).mono fun e W' ⟨he, bel⟩ => ?_
  subst he
  exact ⟨_, rfl, _, _, _, [], _, [], hW', trodAll_mk1 (shut_bool Tryz.underlying4 _), (trodAll_cons_mk (Below.trod laidOut (by kernel_rfl) (of_decide_eq_true (by kernel_rfl)) h0k bel hlt0) (trodAll_cons_mk (shut_int Tryz.underlying3 w1) trodAll_mk0)), rfl, bel.frame _, fun h => by cases h⟩

set_option maxRecDepth 100000 in
theorem lifted (os : Os) (started : os.Started) (H : Type) (enc : TypeId × Value → H) :
    ReturnsInHanded {} Tryz.checked os 6 .any (Rows.graphTurnedSpec.pre6 enc Tryz.prog Tryz.f6 Rows.graphTurnedRow.domain false) (Rows.graphTurnedSpec.post enc Tryz.prog Tryz.f6 false true false false) := by
  refine returnsInHanded_of_change_sized (C := Tryz.checked) own started (by kernel_rfl) Tryz.func6
    (ChangeSpec.witness6 (enc := enc) (C := Tryz.checked) false ⟨#[], #[.agg #[.int .i64 0, .string { data := #[] }, .slice none 0 0, .slice none 0 0, .slice none 0 0, .slice none 0 0], .int .i64 0], []⟩ 8 (by kernel_rfl) (by kernel_rfl) (by kernel_rfl) (by kernel_rfl)) ?_
  intro W base args ds gs before hval hW hcnd hsz _
  exact contract H enc W base args ds gs before hval hW hsz

theorem proved : Rows.GraphTurnedSaid :=
  OpenClaim.holds_of_wide 6 Tryz.f6 rfl rfl rfl rfl rfl rfl rfl ⟨rfl, rfl, rfl, rfl, rfl⟩ rfl rfl rfl rfl rfl (by kernel_rfl) Tryz.func6 (by kernel_rfl)
    (of_decide_eq_true (by kernel_rfl)) (by unfold Func.isWrapper; first | (rw [if_pos (by decide +kernel)]; kernel_rfl) | (rw [if_neg (by decide +kernel)]; exact ⟨rfl, rfl⟩))
    (fun os started H enc _ => lifted os started H enc)
#print axioms proved
end Go.Proofs.YtbmmcbagdomonaaGreat.graphTurned
