import Derived.Test.YtkpmfkkfcikfhaaRows
import Derived.WalkKit
import Derived.ProofKit
import Derived.OpenShut
import Derived.Below
import Derived.Carry
import Derived.SizedLaws
import Derived.Test.YtkpmfkkfcikfhaaV42
import Derived.Test.YtkpmfkkfcikfhaaV43
import Derived.Test.YtkpmfkkfcikfhaaV44
import Derived.Test.YtkpmfkkfcikfhaaV47
import Derived.Test.YtkpmfkkfcikfhaaV50

/- For all nodes and attributes: what is refused for its operator or its counts is refused still with one attribute more; what is taken has no attribute that the list does not name, each once; no condition. -/
namespace Go.Proofs.Ytkpmfkkfcikfhaa.opsLess
open Go.ChangeShapes Go.WideShapes Go.ChangeAt Go.RowKit
set_option linter.unusedVariables false

theorem own : ownKnob Try.prog.godebug = none := by kernel_rfl
theorem laidOut : laidOutB Try.prog = true := by kernel_rfl

set_option maxRecDepth 100000 in
set_option linter.unusedSimpArgs false in
set_option maxHeartbeats 8000000 in
/-- The statement's call returns true, whatever came in. -/
theorem walk (N0 : NoA) (A1 : AtA) (W : World) (s0 : NoIn W.heap.size W N0) (u0 : NoSz N0) (s1 : AtIn W.heap.size W A1) (u1 : okT8 A1.T) :
    Calls Try.prog 6 #[.agg (noCells N0).toArray, .agg (atCells A1).toArray] W fun e W' => e = .returned (.bool true) ∧ Below W.heap.size W W' := by
  have CR := hide (fun v (hv : Below W.heap.size W v) => cresolve8_any N0 W.heap.size v (s0.below8 hv) u0.1)
  have HS0 := hide s0
  have HS1 := hide s1
  have HU0 := hide u0
  have HU1 := hide u1
  clear s0 s1 u0 u1
  obtain ⟨op, nm, ins, qi, ci, outs, qo, co, ats, qa, ca⟩ := N0
  obtain ⟨an, ak, af, ai, as', ⟨ty, ds, fs, is, bs⟩, ⟨pd, cd, pf, cf, pi, ci', pb, cb⟩, afs, apf, acf, ais, api, aci⟩ := A1
  simp only [noCells, atCells, tenCells, strV, List.cons_append, List.nil_append] at CR ⊢
  obtain ⟨R, hR⟩ : ∃ R, resV (NoA.d ⟨op, nm, ins, qi, ci, outs, qo, co, ats, qa, ca⟩) = R := ⟨_, rfl⟩
  rw [hR] at CR
  obtain ⟨r1, r2, r3⟩ := R
  simp only at CR
  have HR := hide hR
  clear hR
  go_enter Try.func6, Try.ntmps6
  go_wp2_with fail
  refine (awake8_any _).mono ?_
  rintro e w1 ⟨rfl, hb⟩
  have X0 := hide (Box.below (Box.alloc (Box.new W #[.string (strOfNums op), .string (strOfNums nm), .slice qi ins.length ci, .slice qo outs.length co, .slice qa ats.length ca] 36) _) hb)
  have X1 := hide (Box.below (Box.new (W.alloc _) #[.string (strOfNums an), .int .i64 ak, .int .u32 af, .int .i64 ai, .string (strOfNums as'), .int .i64 ty, .slice pd ds.length cd, .slice pf fs.length cf, .slice pi is.length ci', .slice pb bs.length cb, .slice apf afs.length acf, .slice api ais.length aci] 52) hb)
  simp only [alloc_size6] at X1
  have B1 := hide (bl_tr (al27 _ _ _) hb)
  clear hb
  have x0 := (uh X0).cell
  go_wp2_with fail
  refine (uh CR _ (uh B1)).mono ?_
  rintro e w2 ⟨cs2, rfl, hs2, hb2⟩
  have HC2 := hide hs2.ones
  have B2 := hide (bl_tr (uh B1) hb2)
  replace X0 := hide ((uh X0).below hb2)
  replace X1 := hide ((uh X1).below hb2)
  clear hs2 hb2 x0 B1
  have ZZ : Hid (W.heap.size + 2 ≤ w2.heap.size) := hide (by have := (uh X1).lt; omega)
  go_wp2_with (refine wpList_store8 rfl _ _ rfl rfl rfl (Box.new _ _ _) (uh HC2).1 rfl (uh HC2).2 ?_; intro w3 b3 s3 z3; have B3 : Hid (Below w2.heap.size w2 w3) := hide (bl_tr7 (al1p _ _) s3.1); have Y0 := hide ((uh X0).below (uh B3)); have Y1 := hide ((uh X1).below (uh B3)); have B4 := hide (bl_tr (uh B2) (uh B3)); have x0 := (uh Y0).cell; have x1 := (uh Y1).cell; have xl0 := (uh Y0).lt; have xl1 := (uh Y1).lt; clear b3 s3 z3)
  obtain ⟨i1, hi1, y1, z1, b1⟩ := info_parts Try.info8Attr
  obtain ⟨L, hL⟩ : ∃ L, ats ++ [(⟨an, ak, af, ai, as', (ty, ds, fs, is, bs), ⟨pd, cd, pf, cf, pi, ci', pb, cb⟩, afs, apf, acf, ais, api, aci⟩ : AtA)] = L := ⟨_, rfl⟩
  have HL := hide hL
  have HIA : Hid (∀ x ∈ L, AtIn W.heap.size W x) := hide (fun x hx => by
    rw [← hL, List.mem_append] at hx
    rcases hx with h | h
    · exact (uh HS0).2.2.2.2.1 x h
    · rw [List.mem_singleton.1 h]; exact uh HS1)
  clear hL
  obtain ⟨WA, hWA⟩ : ∃ x, x = w3.alloc (Obj.cells #[.string (strOfNums op), .string (strOfNums nm), .slice qi ins.length ci, .slice qo outs.length co, .slice qa ats.length ca] 36) := ⟨_, rfl⟩
  have sz : Hid (WA.heap.size = w3.heap.size + 1) := hide (by rw [hWA]; simp)
  have D3 : Hid (Below w3.heap.size w3 WA) := hide (by rw [hWA]; exact al1p _ _)
  have D9 : Hid (Box WA w3.heap.size #[.string (strOfNums op), .string (strOfNums nm), .slice qi ins.length ci, .slice qo outs.length co, .slice qa ats.length ca] 36) := hide (by rw [hWA]; exact Box.new _ _ _)
  have D0 := hide ((uh Y0).below (uh D3))
  have B5 := hide (bl_tr (uh B4) (uh D3))
  have SK : Hid (∀ v, Below WA.heap.size WA v → (∀ j, v.cell? ⟨W.heap.size, j, none⟩ = (#[.string (strOfNums op), .string (strOfNums nm), .slice qi ins.length ci, .slice qo outs.length co, .slice qa ats.length ca] : Array Value)[j]?) ∧ (∀ j, v.cell? ⟨W.heap.size + 1, j, none⟩ = (#[.string (strOfNums an), .int .i64 ak, .int .u32 af, .int .i64 ai, .string (strOfNums as'), .int .i64 ty, .slice pd ds.length cd, .slice pf fs.length cf, .slice pi is.length ci', .slice pb bs.length cb, .slice apf afs.length acf, .slice api ais.length aci] : Array Value)[j]?)) := hide (fun v hv => ⟨((uh D0).below hv).cell, (((uh Y1).below (uh D3)).below hv).cell⟩)
  have SS : Hid (∀ v u, Below WA.heap.size WA v → (∀ j, (v.setCell ⟨w3.heap.size, 4, none⟩ u).cell? ⟨W.heap.size, j, none⟩ = (#[.string (strOfNums op), .string (strOfNums nm), .slice qi ins.length ci, .slice qo outs.length co, .slice qa ats.length ca] : Array Value)[j]?) ∧ (∀ j, (v.setCell ⟨w3.heap.size, 4, none⟩ u).cell? ⟨W.heap.size + 1, j, none⟩ = (#[.string (strOfNums an), .int .i64 ak, .int .u32 af, .int .i64 ai, .string (strOfNums as'), .int .i64 ty, .slice pd ds.length cd, .slice pf fs.length cf, .slice pi is.length ci', .slice pb bs.length cb, .slice apf afs.length acf, .slice api ais.length aci] : Array Value)[j]?)) := hide (fun v u hv => ⟨(((uh D0).below hv).other (by have := (uh Y0).lt; omega) 4 u).cell, ((((uh Y1).below (uh D3)).below hv).other (by have := (uh Y1).lt; omega) 4 u).cell⟩)
  have RA : Hid (∀ v, Below WA.heap.size WA v → Rc 12 atCells noAtA v qa ca ats) := hide (fun v hv => ((uh HS0).below8 (bl_tr (uh B5) hv)).2.2.2.2.2.1)
  have K0 : Hid (Below WA.heap.size WA WA.drew) := hide (bdrew8 _)
  have hcap : ats.length ≤ ca := (uh HS0).2.2.2.2.2.1.1
  have hsz : ca * 208 ≤ 140737488351232 := (uh HU0).2
  rw [← hWA]
  clear hWA x0 x1 xl0 xl1
  refine' cut8_6 _ (fun F (a : Nat) (b : Nat) (v : Value) (q : Option Addr) (c : Nat) => Hid (Box F W.heap.size #[.string (strOfNums op), .string (strOfNums nm), .slice qi ins.length ci, .slice qo outs.length co, .slice qa ats.length ca] 36 ∧ NoIn W.heap.size F (NoA.put ⟨op, nm, ins, qi, ci, outs, qo, co, ats, qa, ca⟩ L q c) ∧ Box F w3.heap.size #[.string (strOfNums op), .string (strOfNums nm), .slice qi ins.length ci, .slice qo outs.length co, .slice q L.length c] 36 ∧ Below W.heap.size W F)) ?main ?kk
  case main =>
    intro key
    go_region_held3 (fun v => (∀ j, v.cell? ⟨W.heap.size, j, none⟩ = (#[.string (strOfNums op), .string (strOfNums nm), .slice qi ins.length ci, .slice qo outs.length co, .slice qa ats.length ca] : Array Value)[j]?) ∧ (∀ j, v.cell? ⟨W.heap.size + 1, j, none⟩ = (#[.string (strOfNums an), .int .i64 ak, .int .u32 af, .int .i64 ai, .string (strOfNums as'), .int .i64 ty, .slice pd ds.length cd, .slice pf fs.length cf, .slice pi is.length ci', .slice pb bs.length cb, .slice apf afs.length acf, .slice api ais.length aci] : Array Value)[j]?)) (first | with_reducible exact uh SS _ _ (uh K3) | with_reducible exact uh SK _ (uh K3) | with_reducible exact uh SK _ (uh K2) | with_reducible exact uh SK _ (bl_tr (uh K2) (al1p _ _)) | with_reducible exact uh SK _ (uh K0) | with_reducible exact uh SK _ (bl_tr (al1p _ _) (bdrew8 _)) | with_reducible exact uh SK _ (bl_tr (bl_tr (al1p _ _) (bdrew8 _)) (al1p _ _)) | with_reducible exact uh SK _ (bl_tr (bl_tr (al1p _ _) (al1p _ _)) (bdrew8 _)) | with_reducible exact uh SK _ (bl_tr (uh K0) (al1p _ _)) | with_reducible exact uh SK _ (bl_tr (bl_tr (uh K0) (al1p _ _)) (al1p _ _)))
      (first
        | (refine step_append_rc atWd noAtA rfl (.tmp 29) (.tmp 31) 34 rfl WA 52 i1 _ 208 Try.underlying34 hi1 y1 z1 b1 rfl _ ats (by simp [Act.eval]) (uh O2) _ _ [_] (by simp [Act.eval]) (uh R31) (by simp only [List.length_nil, List.length_cons]; unfold maxLen; omega) (by simp only [List.length_nil, List.length_cons]; omega) ?_; intro v3 w4 O3 G3; clear G3; rw [uh HL] at O3; obtain ⟨q9, c9, rfl, N9⟩ := NoIn.with8 ((uh HS0).below8 (bl_tr (uh B5) O3.2)) (w0 := WA) (fun x hx => (uh HIA x hx).below8 (bl_tr (uh B5) O3.2)) O3; have N9 := hide N9; have B9 := hide (bl_tr (uh B5) O3.2); have E9 := hide ((uh D9).below O3.2); have E0 := hide ((uh D0).below O3.2); have K3 := hide O3.2; have e9 := (uh E9).cell; have f9 := (uh E9).frozen; have l9 := (uh E9).lt; clear O3)
        | (refine step_append_rc atWd noAtA rfl (.tmp 29) (.tmp 31) 34 rfl WA 52 i1 _ 208 Try.underlying34 hi1 y1 z1 b1 rfl _ ats (by simp [Act.eval]) ((uh O2).below (al1p _ _)) _ _ [(⟨an, ak, af, ai, as', (ty, ds, fs, is, bs), ⟨pd, cd, pf, cf, pi, ci', pb, cb⟩, afs, apf, acf, ais, api, aci⟩ : AtA)] (by simp [Act.eval]) (at1_8 rfl rfl) (by simp only [List.length_nil, List.length_cons]; unfold maxLen; omega) (by simp only [List.length_nil, List.length_cons]; omega) ?_; intro v3 w4 O3 G3; clear G3; rw [uh HL] at O3; obtain ⟨q9, c9, rfl, N9⟩ := NoIn.with8 ((uh HS0).below8 (bl_tr (uh B5) O3.2)) (w0 := WA) (fun x hx => (uh HIA x hx).below8 (bl_tr (uh B5) O3.2)) O3; have N9 := hide N9; have B9 := hide (bl_tr (uh B5) O3.2); have E9 := hide ((uh D9).below O3.2); have E0 := hide ((uh D0).below O3.2); have K3 := hide O3.2; have e9 := (uh E9).cell; have f9 := (uh E9).frozen; have l9 := (uh E9).lt; clear O3)
        | (refine step_append_rc atWd noAtA rfl (.tmp 26) (.tmp 28) 34 rfl WA 52 i1 _ 208 Try.underlying34 hi1 y1 z1 b1 rfl _ [] (by simp [Act.eval]) ((own0_8 (w0 := WA) (w := WA) (k := WA.heap.size) rfl (Below.refl _ _)).below (bdrew8 _)) qa ca ats (by simp [Act.eval]) (uh RA _ (bl_tr (al1p _ _) (bdrew8 _))) (by simp only [List.length_nil, List.length_cons]; unfold maxLen; omega) (by simp only [List.length_nil, List.length_cons]; omega) ?_; intro v2 w5 O2 G2; rw [List.nil_append] at O2; have K2 := hide O2.2; have O2 := hide O2; clear G2)
        | (refine step_append_rc atWd noAtA rfl (.tmp 26) (.tmp 28) 34 rfl WA 52 i1 _ 208 Try.underlying34 hi1 y1 z1 b1 rfl _ [] (by simp [Act.eval]) ((own0_8 (w0 := WA) (w := WA) (k := WA.heap.size) rfl (Below.refl _ _)).below (bl_tr (bdrew8 _) (al1p _ _))) qa ca ats (by simp [Act.eval]) (uh RA _ (bl_tr (bl_tr (al1p _ _) (bdrew8 _)) (al1p _ _))) (by simp only [List.length_nil, List.length_cons]; unfold maxLen; omega) (by simp only [List.length_nil, List.length_cons]; omega) ?_; intro v2 w5 O2 G2; rw [List.nil_append] at O2; have R31 := hide (Rc.grown8 (at1_8 (A := ⟨an, ak, af, ai, as', (ty, ds, fs, is, bs), ⟨pd, cd, pf, cf, pi, ci', pb, cb⟩, afs, apf, acf, ais, api, aci⟩) (k := WA.heap.size + 1) (by simp) rfl) G2 (fun b o e e2 => by simp only [Option.some.injEq, Addr.mk.injEq] at e; simp [Value.ownBlock] at e2; omega)); have K2 := hide O2.2; have O2 := hide O2; clear G2)
        | (refine step_append_rc atWd noAtA rfl (.tmp 26) (.tmp 28) 34 rfl WA 52 i1 _ 208 Try.underlying34 hi1 y1 z1 b1 rfl _ [] (by simp [Act.eval]) ((own0_8 (w0 := WA) (w := WA) (k := WA.heap.size) rfl (Below.refl _ _)).below (bl_tr (al1p _ _) (bdrew8 _))) qa ca ats (by simp [Act.eval]) (uh RA _ (bl_tr (bl_tr (al1p _ _) (al1p _ _)) (bdrew8 _))) (by simp only [List.length_nil, List.length_cons]; unfold maxLen; omega) (by simp only [List.length_nil, List.length_cons]; omega) ?_; intro v2 w5 O2 G2; rw [List.nil_append] at O2; have R31 := hide (Rc.grown8 ((at1_8 (A := ⟨an, ak, af, ai, as', (ty, ds, fs, is, bs), ⟨pd, cd, pf, cf, pi, ci', pb, cb⟩, afs, apf, acf, ais, api, aci⟩) (k := WA.heap.size + 1) (by simp) rfl).below (bdrew8 _)) G2 (fun b o e e2 => by simp only [Option.some.injEq, Addr.mk.injEq] at e; simp [Value.ownBlock] at e2; omega)); have K2 := hide O2.2; have O2 := hide O2; clear G2)
        | (refine step_append_rc atWd noAtA rfl (.tmp 26) (.tmp 28) 34 rfl WA 52 i1 _ 208 Try.underlying34 hi1 y1 z1 b1 rfl _ [] (by simp [Act.eval]) (own0_8 (w0 := WA) (k := WA.heap.size + 1) (by simp) (bl_tr (al1p _ _) (bdrew8 _))) qa ca ats (by simp [Act.eval]) (uh RA _ (bl_tr (bl_tr (al1p _ _) (bdrew8 _)) (al1p _ _))) (by simp only [List.length_nil, List.length_cons]; unfold maxLen; omega) (by simp only [List.length_nil, List.length_cons]; omega) ?_; intro v2 w5 O2 G2; rw [List.nil_append] at O2; have R31 := hide (Rc.grown8 ((at1_8 (A := ⟨an, ak, af, ai, as', (ty, ds, fs, is, bs), ⟨pd, cd, pf, cf, pi, ci', pb, cb⟩, afs, apf, acf, ais, api, aci⟩) (w := WA) (k := WA.heap.size) rfl rfl).below (bl_tr (bdrew8 _) (al1p _ _))) G2 (fun b o e e2 => by simp only [Option.some.injEq, Addr.mk.injEq] at e; simp [Value.ownBlock] at e2; omega)); have K2 := hide O2.2; have O2 := hide O2; clear G2)
        | (refine step_append_rc atWd noAtA rfl (.tmp 26) (.tmp 28) 34 rfl WA 52 i1 _ 208 Try.underlying34 hi1 y1 z1 b1 rfl _ [] (by simp [Act.eval]) ((own0_8 (w0 := WA) (k := WA.heap.size + 1) (by simp) (al1p _ _)).below (bdrew8 _)) qa ca ats (by simp [Act.eval]) (uh RA _ (bl_tr (bl_tr (al1p _ _) (al1p _ _)) (bdrew8 _))) (by simp only [List.length_nil, List.length_cons]; unfold maxLen; omega) (by simp only [List.length_nil, List.length_cons]; omega) ?_; intro v2 w5 O2 G2; rw [List.nil_append] at O2; have R31 := hide (Rc.grown8 ((at1_8 (A := ⟨an, ak, af, ai, as', (ty, ds, fs, is, bs), ⟨pd, cd, pf, cf, pi, ci', pb, cb⟩, afs, apf, acf, ais, api, aci⟩) (w := WA) (k := WA.heap.size) rfl rfl).below (bl_tr (al1p _ _) (bdrew8 _))) G2 (fun b o e e2 => by simp only [Option.some.injEq, Addr.mk.injEq] at e; simp [Value.ownBlock] at e2; omega)); have K2 := hide O2.2; have O2 := hide O2; clear G2))
    all_goals have hg9 : W.heap.size < w3.heap.size := (uh Y0).lt
    all_goals have KF := hide (And.intro ((uh E0).other (Nat.ne_of_lt hg9) 4 (Value.slice q9 L.length c9)) (And.intro ((uh N9).set8 (j := 4) (u := Value.slice q9 L.length c9) (uh E9) (by omega)) (And.intro ((uh E9).same 4 (Value.slice q9 L.length c9)) (Below.setCell (uh B9) (p := ⟨w3.heap.size, 4, none⟩) (Nat.le_of_lt hg9) (Value.slice q9 L.length c9)))))
    · generalize (w4.setCell ⟨w3.heap.size, 4, none⟩ (Value.slice q9 L.length c9)) = F at KF ⊢; generalize w5.heap.size = b; generalize WA.heap.size = a; exact key F a b v2 q9 c9 KF
    · exact key _ _ _ _ _ _ KF
    · exact key _ _ _ _ _ _ KF
  case kk =>
    intro F a b v q c KF
    obtain ⟨F0, F1, F9, FB⟩ := uh KF
    have Y0 := hide F0
    have Y9 := hide F9
    have B6 := hide FB
    have CR2 := hide (cresolve8_any (NoA.put ⟨op, nm, ins, qi, ci, outs, qo, co, ats, qa, ca⟩ L q c) W.heap.size F F1 (fun x hx => by
      rw [show (NoA.put ⟨op, nm, ins, qi, ci, outs, qo, co, ats, qa, ca⟩ L q c).at' = L from rfl, ← uh HL, List.mem_append] at hx
      rcases hx with h | h
      · exact (uh HU0).1 x h
      · rw [List.mem_singleton.1 h]; exact uh HU1))
    have RM := res_more op nm ins outs (ats.map AtA.d) (L.map AtA.d)
    rw [show resV (op, nm, ins, outs, ats.map AtA.d) = (r1, r2, r3) from uh HR] at RM
    rw [show resV (NoA.put ⟨op, nm, ins, qi, ci, outs, qo, co, ats, qa, ca⟩ L q c).d = resV (op, nm, ins, outs, L.map AtA.d) from rfl] at CR2
    obtain ⟨R8, hR8⟩ : ∃ R, resV (op, nm, ins, outs, L.map AtA.d) = R := ⟨_, rfl⟩
    rw [hR8] at RM CR2
    obtain ⟨s1, s2, s3⟩ := R8
    clear hR8
    simp only [noCells, NoA.put, strV] at CR2 RM
    have RAF : Hid (Rc 12 atCells noAtA F qa ca ats) := hide ((uh HS0).below8 FB).2.2.2.2.2.1
    have HIA8 : Hid (∀ x ∈ ats, isB x.nm) := hide (fun x hx => ((uh HS0).2.2.2.2.1 x hx).1)
    clear KF F0 F1 F9 FB HIA HL HS1 HU1 RA SK SS K0 D0 D3 D9 B5 B4 B3 Y1 sz CR HU0
    have y9 := (uh Y9).cell
    have l9 := (uh Y9).lt
    go_wp2_with fail
    refine (uh CR2).mono ?_
    rintro e w7 ⟨cs7, rfl, hs7, hb7⟩
    have HC7 := hide hs7.ones
    have B7 := hide (bl_tr (uh B6) hb7)
    replace Y0 := hide ((uh Y0).below hb7)
    replace RAF := hide ((uh RAF).below hb7)
    clear hs7 hb7 y9 l9 CR2 Y9 B6
    rcases RM with ⟨h1, h2⟩ | ⟨h1, h2⟩ | ⟨h1 | ⟨h1, h3, D, h4⟩, h2⟩
    · subst h1 h2
      go_wp2_with (refine wpList_store8 rfl _ _ rfl rfl rfl (Box.new _ _ _) (uh HC7).1 rfl (uh HC7).2 ?_; intro w8 b8 s8 z8; have B8 := hide (bl_tr (uh B7) (bl_tr7 (al1p _ _) s8.1)); have Z0 := hide (((uh Y0).below (bl_tr7 (al1p _ _) s8.1))); clear b8 s8 z8)
      go_ret
      exact ⟨rfl, uh B8⟩
    · subst h1 h2
      go_wp2_with (refine wpList_store8 rfl _ _ rfl rfl rfl (Box.new _ _ _) (uh HC7).1 rfl (uh HC7).2 ?_; intro w8 b8 s8 z8; have B8 := hide (bl_tr (uh B7) (bl_tr7 (al1p _ _) s8.1)); have Z0 := hide (((uh Y0).below (bl_tr7 (al1p _ _) s8.1))); clear b8 s8 z8)
      go_ret
      exact ⟨rfl, uh B8⟩
    · subst h1
      go_wp2_with (refine wpList_store8 rfl _ _ rfl rfl rfl (Box.new _ _ _) (uh HC7).1 rfl (uh HC7).2 ?_; intro w8 b8 s8 z8; have B8 := hide (bl_tr (uh B7) (bl_tr7 (al1p _ _) s8.1)); have Z0 := hide (((uh Y0).below (bl_tr7 (al1p _ _) s8.1))); clear b8 s8 z8)
      go_ret
      exact ⟨rfl, uh B8⟩
    · subst h1
      have HN := hide (set_names (rowT_nodup _) h4)
      rw [← h3] at HN
      have CA := hide (cattrs8_any r1)
      have HNB : Hid (∀ x ∈ (rowT r1).2.2.2.2.2.map (fun a => a.1), isB x) := hide (fun x hx => by
        obtain ⟨y, hy, rfl⟩ := List.mem_map.1 hx
        exact ((rowT_ok r1).2 y hy).1)
      have n6 : Hid ((rowT r1).2.2.2.2.2.length ≤ 6) := hide (rowT_len r1)
      obtain ⟨ns, hns⟩ : ∃ ns, (rowT r1).2.2.2.2.2.map (fun a => a.1) = ns := ⟨_, rfl⟩
      have nl : ns.length ≤ 6 := by rw [← hns, List.length_map]; exact uh n6
      rw [hns] at HN CA HNB
      have H2 := hide h2
      clear hns h2 h3 h4 n6
      go_wp2_with (refine wpList_store8 rfl _ _ rfl rfl rfl (Box.new _ _ _) (uh HC7).1 rfl (uh HC7).2 ?_; intro w8 b8 s8 z8; have B8 := hide (bl_tr (uh B7) (bl_tr7 (al1p _ _) s8.1)); have Z0 := hide (((uh Y0).below (bl_tr7 (al1p _ _) s8.1))); have R8 := hide ((uh RAF).below (bl_tr7 (al1p _ _) s8.1)); clear b8 s8 z8)
      refine (uh CA _).mono ?_
      rintro e w9 ⟨v9, rfl, ho⟩
      obtain ⟨p9, c9, rfl, hr, _⟩ := ho.form (z := []) strWd8
      have RT := hide hr
      have B9 := hide (bl_tr (uh B8) ho.2)
      replace Z0 := hide ((uh Z0).below ho.2)
      replace R8 := hide ((uh R8).below ho.2)
      clear ho hr CA B8 B7 RAF Y0 HC7 HC2 B2 X0 X1 ZZ
      have z0 := (uh Z0).cell
      have zl := (uh Z0).lt
      have nal := (uh R8).len
      go_wp2_with fail
      go_loopw [14] (fun iv wr => ∃ n : Nat, iv = .int .i64 n ∧ n ≤ ats.length ∧ ∃ m, wr = w9.drewN m) (fun iv _ => ats.length - (intOf iv).toNat)
      case atStart => exact ⟨0, rfl, by omega, 0, rfl⟩
      case round =>
        obtain ⟨n, rfl, hn, m, rfl⟩ := hrel
        by_cases hlt : n < ats.length
        · have hi : (n : Int) < (ats.length : Int) := by omega
          obtain ⟨b5, o5, rfl, hb5, hc5⟩ := (uh R8).lies (by omega)
          have k1 : w9.cell? ⟨b5, o5 + n * 12, none⟩ = some (strV (ats.getD n noAtA).nm) := by have := hc5 n hlt 0 _ rfl; simpa using this
          have kj : Hid (∀ j, j < ats.length → w9.cell? ⟨b5, o5 + j * 12, none⟩ = some (strV (ats.getD j noAtA).nm)) := hide (fun j hj => by have := hc5 j hj 0 _ rfl; simpa using this)
          have HS : Hid (isB (ats.getD n noAtA).nm) := hide (uh HIA8 _ (by rw [List.getD_eq_getElem?_getD, List.getElem?_eq_getElem hlt]; exact List.getElem_mem _))
          have HC : Hid (cntS ns (ats.getD n noAtA).nm = 1) := hide ((uh HN).1 _ (List.mem_map.2 ⟨_, by rw [List.getD_eq_getElem?_getD, List.getElem?_eq_getElem hlt]; exact List.getElem_mem _, rfl⟩))
          have HD : Hid (∀ j, j < n → (ats.getD j noAtA).nm ≠ (ats.getD n noAtA).nm ∧ isB (ats.getD j noAtA).nm) := hide (fun j hj => ⟨nm_ne (uh HN).2 hj hlt, uh HIA8 _ (by rw [List.getD_eq_getElem?_getD, List.getElem?_eq_getElem (by omega)]; exact List.getElem_mem _)⟩)
          clear hc5
          obtain ⟨s, hs⟩ : ∃ s, (ats.getD n noAtA).nm = s := ⟨_, rfl⟩
          rw [hs] at k1 HS HC HD
          clear hs
          unfold strV at k1
          go_wp2_with fail
          go_loopw [15, 16] (fun tv kv wr => ∃ k t : Nat, kv = .int .i64 k ∧ tv = .int .i64 t ∧ k ≤ ns.length ∧ t ≤ k ∧ Hid (t = cntS (ns.take k) s) ∧ ∃ m, wr = w9.drewN m) (fun _ kv _ => ns.length - (intOf kv).toNat)
          case atStart => exact ⟨0, 0, rfl, rfl, by omega, by omega, hide rfl, _, rfl⟩
          case round =>
            obtain ⟨k, t, rfl, rfl, hk, ht, HT, m2, rfl⟩ := hrel
            by_cases hk2 : k < ns.length
            · have hi2 : (k : Int) < (ns.length : Int) := by omega
              obtain ⟨b6, o6, rfl, hb6, hc6⟩ := (uh RT).lies (by omega)
              have k0 : w9.cell? ⟨b6, o6 + k, none⟩ = some (strV (ns.getD k [])) := by have := hc6 k hk2 0 _ rfl; simpa using this
              have HE := hide (str_eq8 (uh HNB (ns.getD k []) (by rw [List.getD_eq_getElem?_getD, List.getElem?_eq_getElem hk2]; exact List.getElem_mem _)) (uh HS))
              have HT2 := hide (cnt_step ns s k hk2)
              clear hc6
              obtain ⟨u, hu⟩ : ∃ u, ns.getD k [] = u := ⟨_, rfl⟩
              rw [hu] at k0 HE HT2
              clear hu
              unfold strV at k0
              by_cases he : u = s
              · have te : ((strOfNums u).toList == (strOfNums s).toList) = true := by rw [uh HE]; simp [he]
                have HT3 : Hid (t + 1 = cntS (ns.take (k + 1)) s) := hide (by rw [uh HT2, if_pos he, uh HT])
                clear he
                go_wp2_with fail
                go_quiet (fail)
                go_wp2_with fail
                go_roundw
                case rel => exact ⟨k + 1, t + 1, by go_num, by go_num, by omega, by omega, HT3, _, rfl⟩
                case measure => simp [intOf]; omega
              · have te : ((strOfNums u).toList == (strOfNums s).toList) = false := by rw [uh HE]; simp [he]
                have HT3 : Hid (t = cntS (ns.take (k + 1)) s) := hide (by rw [uh HT2, if_neg he, uh HT]; rfl)
                clear he
                go_wp2_with fail
                go_quiet (fail)
                go_wp2_with fail
                go_roundw
                case rel => exact ⟨k + 1, t, by go_num, rfl, by omega, by omega, HT3, _, rfl⟩
                case measure => simp [intOf]; omega
            · have hi2 : ¬ (k : Int) < (ns.length : Int) := by omega
              have ek : k = ns.length := by omega
              have t1 : t = 1 := by
                rw [uh HT, ek, List.take_length]; exact uh HC
              subst t1
              clear ek HT ht
              go_wp2_with fail
              go_loopw [15, 17] (fun tv kv wr => ∃ k : Nat, kv = .int .i64 k ∧ tv = .int .i64 1 ∧ k ≤ n ∧ ∃ m, wr = w9.drewN m) (fun _ kv _ => n - (intOf kv).toNat)
              case atStart => exact ⟨0, rfl, rfl, by omega, _, rfl⟩
              case round =>
                obtain ⟨j, rfl, rfl, hj, m3, rfl⟩ := hrel
                by_cases hj2 : j < n
                · have hi3 : (j : Int) < (n : Int) := by omega
                  have hi4 : (j : Int) < (ats.length : Int) := by omega
                  have k2 := uh kj j (by omega)
                  have HE := hide (str_eq8 (uh HD j hj2).2 (uh HS))
                  have HF := hide (uh HD j hj2).1
                  obtain ⟨u, hu⟩ : ∃ u, (ats.getD j noAtA).nm = u := ⟨_, rfl⟩
                  rw [hu] at k2 HE HF
                  clear hu
                  unfold strV at k2
                  have te : ((strOfNums u).toList == (strOfNums s).toList) = false := by rw [uh HE]; simp [uh HF]
                  go_wp2_with fail
                  go_quiet (fail)
                  go_wp2_with fail
                  go_roundw
                  case rel => exact ⟨j + 1, by go_num, rfl, by omega, _, rfl⟩
                  case measure => simp [intOf]; omega
                · have hi3 : ¬ (j : Int) < (n : Int) := by omega
                  go_wp2_with fail
                  go_roundw
                  case rel => exact ⟨n + 1, by go_num, by omega, _, rfl⟩
                  case measure => simp [intOf]; omega
        · have hi : ¬ (n : Int) < (ats.length : Int) := by omega
          rcases uh H2 with h | h
          · subst h
            go_wp2_with fail
            go_ret
            exact ⟨rfl, bw_drew (uh B9) m⟩
          · subst h
            go_wp2_with fail
            go_ret
            exact ⟨rfl, bw_drew (uh B9) m⟩

set_option maxRecDepth 100000 in
theorem contract (H : Type) (enc : TypeId × Value → H) (W : World) (base : Nat) (args : Array Value) (ds gs : List (DataW H)) (before : List MemPlace)
    (hval0 : ∀ (j : Nat) t v, Try.f6.params[j]? = some t → args[j]? = some v → Value.okWide Try.prog W .any base t v)
    (hW : DataW.Whole enc Try.prog Try.f6.params.toList Rows.opsLessSpec.vars false W args.toList ds gs before) (hsz0 : (DataW.weightsEach Try.prog (Try.f6.params.toList ++ Rows.opsLessSpec.plain.varTypes Try.prog) (ds ++ gs)).all (· ≤ reachBytes) = true) :
    Calls Try.prog 6 args W fun e W' => ∃ v, e = .returned v ∧ Rows.opsLessSpec.post enc Try.prog Try.f6 false true false false W args v W' := by
  have hval : ∀ (j : Nat) t v, Try.f6.params[j]? = some t → args[j]? = some v → Value.okWide Try.prog W .any base t v := hval0
  have hW' := hW
  obtain ⟨p, q, hA0, hV, rfl, hfz, hnd⟩ := hW
  have hA : DataW.TrodAll enc Try.prog W 0 (fun _ => true) true Try.f6.params.toList args.toList ds p := hA0
  have hsz : (DataW.weightsEach Try.prog (Try.f6.params.toList ++ Rows.opsLessSpec.plain.varTypes Try.prog) (ds ++ gs)).all (· ≤ reachBytes) = true := hsz0
  clear hsz0
  rw [Try.params6] at hA hval hsz
  obtain ⟨v0, vs0, d0, ds0, pl0, q0, hargs, rfl, rfl, h0, r0⟩ := trodAll_cons hA
  obtain ⟨v1, vs1, d1, ds1, pl1, q1, rfl, rfl, rfl, h1, r1⟩ := trodAll_cons r0
  obtain ⟨rfl, rfl, rfl⟩ := trodAll_nil r1
  obtain rfl : args = #[v0, v1] := by cases args; simp_all
  obtain ⟨rfl, rfl⟩ := trodVars_none hV
  have h0k := h0
  obtain ⟨N0, rfl, s0, g0⟩ := no8_open (hval 0 36 v0 rfl rfl) h0
  have hlt0 : ∀ y ∈ pl0, y.block < W.heap.size := fun y hy => hW'.lt y (by simp [hy])
  have u0 : NoSz N0 := g0 (fun m hm => by have h9 := List.all_eq_true.1 hsz m (DataW.weights_mem_each (j := 0) rfl rfl m hm); simpa using h9)
  have h1k := h1
  obtain ⟨A1, rfl, s1, g1⟩ := at8_open (hval 1 52 v1 rfl rfl) h1
  have hlt1 : ∀ y ∈ pl1, y.block < W.heap.size := fun y hy => hW'.lt y (by simp [hy])
  have u1 : okT8 A1.T := g1 (fun m hm => by have h9 := List.all_eq_true.1 hsz m (DataW.weights_mem_each (j := 1) rfl rfl m hm); simpa using h9)
  clear hA0 hval0
  simp only [List.append_nil] at hW'
  refine (walk N0 A1 W s0 u0 s1 u1).mono fun e W' ⟨he, bel⟩ => ?_
  subst he
  exact ⟨_, rfl, _, _, _, [], _, [], hW', trodAll_mk1 (shut_bool Try.underlying4 _), (trodAll_cons_mk (Below.trod laidOut (by kernel_rfl) (of_decide_eq_true (by kernel_rfl)) h0k bel hlt0) (trodAll_cons_mk (Below.trod laidOut (by kernel_rfl) (of_decide_eq_true (by kernel_rfl)) h1k bel hlt1) trodAll_mk0)), rfl, bel.frame _, fun h => by cases h⟩

set_option maxRecDepth 100000 in
theorem lifted (os : Os) (started : os.Started) (H : Type) (enc : TypeId × Value → H) :
    ReturnsInHanded {} Try.checked os 6 .any (Rows.opsLessSpec.pre6 enc Try.prog Try.f6 Rows.opsLessRow.domain false) (Rows.opsLessSpec.post enc Try.prog Try.f6 false true false false) := by
  refine returnsInHanded_of_change_sized (C := Try.checked) own started (by kernel_rfl) Try.func6
    (ChangeSpec.witness6 (enc := enc) (C := Try.checked) false ⟨#[], #[.agg #[.string { data := #[] }, .string { data := #[] }, .slice none 0 0, .slice none 0 0, .slice none 0 0], .agg #[.string { data := #[] }, .int .i64 0, .int .u32 0, .int .i64 0, .string { data := #[] }, .int .i64 0, .slice none 0 0, .slice none 0 0, .slice none 0 0, .slice none 0 0, .slice none 0 0, .slice none 0 0]], []⟩ 8 (by kernel_rfl) (by kernel_rfl) (by kernel_rfl) (by kernel_rfl)) ?_
  intro W base args ds gs before hval hW hcnd hsz _
  exact contract H enc W base args ds gs before hval hW hsz

theorem proved : Rows.OpsLessSaid :=
  OpenClaim.holds_of_wide 6 Try.f6 rfl rfl rfl rfl rfl rfl rfl ⟨rfl, rfl, rfl, rfl, rfl⟩ rfl rfl rfl rfl rfl (by kernel_rfl) Try.func6 (by kernel_rfl)
    (of_decide_eq_true (by kernel_rfl)) (by unfold Func.isWrapper; first | (rw [if_pos (by decide +kernel)]; kernel_rfl) | (rw [if_neg (by decide +kernel)]; exact ⟨rfl, rfl⟩))
    (fun os started H enc _ => lifted os started H enc)
#print axioms proved
end Go.Proofs.Ytkpmfkkfcikfhaa.opsLess
