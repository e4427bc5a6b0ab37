/- For all two tensors: whether each may be, its copies, and whether the two are the same, are what the document says, and copies are their owner's; no condition. -/
import Derived.Test.YtbepkmehnghmcaaRows
import Derived.WalkKit
import Derived.ProofKit
import Derived.OpenShut
import Derived.Below
import Derived.Carry
import Derived.SizedLaws
import Derived.Test.YtbepkmehnghmcaaIW
import Derived.Test.YtbepkmehnghmcaaIP
import Derived.Deep.RegionHeld3
namespace Go.Proofs.Ytbepkmehnghmcaa.tensLooks
open Go.ChangeShapes Go.WideShapes Go.ChangeAt Go.RowKit
set_option linter.unusedVariables false

theorem own : ownKnob Try.prog.godebug = none := by kernel_rfl
theorem laidOut : laidOutB Try.prog = true := by kernel_rfl

theorem small_of {T : Ten} {A : TA} {W : World} (s : TenIn W T A) (u : A.cd * 8 ≤ 140737488351232 ∧ A.cf * 4 ≤ 140737488351232 ∧ A.ci * 8 ≤ 140737488351232 ∧ A.cb * 1 ≤ 140737488351232) : okLen T := by
  obtain ⟨u1, u2, u3, u4⟩ := u
  have h1 := s.2.1.1; have h2 := s.2.2.1.1; have h3 := s.2.2.2.1.1; have h4 := s.2.2.2.2.1
  unfold okLen
  omega
theorem canon_len {T : Ten} (h : okLen T) : okLen (canonT T) := by
  unfold okLen canonT at *
  simpa using h
set_option maxRecDepth 100000 in
set_option maxHeartbeats 8000000 in
/-- The statement's call returns true, whatever came in. -/
theorem walk (T0 : Ten) (A0 : TA) (T1 : Ten) (A1 : TA) (W : World) (s0 : TenIn W T0 A0) (u0 : A0.cd * 8 ≤ 140737488351232 ∧ A0.cf * 4 ≤ 140737488351232 ∧ A0.ci * 8 ≤ 140737488351232 ∧ A0.cb * 1 ≤ 140737488351232) (s1 : TenIn W T1 A1) (u1 : A1.cd * 8 ≤ 140737488351232 ∧ A1.cf * 4 ≤ 140737488351232 ∧ A1.ci * 8 ≤ 140737488351232 ∧ A1.cb * 1 ≤ 140737488351232) :
    Calls Try.prog 3 #[tenV T0 A0, tenV T1 A1] W fun e W' => e = .returned (.bool true) ∧ Below W.heap.size W W' := by
  have ok := small_of s0 u0
  have ok1 := small_of s1 u1
  obtain ⟨ty, ds, fs, is, bs⟩ := T0
  obtain ⟨pd, cd, pf, cf, pi, ci, pb, cb⟩ := A0
  obtain ⟨ty', ds', fs', is', bs'⟩ := T1
  obtain ⟨pd', cd', pf', cf', pi', ci', pb', cb'⟩ := A1
  have S0 := hide s0
  have S1 := hide s1
  have RC := hide (fun w A h => rcopy_any (ty, ds, fs, is, bs) A w h ok)
  have TCp := hide (fun w h => tcopy_any (ty, ds, fs, is, bs) ⟨pd, cd, pf, cf, pi, ci, pb, cb⟩ w h ok)
  have TCn := hide (fun w h => tcanon_any (ty, ds, fs, is, bs) ⟨pd, cd, pf, cf, pi, ci, pb, cb⟩ w h ok)
  have RCn := hide (fun w A h => rten_canon (ty, ds, fs, is, bs) A w h ok)
  have RC1 := hide (fun w h => rcopy_any (ty', ds', fs', is', bs') ⟨pd', cd', pf', cf', pi', ci', pb', cb'⟩ w h ok1)
  unfold canonT at TCn RCn
  simp only at TCn RCn
  obtain ⟨gs, hgs⟩ : ∃ gs, fs.map Flt.canon = gs := ⟨_, rfl⟩
  rw [hgs] at TCn RCn
  unfold tenV tenCells at RC TCp TCn RCn RC1 ⊢
  simp only at RC TCp TCn RCn RC1 ⊢
  clear s0 s1 u0 u1 ok ok1 hgs
  go_enter Try.func3, Try.ntmps3
  go_wp2_with fail
  refine (awake5_any _).mono ?_
  rintro e w1 ⟨rfl, hb⟩
  have XT := hide (Box.below (Box.alloc (Box.new W #[.int .i64 ty, .slice pd ds.length cd, .slice pf fs.length cf, .slice pi is.length ci, .slice pb bs.length cb] 27) _) hb)
  have XU := hide (Box.below (Box.new (W.alloc _) #[.int .i64 ty', .slice pd' ds'.length cd', .slice pf' fs'.length cf', .slice pi' is'.length ci', .slice pb' bs'.length cb'] 27) hb)
  simp only [alloc_size] at XU
  have B := hide (bl_tr (al2 _ _ _) hb)
  have xt := (unhide XT).cell
  clear hb
  go_wp2_with fail
  refine (unhide RC _ ⟨pd, cd, pf, cf, pi, ci, pb, cb⟩ ((unhide S0).below (unhide B))).mono ?_
  rintro e w2 ⟨⟨C, rfl, hO⟩, hb⟩
  obtain ⟨qd, ed, qf, ef, qi, ei, qb, eb⟩ := C
  have HB := hide hO.1
  have HB2 := hide hO.1
  replace XT := hide ((unhide XT).below hb)
  replace XU := hide ((unhide XU).below hb)
  have XU2 := XU
  replace B := hide (bl_tr (unhide B) hb)
  have B2 := B
  clear hb hO xt
  have xt := (unhide XT).cell
  have zt := (unhide XT).lt
  simp only
  go_wp2_with fail
  refine (unhide TCp _ ((unhide S0).below (bl_tr (unhide B) (al1 _ _)))).mono ?_
  rintro e w3 ⟨⟨C, rfl, hO⟩, hb⟩
  obtain ⟨rd, d1, rf, d2, ri, d3, rb, d4⟩ := C
  have bb := bl_tr (al1 _ _) hb
  have XB := hide (Box.below (Box.new w2 #[.int .i64 ty, .slice qd ds.length ed, .slice qf fs.length ef, .slice qi is.length ei, .slice qb bs.length eb] 27) hb)
  have OC := hide hO
  simp only [alloc_size] at OC
  have zc : w2.heap.size + 1 ≤ w3.heap.size := by have := hb.size; rw [alloc_size] at this; exact this
  replace HB := hide ((unhide HB).below bb)
  have HB3 := HB
  replace XT := hide ((unhide XT).below bb)
  have XT3 := XT
  replace XU := hide ((unhide XU).below bb)
  have XU3 := XU
  have XB3 := XB
  have OC3 := OC
  have BP2 := hide bb
  replace B := hide (bl_tr (unhide B) bb)
  have B3 := B
  clear hb hO bb xt zt TCp
  have xt := (unhide XT).cell
  have zt := (unhide XT).lt
  simp only
  go_wp2_with fail
  refine (unhide TCn _ ((unhide S0).below (bl_tr (unhide B) (al1 _ _)))).mono ?_
  rintro e w4 ⟨⟨C, rfl, hO⟩, hb⟩
  obtain ⟨sd, g1, sf, g2, si, g3, sb, g4⟩ := C
  have bb := bl_tr (al1 _ _) hb
  have XC := hide (Box.below (Box.new w3 #[.int .i64 ty, .slice rd ds.length d1, .slice rf fs.length d2, .slice ri is.length d3, .slice rb bs.length d4] 27) hb)
  have OD := hide hO
  simp only [alloc_size] at OD
  have zd : w3.heap.size + 1 ≤ w4.heap.size := by have := hb.size; rw [alloc_size] at this; exact this
  have D4 := hide (bb.mono (show w2.heap.size + 1 ≤ w3.heap.size from zc))
  replace OC := hide ((unhide OC).below bb)
  replace HB := hide ((unhide HB).below bb)
  replace XT := hide ((unhide XT).below bb)
  replace XU := hide ((unhide XU).below bb)
  replace XB := hide ((unhide XB).below bb)
  replace B := hide (bl_tr (unhide B) bb)
  clear hb hO bb xt zt TCn
  simp only
  go_wp2_with fail
  obtain ⟨w5, hw5⟩ : ∃ w5, w4.alloc (.cells #[.int .i64 ty, .slice sd ds.length g1, .slice sf gs.length g2, .slice si is.length g3, .slice sb bs.length g4] 27) = w5 := ⟨_, rfl⟩
  rw [hw5]
  have b45 : Below w4.heap.size w4 w5 := by rw [← hw5]; exact al1 _ _
  have XD : Hid (Box w5 w4.heap.size #[.int .i64 ty, .slice sd ds.length g1, .slice sf gs.length g2, .slice si is.length g3, .slice sb bs.length g4] 27) := hide (by rw [← hw5]; exact Box.new _ _ _)
  replace OC := hide ((unhide OC).below b45)
  replace OD := hide ((unhide OD).below b45)
  replace HB := hide ((unhide HB).below b45)
  replace XT := hide ((unhide XT).below b45)
  replace XU := hide ((unhide XU).below b45)
  replace XB := hide ((unhide XB).below b45)
  replace XC := hide ((unhide XC).below b45)
  replace B := hide (bl_tr (unhide B) b45)
  have zs : w4.heap.size < w5.heap.size := (unhide XD).lt
  have XD5 := XD
  have D5 := hide ((unhide D4).trans (b45.mono (show w2.heap.size + 1 ≤ w4.heap.size by omega)))
  clear hw5 b45 D4
  have xb := (unhide XB).cell
  have xc := (unhide XC).cell
  have xd := (unhide XD).cell
  have fb : Hid (Below w5.heap.size w5 w5.drew) := hide (bdrew _)
  have M1 := hide (fun w h k => rten_same (ty, ds, fs, is, bs) (ty, ds, fs, is, bs) ⟨rd, d1, rf, d2, ri, d3, rb, d4⟩ ⟨qd, ed, qf, ef, qi, ei, qb, eb⟩ w h k)
  have M2 := hide (fun w A h k => rten_same (ty, ds, gs, is, bs) (ty, ds, gs, is, bs) ⟨sd, g1, sf, g2, si, g3, sb, g4⟩ A w h k)
  rw [decide_eq_true rfl] at M1
  have M2' : Hid (∀ w A, TenIn w (ty, ds, gs, is, bs) ⟨sd, g1, sf, g2, si, g3, sb, g4⟩ → TenIn w (ty, ds, gs, is, bs) A → Calls Try.prog 13 #[tenV (ty, ds, gs, is, bs) ⟨sd, g1, sf, g2, si, g3, sb, g4⟩, tenV (ty, ds, gs, is, bs) A] w fun e w' => e = .returned (.bool true) ∧ Below w.heap.size w w') := hide (fun w A h k => by have := unhide M2 w A h k; rw [decide_eq_true rfl] at this; exact this)
  clear M2
  have M2 := M2'
  clear M2'
  unfold tenV tenCells at M1 M2
  simp only at M1 M2
  go_region_held3 (fun w' => (∀ j, w'.cell? ⟨w2.heap.size, j, none⟩ = (#[.int .i64 ty, .slice qd ds.length ed, .slice qf fs.length ef, .slice qi is.length ei, .slice qb bs.length eb] : Array Value)[j]?) ∧ (∀ j, w'.cell? ⟨w3.heap.size, j, none⟩ = (#[.int .i64 ty, .slice rd ds.length d1, .slice rf fs.length d2, .slice ri is.length d3, .slice rb bs.length d4] : Array Value)[j]?) ∧ (∀ j, w'.cell? ⟨w4.heap.size, j, none⟩ = (#[.int .i64 ty, .slice sd ds.length g1, .slice sf gs.length g2, .slice si is.length g3, .slice sb bs.length g4] : Array Value)[j]?) ∧ Hid (Below w5.heap.size w5 w')) (refine ⟨?_, ?_, ?_, ?_⟩ <;> assumption)
    (first
      | (go_at_call 13; (refine (unhide M2 _ ⟨ad, a1, af, a2, ai, a3, ab, a4⟩ ((unhide OD).1.below (unhide k7)) (unhide HE)).mono ?_; rintro e w8 ⟨rfl, hb8⟩; have k8 : Hid (Below w5.heap.size w5 w8) := hide (bl_tr (unhide k7) hb8); have q7 := ((unhide XB).below (unhide k8)).cell; have q8 := ((unhide XC).below (unhide k8)).cell; have q9 := ((unhide XD).below (unhide k8)).cell; clear hb8))
      | (go_at_call 14; (refine (unhide RCn _ ⟨qd, ed, qf, ef, qi, ei, qb, eb⟩ ((unhide HB).below (unhide k6))).mono ?_; rintro e w7 ⟨⟨C, rfl, hO⟩, hb7⟩; obtain ⟨ad, a1, af, a2, ai, a3, ab, a4⟩ := C; have k7 : Hid (Below w5.heap.size w5 w7) := hide (bl_tr (unhide k6) hb7); have q4 := ((unhide XB).below (unhide k7)).cell; have q5 := ((unhide XC).below (unhide k7)).cell; have q6 := ((unhide XD).below (unhide k7)).cell; have HE := hide hO.1; clear hb7 hO))
      | (go_at_call 13; (refine (unhide M1 _ ((unhide OC).1.below (bdrew _)) ((unhide HB).below (bdrew _))).mono ?_; rintro e w6 ⟨rfl, hb6⟩; have k6 : Hid (Below w5.heap.size w5 w6) := hide (bl_tr (bdrew _) hb6); have q1 := ((unhide XB).below (unhide k6)).cell; have q2 := ((unhide XC).below (unhide k6)).cell; have q3 := ((unhide XD).below (unhide k6)).cell; clear hb6)))
  clear RCn M1 M2 xb xc xd fb q1 q2 q3 q4 q5 q6 q7 q8 q9 k6 k7 HE XD
  have zxc := (unhide XC).lt
  replace XC := hide ((unhide XC).below (unhide k8))
  have xc := (unhide XC).cell
  have OC8 := hide ((unhide OC).below (unhide k8))
  have OD8 := hide ((unhide OD).below (unhide k8))
  have sz8 := (unhide k8).size
  have XD8 := hide ((unhide XD5).below (unhide k8))
  have D8 := hide ((unhide D5).trans ((unhide k8).mono (by omega)))
  have SP := hide (spoil_any (w2.heap.size + 1) (ty, ds, fs, is, bs) ⟨rd, d1, rf, d2, ri, d3, rb, d4⟩ w8 (unhide OC8) (by omega))
  unfold tenV tenCells at SP
  simp only at SP
  go_wp2_with fail
  refine (unhide SP).mono ?_
  rintro e w9 ⟨rfl, hb9, hk9⟩
  have hoff : ∀ b, w3.heap.size ≤ b → Off (ty, ds, fs, is, bs) ⟨rd, d1, rf, d2, ri, d3, rb, d4⟩ b := fun b hb => off_later (unhide OC3).1 hb
  have OD9 := hide (((unhide OD8).kept hk9 (fun b hb => hoff b (by omega))).mono (show w2.heap.size + 1 ≤ w3.heap.size + 1 by omega))
  have XD9 := hide ((unhide XD8).kept hk9 (hoff _ (by omega)))
  have D9 := hide ((unhide D8).trans hb9)
  have xd := (unhide XD9).cell
  have sz9 := hk9.1
  clear hb9 hk9 SP hoff xc OC8 OD8 XD8 D8 XC
  have SP := hide (spoil_any (w2.heap.size + 1) (ty, ds, gs, is, bs) ⟨sd, g1, sf, g2, si, g3, sb, g4⟩ w9 (unhide OD9) (by omega))
  unfold tenV tenCells at SP
  simp only at SP
  go_wp2_with fail
  refine (unhide SP).mono ?_
  rintro e w10 ⟨rfl, hb10, hk10⟩
  have DD := hide ((unhide D9).trans hb10)
  have sz10 := hk10.1
  clear hb10 hk10 SP xd XD9 OD9 D9 OC OD
  have BF := hide ((unhide B3).trans ((unhide DD).mono (by have := (unhide B2).size; omega)))
  have HBF := hide ((unhide HB2).below ((unhide BP2).trans ((unhide DD).mono (by omega))))
  have XBF := hide (show Box w10 w2.heap.size _ _ from ((unhide DD).block w2.heap.size (by omega)).trans (unhide XB3))
  have XTF := hide (show Box w10 W.heap.size _ _ from ((unhide DD).block W.heap.size (by have := (unhide B2).size; omega)).trans (unhide XT3))
  have XUF := hide (show Box w10 (W.heap.size + 1) _ _ from ((unhide DD).block (W.heap.size + 1) (by have := (unhide XU2).lt; omega)).trans (unhide XU3))
  clear HB XB XT XU B DD
  have xb := (unhide XBF).cell
  have xt := (unhide XTF).cell
  have SM := hide (fun w h k => rten_same (ty, ds, fs, is, bs) (ty, ds, fs, is, bs) ⟨pd, cd, pf, cf, pi, ci, pb, cb⟩ ⟨qd, ed, qf, ef, qi, ei, qb, eb⟩ w h k)
  rw [decide_eq_true rfl] at SM
  unfold tenV tenCells at SM
  simp only at SM
  go_wp2_with fail
  refine (unhide SM _ ((unhide S0).below (unhide BF)) (unhide HBF)).mono ?_
  rintro e v0 ⟨rfl, bb⟩
  replace BF := hide (bl_tr (unhide BF) bb)
  replace HBF := hide ((unhide HBF).below bb)
  replace XBF := hide ((unhide XBF).below bb)
  replace XTF := hide ((unhide XTF).below bb)
  replace XUF := hide ((unhide XUF).below bb)
  clear bb SM xb xt
  have xb := (unhide XBF).cell
  have xt := (unhide XTF).cell
  have xu := (unhide XUF).cell
  have n0 : Hid (Below v0.heap.size v0 v0.drew) := hide (bdrew _)
  have TK0 := hide (fun w h => tcheck_any (ty, ds, fs, is, bs) ⟨pd, cd, pf, cf, pi, ci, pb, cb⟩ w h)
  have RK0 := hide (fun w h => rcheck_any (ty, ds, fs, is, bs) ⟨pd, cd, pf, cf, pi, ci, pb, cb⟩ w h)
  have TK1 := hide (fun w h => tcheck_any (ty', ds', fs', is', bs') ⟨pd', cd', pf', cf', pi', ci', pb', cb'⟩ w h)
  have RK1 := hide (fun w h => rcheck_any (ty', ds', fs', is', bs') ⟨pd', cd', pf', cf', pi', ci', pb', cb'⟩ w h)
  have TSu := hide (fun w h k => tsame_any (ty, ds, fs, is, bs) (ty', ds', fs', is', bs') ⟨pd, cd, pf, cf, pi, ci, pb, cb⟩ ⟨pd', cd', pf', cf', pi', ci', pb', cb'⟩ w h k)
  have RSu := hide (fun w h k => rten_same (ty, ds, fs, is, bs) (ty', ds', fs', is', bs') ⟨pd, cd, pf, cf, pi, ci, pb, cb⟩ ⟨pd', cd', pf', cf', pi', ci', pb', cb'⟩ w h k)
  have TSb := hide (fun w h k => tsame_any (ty, ds, fs, is, bs) (ty, ds, fs, is, bs) ⟨pd, cd, pf, cf, pi, ci, pb, cb⟩ ⟨qd, ed, qf, ef, qi, ei, qb, eb⟩ w h k)
  have TSc : Hid (∀ w A, TenIn w (ty', ds', fs', is', bs') ⟨pd', cd', pf', cf', pi', ci', pb', cb'⟩ → TenIn w (ty', ds', fs', is', bs') A → Calls Try.prog 18 #[tenV (ty', ds', fs', is', bs') ⟨pd', cd', pf', cf', pi', ci', pb', cb'⟩, tenV (ty', ds', fs', is', bs') A] w fun e w' => e = .returned (.bool true) ∧ Below w.heap.size w w') := hide (fun w A h k => by have := tsame_any (ty', ds', fs', is', bs') (ty', ds', fs', is', bs') ⟨pd', cd', pf', cf', pi', ci', pb', cb'⟩ A w h k; rw [decide_eq_true rfl] at this; exact this)
  rw [decide_eq_true rfl] at TSb
  obtain ⟨E0, hE0⟩ : ∃ E, checkV (ty, ds, fs, is, bs) = E := ⟨_, rfl⟩
  obtain ⟨E1, hE1⟩ : ∃ E, checkV (ty', ds', fs', is', bs') = E := ⟨_, rfl⟩
  obtain ⟨DS, hDS⟩ : ∃ D, decide ((ty, ds, fs, is, bs) = (ty', ds', fs', is', bs')) = D := ⟨_, rfl⟩
  rw [hE0] at TK0 RK0
  rw [hE1] at TK1 RK1
  rw [hDS] at TSu RSu
  unfold tenV tenCells at TK0 RK0 TK1 RK1 TSu RSu TSb TSc
  simp only at TK0 RK0 TK1 RK1 TSu RSu TSb TSc
  clear hE0 hE1 hDS HB2 HB3 XB3 XT3 XU3 XU2 B2 B3 BP2 OC3 XD5 D5 k8 RC
  go_wp2_with fail
  go_region_held3 (fun w' => (∀ j, w'.cell? ⟨w2.heap.size, j, none⟩ = (#[.int .i64 ty, .slice qd ds.length ed, .slice qf fs.length ef, .slice qi is.length ei, .slice qb bs.length eb] : Array Value)[j]?) ∧ (∀ j, w'.cell? ⟨W.heap.size, j, none⟩ = (#[.int .i64 ty, .slice pd ds.length cd, .slice pf fs.length cf, .slice pi is.length ci, .slice pb bs.length cb] : Array Value)[j]?) ∧ (∀ j, w'.cell? ⟨W.heap.size + 1, j, none⟩ = (#[.int .i64 ty', .slice pd' ds'.length cd', .slice pf' fs'.length cf', .slice pi' is'.length ci', .slice pb' bs'.length cb'] : Array Value)[j]?) ∧ Hid (Below v0.heap.size v0 w')) (refine ⟨?_, ?_, ?_, ?_⟩ <;> assumption)
    (first
      | (go_at_call 18; (refine (unhide TSc _ ⟨ad, a1, af, a2, ai, a3, ab, a4⟩ ((unhide S1).below (bl_tr (unhide BF) (unhide n8))) (unhide HE)).mono ?_; rintro e v9 ⟨rfl, hb8⟩; have n9 : Hid (Below v0.heap.size v0 v9) := hide (bl_tr (unhide n8) hb8); have xb8 := ((unhide XBF).below (unhide n9)).cell; have xt8 := ((unhide XTF).below (unhide n9)).cell; have xu8 := ((unhide XUF).below (unhide n9)).cell; clear hb8 n8))
      | (go_at_call 10; (refine (unhide RC1 _ ((unhide S1).below (bl_tr (unhide BF) (unhide n7)))).mono ?_; rintro e v8 ⟨⟨C, rfl, hO⟩, hb7⟩; obtain ⟨ad, a1, af, a2, ai, a3, ab, a4⟩ := C; have HE := hide hO.1; clear hO; have n8 : Hid (Below v0.heap.size v0 v8) := hide (bl_tr (unhide n7) hb7); have xb7 := ((unhide XBF).below (unhide n8)).cell; have xt7 := ((unhide XTF).below (unhide n8)).cell; have xu7 := ((unhide XUF).below (unhide n8)).cell; clear hb7 n7))
      | (go_at_call 18; (refine (unhide TSb _ ((unhide S0).below (bl_tr (unhide BF) (unhide n6))) ((unhide HBF).below (unhide n6))).mono ?_; rintro e v7 ⟨rfl, hb6⟩; have n7 : Hid (Below v0.heap.size v0 v7) := hide (bl_tr (unhide n6) hb6); have xb6 := ((unhide XBF).below (unhide n7)).cell; have xt6 := ((unhide XTF).below (unhide n7)).cell; have xu6 := ((unhide XUF).below (unhide n7)).cell; clear hb6 n6))
      | (go_at_call 13; (refine (unhide RSu _ ((unhide S0).below (bl_tr (unhide BF) (unhide n5))) ((unhide S1).below (bl_tr (unhide BF) (unhide n5)))).mono ?_; rintro e v6 ⟨rfl, hb5⟩; have n6 : Hid (Below v0.heap.size v0 v6) := hide (bl_tr (unhide n5) hb5); have xb5 := ((unhide XBF).below (unhide n6)).cell; have xt5 := ((unhide XTF).below (unhide n6)).cell; have xu5 := ((unhide XUF).below (unhide n6)).cell; clear hb5 n5))
      | (go_at_call 18; (refine (unhide TSu _ ((unhide S0).below (bl_tr (unhide BF) (unhide n4))) ((unhide S1).below (bl_tr (unhide BF) (unhide n4)))).mono ?_; rintro e v5 ⟨rfl, hb4⟩; have n5 : Hid (Below v0.heap.size v0 v5) := hide (bl_tr (unhide n4) hb4); have xb4 := ((unhide XBF).below (unhide n5)).cell; have xt4 := ((unhide XTF).below (unhide n5)).cell; have xu4 := ((unhide XUF).below (unhide n5)).cell; clear hb4 n4))
      | (go_at_call 17; (refine (unhide RK1 _ ((unhide S1).below (bl_tr (unhide BF) (unhide n3)))).mono ?_; rintro e v4 ⟨rfl, hb3⟩; have n4 : Hid (Below v0.heap.size v0 v4) := hide (bl_tr (unhide n3) hb3); have xb3 := ((unhide XBF).below (unhide n4)).cell; have xt3 := ((unhide XTF).below (unhide n4)).cell; have xu3 := ((unhide XUF).below (unhide n4)).cell; clear hb3 n3))
      | (go_at_call 16; (refine (unhide TK1 _ ((unhide S1).below (bl_tr (unhide BF) (unhide n2)))).mono ?_; rintro e v3 ⟨rfl, hb2⟩; have n3 : Hid (Below v0.heap.size v0 v3) := hide (bl_tr (unhide n2) hb2); have xb2 := ((unhide XBF).below (unhide n3)).cell; have xt2 := ((unhide XTF).below (unhide n3)).cell; have xu2 := ((unhide XUF).below (unhide n3)).cell; clear hb2 n2))
      | (go_at_call 17; (refine (unhide RK0 _ ((unhide S0).below (bl_tr (unhide BF) (unhide n1)))).mono ?_; rintro e v2 ⟨rfl, hb1⟩; have n2 : Hid (Below v0.heap.size v0 v2) := hide (bl_tr (unhide n1) hb1); have xb1 := ((unhide XBF).below (unhide n2)).cell; have xt1 := ((unhide XTF).below (unhide n2)).cell; have xu1 := ((unhide XUF).below (unhide n2)).cell; clear hb1 n1))
      | (go_at_call 16; (refine (unhide TK0 _ ((unhide S0).below (bl_tr (unhide BF) (unhide n0)))).mono ?_; rintro e v1 ⟨rfl, hb0⟩; have n1 : Hid (Below v0.heap.size v0 v1) := hide (bl_tr (unhide n0) hb0); have xb0 := ((unhide XBF).below (unhide n1)).cell; have xt0 := ((unhide XTF).below (unhide n1)).cell; have xu0 := ((unhide XUF).below (unhide n1)).cell; clear hb0 n0)))
  go_wp2_with fail
  go_ret
  exact ⟨rfl, bl_tr (unhide BF) (unhide n9)⟩

set_option maxRecDepth 100000 in
theorem contract (H : Type) (enc : TypeId × Value → H) (W : World) (base : Nat) (args : Array Value) (ds gs : List (DataW H)) (before : List MemPlace)
    (hval0 : ∀ (j : Nat) t v, Try.f3.params[j]? = some t → args[j]? = some v → Value.okWide Try.prog W .any base t v)
    (hW : DataW.Whole enc Try.prog Try.f3.params.toList Rows.tensLooksSpec.vars false W args.toList ds gs before) (hsz0 : (DataW.weightsEach Try.prog (Try.f3.params.toList ++ Rows.tensLooksSpec.plain.varTypes Try.prog) (ds ++ gs)).all (· ≤ reachBytes) = true) :
    Calls Try.prog 3 args W fun e W' => ∃ v, e = .returned v ∧ Rows.tensLooksSpec.post enc Try.prog Try.f3 false true false false W args v W' := by
  have hval : ∀ (j : Nat) t v, Try.f3.params[j]? = some t → args[j]? = some v → Value.okWide Try.prog W .any base t v := hval0
  have hW' := hW
  obtain ⟨p, q, hA0, hV, rfl, hfz, hnd⟩ := hW
  have hA : DataW.TrodAll enc Try.prog W 0 (fun _ => true) true Try.f3.params.toList args.toList ds p := hA0
  have hsz : (DataW.weightsEach Try.prog (Try.f3.params.toList ++ Rows.tensLooksSpec.plain.varTypes Try.prog) (ds ++ gs)).all (· ≤ reachBytes) = true := hsz0
  clear hsz0
  rw [Try.params3] at hA hval hsz
  obtain ⟨v0, vs0, d0, ds0, pl0, q0, hargs, rfl, rfl, h0, r0⟩ := trodAll_cons hA
  obtain ⟨v1, vs1, d1, ds1, pl1, q1, rfl, rfl, rfl, h1, r1⟩ := trodAll_cons r0
  obtain ⟨rfl, rfl, rfl⟩ := trodAll_nil r1
  obtain rfl : args = #[v0, v1] := by cases args; simp_all
  obtain ⟨rfl, rfl⟩ := trodVars_none hV
  have h0k := h0
  obtain ⟨T0, A0, rfl, s0, g0⟩ := ten_open (hval 0 27 v0 rfl rfl) h0
  have hlt0 : ∀ y ∈ pl0, y.block < W.heap.size := fun y hy => hW'.lt y (by simp [hy])
  have u0 : A0.cd * 8 ≤ 140737488351232 ∧ A0.cf * 4 ≤ 140737488351232 ∧ A0.ci * 8 ≤ 140737488351232 ∧ A0.cb * 1 ≤ 140737488351232 := by
    have := g0 (fun m hm => by have h9 := List.all_eq_true.1 hsz m (DataW.weights_mem_each (j := 0) rfl rfl m hm); simpa using h9)
    unfold reachBytes at this
    exact this
  have h1k := h1
  obtain ⟨T1, A1, rfl, s1, g1⟩ := ten_open (hval 1 27 v1 rfl rfl) h1
  have hlt1 : ∀ y ∈ pl1, y.block < W.heap.size := fun y hy => hW'.lt y (by simp [hy])
  have u1 : A1.cd * 8 ≤ 140737488351232 ∧ A1.cf * 4 ≤ 140737488351232 ∧ A1.ci * 8 ≤ 140737488351232 ∧ A1.cb * 1 ≤ 140737488351232 := by
    have := g1 (fun m hm => by have h9 := List.all_eq_true.1 hsz m (DataW.weights_mem_each (j := 1) rfl rfl m hm); simpa using h9)
    unfold reachBytes at this
    exact this
  clear hA0 hval0
  simp only [List.append_nil] at hW'
  refine (walk T0 A0 T1 A1 W s0 u0 s1 u1).mono fun e W' ⟨he, bel⟩ => ?_
  subst he
  exact ⟨_, rfl, _, _, _, [], _, [], hW', trodAll_mk1 (shut_bool Try.underlying4 _), (trodAll_cons_mk (Below.trod laidOut (by kernel_rfl) (of_decide_eq_true (by kernel_rfl)) h0k bel hlt0) (trodAll_cons_mk (Below.trod laidOut (by kernel_rfl) (of_decide_eq_true (by kernel_rfl)) h1k bel hlt1) trodAll_mk0)), rfl, bel.frame _, fun h => by cases h⟩

set_option maxRecDepth 100000 in
theorem lifted (os : Os) (started : os.Started) (H : Type) (enc : TypeId × Value → H) :
    ReturnsInHanded {} Try.checked os 3 .any (Rows.tensLooksSpec.pre6 enc Try.prog Try.f3 Rows.tensLooksRow.domain false) (Rows.tensLooksSpec.post enc Try.prog Try.f3 false true false false) := by
  refine returnsInHanded_of_change_sized (C := Try.checked) own started (by kernel_rfl) Try.func3
    (ChangeSpec.witness6 (enc := enc) (C := Try.checked) false ⟨#[], #[.agg #[.int .i64 0, .slice none 0 0, .slice none 0 0, .slice none 0 0, .slice none 0 0], .agg #[.int .i64 0, .slice none 0 0, .slice none 0 0, .slice none 0 0, .slice none 0 0]], []⟩ 8 (by kernel_rfl) (by kernel_rfl) (by kernel_rfl) (by kernel_rfl)) ?_
  intro W base args ds gs before hval hW hcnd hsz _
  exact contract H enc W base args ds gs before hval hW hsz

theorem proved : Rows.TensLooksSaid :=
  OpenClaim.holds_of_wide 3 Try.f3 rfl rfl rfl rfl rfl rfl rfl ⟨rfl, rfl, rfl, rfl, rfl⟩ rfl rfl rfl rfl rfl (by kernel_rfl) Try.func3 (by kernel_rfl)
    (of_decide_eq_true (by kernel_rfl)) (by unfold Func.isWrapper; first | (rw [if_pos (by decide +kernel)]; kernel_rfl) | (rw [if_neg (by decide +kernel)]; exact ⟨rfl, rfl⟩))
    (fun os started H enc _ => lifted os started H enc)
#print axioms proved
end Go.Proofs.Ytbepkmehnghmcaa.tensLooks
