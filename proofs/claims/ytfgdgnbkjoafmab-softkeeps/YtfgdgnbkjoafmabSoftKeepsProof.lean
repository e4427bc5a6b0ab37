/-
  SoftKeeps holds: rounding keeps order: for every way and every three floats, of two that stand so, their sums with the third one never stand the other way round. No condition.
-/
import Derived.Test.YtfgdgnbkjoafmabRows
import Derived.WalkKit
import Derived.ProofKit
import Derived.OpenShut
import Derived.Below
import Derived.Test.YtfgdgnbkjoafmabWkF
import Derived.Test.YtfgdgnbkjoafmabFltI
namespace Go.Proofs.Ytfgdgnbkjoafmab.softKeeps
open Go.ChangeShapes Go.WideShapes Go.ChangeAt Go.RowKit
set_option linter.unusedVariables false      -- a walk need not use every 'w<i>' (that an integer argument fits its kind)

theorem own : ownKnob Try.prog.godebug = none := by kernel_rfl

/-- Order is kept, of all floats. -/
theorem keeps (way a b c : Int) (h0 : 0 ≤ a) (h1 : a < 4294967296) (g0 : 0 ≤ b) (g1 : b < 4294967296) (k0 : 0 ≤ c) (h : Flt.lessF a b = true) :
    Flt.lessF (Flt.addBy way b c) (Flt.addBy way a c) = false := by
  have pl : ∀ x : Int, 0 ≤ x → x < 4294967296 → Flt.isNaN x = false → -2139095040 ≤ Flt.place x ∧ Flt.place x ≤ 2139095040 := by
    intro x x0 x1 hx
    rw [Flt.isNaN_not] at hx
    rw [Flt.place_eq_mg x x0 x1]; split <;> omega
  have hle : ∀ x y : Int, Flt.place y ≤ Flt.place x → Flt.lessF x y = false := by
    intro x y hxy
    unfold Flt.lessF
    rw [show decide (Flt.place x < Flt.place y) = false by simp; omega]; simp
  have hna : ∀ x y : Int, Flt.isNaN x = true ∨ Flt.isNaN y = true → Flt.lessF x y = false := by
    intro x y hxy
    unfold Flt.lessF
    rcases hxy with hx | hx <;> simp [hx]
  have hab : (Flt.isNaN a = false ∧ Flt.isNaN b = false) ∧ Flt.place a < Flt.place b := by
    unfold Flt.lessF at h
    simpa using h
  obtain ⟨⟨na, nb⟩, hp⟩ := hab
  by_cases nc : Flt.isNaN c = true
  · refine hna _ _ (.inl ?_)
    have : Flt.addBy way b c = 2143289344 := by unfold Flt.addBy; rw [if_pos (.inr nc)]
    rw [this]; decide +kernel
  have nc' : Flt.isNaN c = false := by cases hc : Flt.isNaN c <;> simp_all
  by_cases ic : Flt.isInf c = true
  · -- the third one is infinite
    have key : ∀ x : Int, Flt.isNaN x = false → Flt.addBy way x c = c ∨ Flt.addBy way x c = 2143289344 := by
      intro x hx
      unfold Flt.addBy
      cases hix : Flt.isInf x
      · simp [hx, nc', ic]
      · by_cases e : x = c
        · simp [nc', ic, e]
        · simp [hx, nc', ic, e]
    rcases key a na with ea | ea <;> rcases key b nb with eb | eb <;> rw [ea, eb]
    · exact hle _ _ (Int.le_refl _)
    · exact hna _ _ (.inl (by decide +kernel))
    · exact hna _ _ (.inr (by decide +kernel))
    · exact hle _ _ (Int.le_refl _)
  have ic' : Flt.isInf c = false := by cases hc : Flt.isInf c <;> simp_all
  have hc : Flt.mg c < 2139095040 := (Flt.fin_iff c).1 ⟨nc', ic'⟩
  have inf_add : ∀ x : Int, Flt.isNaN x = false → Flt.isInf x = true → Flt.addBy way x c = x := by
    intro x hx hix
    unfold Flt.addBy
    simp [hx, nc', hix, ic']
  by_cases ia : Flt.isInf a = true
  · rw [inf_add a na ia]
    have hm := (Flt.isInf_iff a).1 ia
    have hpa := Flt.place_eq_mg a h0 h1
    obtain ⟨pb1, pb2⟩ := pl b g0 g1 nb
    have hpa2 : Flt.place a = -2139095040 := by
      rw [hm] at hpa; split at hpa <;> omega
    by_cases ib : Flt.isInf b = true
    · rw [inf_add b nb ib]; exact hle _ _ (by omega)
    · have ib' : Flt.isInf b = false := by cases hib : Flt.isInf b <;> simp_all
      have gb := Flt.good_sum (Flt.addBy_fin way b c g0 k0 ((Flt.fin_iff b).1 ⟨nb, ib'⟩) hc)
      by_cases nr : Flt.isNaN (Flt.addBy way b c) = true
      · exact hna _ _ (.inl nr)
      · obtain ⟨q1, _⟩ := pl _ gb.1 gb.2.1 (by cases hq : Flt.isNaN (Flt.addBy way b c) <;> simp_all)
        exact hle _ _ (by omega)
  have ia' : Flt.isInf a = false := by cases hia : Flt.isInf a <;> simp_all
  have ha := (Flt.fin_iff a).1 ⟨na, ia'⟩
  by_cases ib : Flt.isInf b = true
  · rw [inf_add b nb ib]
    have hm := (Flt.isInf_iff b).1 ib
    have hpb := Flt.place_eq_mg b g0 g1
    obtain ⟨pa1, pa2⟩ := pl a h0 h1 na
    have hpb2 : Flt.place b = 2139095040 := by
      rw [hm] at hpb; split at hpb <;> omega
    have ga := Flt.good_sum (Flt.addBy_fin way a c h0 k0 ha hc)
    by_cases nr : Flt.isNaN (Flt.addBy way a c) = true
    · exact hna _ _ (.inr nr)
    · obtain ⟨_, q2⟩ := pl _ ga.1 ga.2.1 (by cases hq : Flt.isNaN (Flt.addBy way a c) <;> simp_all)
      exact hle _ _ (by omega)
  have ib' : Flt.isInf b = false := by cases hib : Flt.isInf b <;> simp_all
  have hb := (Flt.fin_iff b).1 ⟨nb, ib'⟩
  exact hle _ _ (Flt.keeps_fin way a b c h0 h1 g0 g1 k0 ha hb hc hp)

set_option maxRecDepth 100000 in
set_option maxHeartbeats 2000000 in
theorem walk (a0 : Int) (a1 : Int) (a2 : Int) (a3 : Int) (w0 : (Lit.int .i64 a0).wf = true) (w1 : (Lit.int .u32 a1).wf = true) (w2 : (Lit.int .u32 a2).wf = true) (w3 : (Lit.int .u32 a3).wf = true) (w : World) :
    Calls Try.prog 6 #[.int .i64 a0, .int .u32 a1, .int .u32 a2, .int .u32 a3] w fun e w' => e = .returned (.bool true) ∧ Below w.heap.size w w' := by
  obtain ⟨h0, h1⟩ := wf_u32_iff w1
  obtain ⟨g0, g1⟩ := wf_u32_iff w2
  obtain ⟨k0, k1⟩ := wf_u32_iff w3
  obtain ⟨ga0, ga1, _⟩ := Flt.addBy_good a0 a1 a3 h0 h1 k0 k1
  obtain ⟨gb0, gb1, _⟩ := Flt.addBy_good a0 a2 a3 g0 g1 k0 k1
  have HK := hide (keeps a0 a1 a2 a3 h0 h1 g0 g1 k0)
  have key : (Flt.lessF a1 a2 = true ∧ Flt.lessF (Flt.addBy a0 a2 a3) (Flt.addBy a0 a1 a3) = false) ∨ Flt.lessF a1 a2 = false := by
    cases hl : Flt.lessF a1 a2
    · exact .inr rfl
    · exact .inl ⟨rfl, unhide HK hl⟩
  clear HK
  rcases key with ⟨k1, k2⟩ | k1
  all_goals
    go_enter Try.func6, Try.ntmps6
    go_wp2_with fail
    refine (awake_any _).mono ?_
    rintro e v1 ⟨rfl, hb1⟩
    go_wp2_with fail
    refine (less_any _ _ h0 h1 g0 g1 _).mono ?_
    rintro e v2 ⟨rfl, rfl⟩
    go_wp2_with fail
    refine (addBy_any _ _ _ (by assumption) (by assumption) (by assumption) (by assumption) _).mono ?_
    rintro e v3 ⟨rfl, hb3⟩
    go_wp2_with fail
    refine (addBy_any _ _ _ (by assumption) (by assumption) (by assumption) (by assumption) _).mono ?_
    rintro e v4 ⟨rfl, hb4⟩
    go_wp2_with fail
    refine (less_any _ _ (by assumption) (by assumption) (by assumption) (by assumption) _).mono ?_
    rintro e v5 ⟨rfl, rfl⟩
    go_wp2_with fail
    go_ret
    exact ⟨rfl, bl_tr (bl_tr hb1 hb3) hb4⟩

set_option maxRecDepth 100000 in
theorem lifted (os : Os) (started : os.Started) (H : Type) (enc : TypeId × Value → H) :
    ReturnsInHanded {} Try.checked os 6 .any (Rows.softKeepsSpec.pre6 enc Try.prog Try.f6 Rows.softKeepsRow.domain false) (Rows.softKeepsSpec.post enc Try.prog Try.f6 false true false false) := by
  refine returnsInHanded_of_change (C := Try.checked) own started (by kernel_rfl) Try.func6
    (ChangeSpec.witness6 (enc := enc) (C := Try.checked) false ⟨#[], #[.int .i64 0, .int .u32 0, .int .u32 0, .int .u32 0], []⟩ 8 (by kernel_rfl) (by kernel_rfl) (by kernel_rfl) (by kernel_rfl)) ?_
  intro W base args ds gs before hval0 hW hcnd _
  have hval : ∀ (j : Nat) t v, Try.f6.params[j]? = some t → args[j]? = some v → Value.okWide Try.prog W .any base t v := hval0
  have hW' := hW
  obtain ⟨p, q, hA0, hV, rfl, hfz, hnd⟩ := hW
  have hA : DataW.TrodAll enc Try.prog W 0 (fun _ => true) true Try.f6.params.toList args.toList ds p := hA0
  rw [Try.params6] at hA hval
  obtain ⟨v0, vs0, d0, ds0, p0, q0, hargs, rfl, rfl, h0, r0⟩ := trodAll_cons hA
  obtain ⟨v1, vs1, d1, ds1, p1, q1, rfl, rfl, rfl, h1, r1⟩ := trodAll_cons r0
  obtain ⟨v2, vs2, d2, ds2, p2, q2, rfl, rfl, rfl, h2, r2⟩ := trodAll_cons r1
  obtain ⟨v3, vs3, d3, ds3, p3, q3, rfl, rfl, rfl, h3, r3⟩ := trodAll_cons r2
  obtain ⟨rfl, rfl, rfl⟩ := trodAll_nil r3
  obtain rfl : args = #[v0, v1, v2, v3] := by cases args; simp_all
  obtain ⟨rfl, rfl⟩ := trodVars_none hV
  obtain ⟨a0, rfl, rfl, rfl, w0⟩ := open_int Try.underlying3 (hval 0 3 v0 rfl rfl) h0
  obtain ⟨a1, rfl, rfl, rfl, w1⟩ := open_int Try.underlying22 (hval 1 22 v1 rfl rfl) h1
  obtain ⟨a2, rfl, rfl, rfl, w2⟩ := open_int Try.underlying22 (hval 2 22 v2 rfl rfl) h2
  obtain ⟨a3, rfl, rfl, rfl, w3⟩ := open_int Try.underlying22 (hval 3 22 v3 rfl rfl) h3
  clear hA0 hval0
  simp only [List.append_nil] at hW'
  refine (walk a0 a1 a2 a3 w0 w1 w2 w3 W).mono fun e W' ⟨he, bel⟩ => ?_
  subst he
  exact ⟨_, rfl, _, _, _, [], _, [], hW', trodAll_mk1 (shut_bool Try.underlying4 _), (trodAll_cons_mk (shut_int Try.underlying3 w0) (trodAll_cons_mk (shut_int Try.underlying22 w1) (trodAll_cons_mk (shut_int Try.underlying22 w2) (trodAll_cons_mk (shut_int Try.underlying22 w3) trodAll_mk0)))), rfl, bel.frame _, fun h => by cases h⟩

theorem over : Rows.softKeepsRow.holds Try.pinned (OpenSpec.ofChange Rows.softKeepsSpec) :=
  OpenClaim.holds_of_wide 6 Try.f6 rfl rfl rfl rfl rfl rfl rfl ⟨rfl, rfl, rfl, rfl, rfl⟩ rfl rfl rfl rfl rfl (by kernel_rfl) Try.func6 (by kernel_rfl)
    (of_decide_eq_true (by kernel_rfl)) (by unfold Func.isWrapper; first | (rw [if_pos (by decide +kernel)]; kernel_rfl) | (rw [if_neg (by decide +kernel)]; exact ⟨rfl, rfl⟩))
    (fun os started H enc _ => lifted os started H enc)

theorem proved : Rows.SoftKeepsSaid :=
  over
#print axioms proved
end Go.Proofs.Ytfgdgnbkjoafmab.softKeeps
