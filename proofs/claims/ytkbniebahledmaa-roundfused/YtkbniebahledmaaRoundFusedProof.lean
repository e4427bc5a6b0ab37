/-
  RoundFused holds: for every way and every three floats, a fused product with 1 is the sum, a fused sum with the product's nought is the product, and each result is its own Canon. No condition.
-/
import Derived.Test.YtkbniebahledmaaRows
import Derived.WalkKit
import Derived.ProofKit
import Derived.OpenShut
import Derived.Below
import Derived.Test.YtkbniebahledmaaWkZi
import Derived.Test.YtkbniebahledmaaFltQ
namespace Go.Proofs.Ytkbniebahledmaa.roundFused
open Go.ChangeShapes Go.WideShapes Go.ChangeAt Go.RowKit
set_option linter.unusedVariables false      -- a walk need not use every 'w<i>' (that an integer argument fits its kind)

theorem own : ownKnob Try.prog.godebug = none := by kernel_rfl

theorem nat_bit31 (x : Nat) (h : x < 4294967296) : x.testBit 31 = decide (2147483648 ≤ x) := by
  rw [Nat.testBit_eq_decide_div_mod_eq, Bool.eq_iff_iff]
  simp; omega
theorem nat_and31 (N : Nat) : N &&& 2147483648 = if N.testBit 31 = true then 2147483648 else 0 := by
  have e : (2147483648 : Nat) = 2 ^ 31 := by decide
  apply Nat.eq_of_testBit_eq
  intro i
  rw [Nat.testBit_and, e, Nat.testBit_two_pow]
  by_cases hi : 31 = i
  · subst hi
    cases h : N.testBit 31
    · simp
    · rw [if_pos rfl, Nat.testBit_two_pow]; simp
  · cases h : N.testBit 31
    · simp [hi]
    · rw [if_pos rfl, Nat.testBit_two_pow]; simp [hi]
theorem sign_and (N : Nat) (h : N < 4294967296) : bits .and .u32 (N : Int) 2147483648 = ((N &&& 2147483648 : Nat) : Int) := by
  have h0 : (0 : Int) ≤ N := by omega
  have h1 : (N : Int) < 4294967296 := by omega
  go_bits2
theorem sign_xor (a b : Int) (h0 : 0 ≤ a) (h1 : a < 4294967296) (g0 : 0 ≤ b) (g1 : b < 4294967296) : bits .and .u32 (bits .xor .u32 a b) 2147483648 = Flt.signBit (Flt.sgn a != Flt.sgn b) := by
  have e : bits .xor .u32 a b = ((a.toNat ^^^ b.toNat : Nat) : Int) := by
    go_bits2
  have hlt : a.toNat ^^^ b.toNat < 4294967296 := Nat.xor_lt_two_pow (n := 32) (by omega) (by omega)
  rw [e, sign_and _ hlt, nat_and31, Nat.testBit_xor, nat_bit31 _ (by omega), nat_bit31 _ (by omega)]
  have ea : decide (2147483648 ≤ a.toNat) = Flt.sgn a := by unfold Flt.sgn; rw [Bool.eq_iff_iff]; simp; omega
  have eb : decide (2147483648 ≤ b.toNat) = Flt.sgn b := by unfold Flt.sgn; rw [Bool.eq_iff_iff]; simp; omega
  rw [ea, eb]
  cases Flt.sgn a <;> cases Flt.sgn b <;> rfl

theorem same_self (x : Int) (w : World) :
    Calls Try.prog 12 #[.int .u32 x, .int .u32 x] w fun e w' => e = .returned (.bool true) ∧ w' = w := by
  go_enter Try.func12, Try.ntmps12
  go_wp2_with fail
  go_ret
  exact ⟨rfl, rfl⟩

theorem sqrtAns_good {way a r : Int} (h0 : 0 ≤ a) (h1 : a < 4294967296) (h : SqrtAns way a r) : Flt.Good r := by
  rcases h with ⟨hx, rfl⟩ | ⟨_, v, rfl, hv⟩
  · unfold Flt.sqrtX
    split
    · exact Flt.good_nan
    · rename_i hn
      split
      · exact ⟨h0, h1, fun h => absurd h hn⟩
      · exact Flt.good_nan
  · have := Flt.good_signed false v (Flt.RT_le hv)
    simpa [Flt.signBit] using this

set_option maxRecDepth 100000 in
set_option maxHeartbeats 2000000 in
theorem walk (a0 : Int) (a1 : Int) (a2 : Int) (a3 : Int) (w0 : (Lit.int .i64 a0).wf = true) (w1 : (Lit.int .u32 a1).wf = true) (w2 : (Lit.int .u32 a2).wf = true) (w3 : (Lit.int .u32 a3).wf = true) (w : World) :
    Calls Try.prog 4 #[.int .i64 a0, .int .u32 a1, .int .u32 a2, .int .u32 a3] w fun e w' => e = .returned (.bool true) ∧ Below w.heap.size w w' := by
  obtain ⟨h0, h1⟩ := wf_u32_iff w1
  obtain ⟨g0, g1⟩ := wf_u32_iff w2
  obtain ⟨k0, k1⟩ := wf_u32_iff w3
  have hx := sign_xor a1 a2 h0 h1 g0 g1
  have f1 := Flt.fma_one a0 a1 a3 h0 h1 k0 k1
  have f2 := Flt.fma_nought a0 a1 a2 h0 g0
  obtain ⟨q0, q1, q2⟩ := Flt.fma_good a0 a1 a2 a3 h0 g0 k0 k1
  have f3 := Flt.canon_good ⟨q0, q1, q2⟩
  have hr : 0 ≤ Flt.signBit (Flt.sgn a1 != Flt.sgn a2) ∧ Flt.signBit (Flt.sgn a1 != Flt.sgn a2) < 4294967296 := by
    have := Flt.signed_range (Flt.sgn a1 != Flt.sgn a2) 0 (by omega); simpa using this
  generalize Flt.signBit (Flt.sgn a1 != Flt.sgn a2) = Z at hx f2 hr
  obtain ⟨r0, r1⟩ := hr
  clear q2
  go_enter Try.func4, Try.ntmps4
  go_wp2_with fail
  refine (awake2_any _).mono ?_
  rintro e v1 ⟨rfl, hb1⟩
  go_wp2_with fail
  refine (cfmaBy_any _ _ _ _ h0 h1 (by omega) (by omega) k0 k1 _).mono ?_
  rintro e v2 ⟨rfl, hb2⟩
  rw [f1]
  go_wp2_with fail
  refine (addBy_any _ _ _ h0 h1 k0 k1 _).mono ?_
  rintro e v3 ⟨rfl, hb3⟩
  go_wp2_with fail
  refine (same_self _ _).mono ?_
  rintro e v4 ⟨rfl, rfl⟩
  go_wp2_with fail
  refine (cfmaBy_any _ _ _ _ h0 h1 g0 g1 r0 r1 _).mono ?_
  rintro e v5 ⟨rfl, hb5⟩
  rw [f2]
  go_wp2_with fail
  refine (mulBy_any _ _ _ h0 h1 g0 g1 _).mono ?_
  rintro e v6 ⟨rfl, hb6⟩
  go_wp2_with fail
  refine (cfmaBy_any _ _ _ _ h0 h1 g0 g1 k0 k1 _).mono ?_
  rintro e v7 ⟨rfl, hb7⟩
  go_wp2_with fail
  refine (csqrtBy_any _ _ h0 h1 _).mono ?_
  rintro e v8 ⟨⟨r, rfl, hrr⟩, hb8⟩
  obtain ⟨s0, s1, s2⟩ := sqrtAns_good h0 h1 hrr
  have f4 := Flt.canon_good ⟨s0, s1, s2⟩
  clear hrr s2
  go_wp2_with fail
  refine (canon_any _ q0 q1 _).mono ?_
  rintro e v9 ⟨rfl, rfl⟩
  rw [f3]
  go_wp2_with fail
  refine (canon_any _ s0 s1 _).mono ?_
  rintro e v10 ⟨rfl, rfl⟩
  rw [f4]
  go_wp2_with fail
  go_ret
  exact ⟨rfl, bl_tr (bl_tr (bl_tr (bl_tr (bl_tr (bl_tr (bl_tr hb1 hb2) hb3) hb5) hb6) hb7) hb8) (Below.refl _ _)⟩

set_option maxRecDepth 100000 in
theorem lifted (os : Os) (started : os.Started) (H : Type) (enc : TypeId × Value → H) :
    ReturnsInHanded {} Try.checked os 4 .any (Rows.roundFusedSpec.pre6 enc Try.prog Try.f4 Rows.roundFusedRow.domain false) (Rows.roundFusedSpec.post enc Try.prog Try.f4 false true false false) := by
  refine returnsInHanded_of_change (C := Try.checked) own started (by kernel_rfl) Try.func4
    (ChangeSpec.witness6 (enc := enc) (C := Try.checked) false ⟨#[], #[.int .i64 0, .int .u32 0, .int .u32 0, .int .u32 0], []⟩ 8 (by kernel_rfl) (by kernel_rfl) (by kernel_rfl) (by kernel_rfl)) ?_
  intro W base args ds gs before hval0 hW hcnd _
  have hval : ∀ (j : Nat) t v, Try.f4.params[j]? = some t → args[j]? = some v → Value.okWide Try.prog W .any base t v := hval0
  have hW' := hW
  obtain ⟨p, q, hA0, hV, rfl, hfz, hnd⟩ := hW
  have hA : DataW.TrodAll enc Try.prog W 0 (fun _ => true) true Try.f4.params.toList args.toList ds p := hA0
  rw [Try.params4] at hA hval
  obtain ⟨v0, vs0, d0, ds0, p0, q0, hargs, rfl, rfl, h0, r0⟩ := trodAll_cons hA
  obtain ⟨v1, vs1, d1, ds1, p1, q1, rfl, rfl, rfl, h1, r1⟩ := trodAll_cons r0
  obtain ⟨v2, vs2, d2, ds2, p2, q2, rfl, rfl, rfl, h2, r2⟩ := trodAll_cons r1
  obtain ⟨v3, vs3, d3, ds3, p3, q3, rfl, rfl, rfl, h3, r3⟩ := trodAll_cons r2
  obtain ⟨rfl, rfl, rfl⟩ := trodAll_nil r3
  obtain rfl : args = #[v0, v1, v2, v3] := by cases args; simp_all
  obtain ⟨rfl, rfl⟩ := trodVars_none hV
  obtain ⟨a0, rfl, rfl, rfl, w0⟩ := open_int Try.underlying3 (hval 0 3 v0 rfl rfl) h0
  obtain ⟨a1, rfl, rfl, rfl, w1⟩ := open_int Try.underlying22 (hval 1 22 v1 rfl rfl) h1
  obtain ⟨a2, rfl, rfl, rfl, w2⟩ := open_int Try.underlying22 (hval 2 22 v2 rfl rfl) h2
  obtain ⟨a3, rfl, rfl, rfl, w3⟩ := open_int Try.underlying22 (hval 3 22 v3 rfl rfl) h3
  clear hA0 hval0
  simp only [List.append_nil] at hW'
  refine (walk a0 a1 a2 a3 w0 w1 w2 w3 W).mono fun e W' ⟨he, bel⟩ => ?_
  subst he
  exact ⟨_, rfl, _, _, _, [], _, [], hW', trodAll_mk1 (shut_bool Try.underlying4 _), (trodAll_cons_mk (shut_int Try.underlying3 w0) (trodAll_cons_mk (shut_int Try.underlying22 w1) (trodAll_cons_mk (shut_int Try.underlying22 w2) (trodAll_cons_mk (shut_int Try.underlying22 w3) trodAll_mk0)))), rfl, bel.frame _, fun h => by cases h⟩

theorem over : Rows.roundFusedRow.holds Try.pinned (OpenSpec.ofChange Rows.roundFusedSpec) :=
  OpenClaim.holds_of_wide 4 Try.f4 rfl rfl rfl rfl rfl rfl rfl ⟨rfl, rfl, rfl, rfl, rfl⟩ rfl rfl rfl rfl rfl (by kernel_rfl) Try.func4 (by kernel_rfl)
    (of_decide_eq_true (by kernel_rfl)) (by unfold Func.isWrapper; first | (rw [if_pos (by decide +kernel)]; kernel_rfl) | (rw [if_neg (by decide +kernel)]; exact ⟨rfl, rfl⟩))
    (fun os started H enc _ => lifted os started H enc)

theorem proved : Rows.RoundFusedSaid :=
  over
#print axioms proved
end Go.Proofs.Ytkbniebahledmaa.roundFused
