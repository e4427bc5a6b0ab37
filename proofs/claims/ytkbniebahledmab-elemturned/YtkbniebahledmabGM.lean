import Derived.Test.YtkbniebahledmabGL

/-
  Layer 3: the head of its statements.
-/
namespace Go.Proofs.Ytkbniebahledmab
open Go.RowKit
set_option linter.unusedVariables false

theorem aw0 : expV 0 = 1065353216 := by decide +kernel
theorem aw1 : expV 2139095040 = 2139095040 := by decide +kernel
theorem aw2 : expV 4286578688 = 0 := by decide +kernel
theorem aw3 : expV 2139095041 = 2143289344 := by decide +kernel
theorem aw4 : logV 1065353216 = 0 := by decide +kernel
theorem aw5 : logV 2147483648 = 4286578688 := by decide +kernel
theorem aw6 : logV 3212836864 = 2143289344 := by decide +kernel
theorem aw7 : logV 2139095040 = 2139095040 := by decide +kernel
theorem aw8 : cirV 0 0 = 0 := by decide +kernel
theorem aw9 : cirV 0 1 = 1065353216 := by decide +kernel
theorem aw10 : cirV 2139095040 0 = 2143289344 := by decide +kernel
theorem aw11 : tanhV 2147483648 = 2147483648 := by decide +kernel
theorem aw12 : tanhV 4286578688 = 3212836864 := by decide +kernel
theorem aw13 : erfV 1092616192 = 1065353216 := by decide +kernel
theorem aw14 : sigV 0 = 1056964608 := by decide +kernel
theorem aw15 : sigV 4286578688 = 0 := by decide +kernel
theorem aw16 : powV 2143289344 0 = 1065353216 := by decide +kernel
theorem aw17 : powV 1065353216 2143289344 = 1065353216 := by decide +kernel
theorem aw18 : powV 3212836864 2139095040 = 1065353216 := by decide +kernel
theorem aw19 : powV 3212836864 1056964608 = 2143289344 := by decide +kernel
theorem aw20 : powV 0 3212836864 = 2139095040 := by decide +kernel

set_option maxRecDepth 100000 in
set_option maxHeartbeats 4000000 in
theorem awake3_any (w : World) :
    Calls Try.prog 5 #[] w fun e w' => e = .returned (.bool true) ∧ Below w.heap.size w w' := by
  have hb := Below.refl w.heap.size w
  go_enter Try.func5, Try.ntmps5
  go_wp2_with fail
  refine (c_exp 0 ⟨by omega, by omega⟩ _).mono ?_
  rintro e w0 ⟨k0, rfl, H0, R0, B0⟩
  replace hb := bl_tr hb B0
  have e0 : k0 = 1065353216 := (unhide H0).trans aw0
  subst e0
  clear B0 H0 R0
  go_wp2_with fail
  refine (c_exp 2139095040 ⟨by omega, by omega⟩ _).mono ?_
  rintro e w1 ⟨k1, rfl, H1, R1, B1⟩
  replace hb := bl_tr hb B1
  have e1 : k1 = 2139095040 := (unhide H1).trans aw1
  subst e1
  clear B1 H1 R1
  go_wp2_with fail
  refine (c_exp 4286578688 ⟨by omega, by omega⟩ _).mono ?_
  rintro e w2 ⟨k2, rfl, H2, R2, B2⟩
  replace hb := bl_tr hb B2
  have e2 : k2 = 0 := (unhide H2).trans aw2
  subst e2
  clear B2 H2 R2
  go_wp2_with fail
  refine (c_exp 2139095041 ⟨by omega, by omega⟩ _).mono ?_
  rintro e w3 ⟨k3, rfl, H3, R3, B3⟩
  replace hb := bl_tr hb B3
  have e3 : k3 = 2143289344 := (unhide H3).trans aw3
  subst e3
  clear B3 H3 R3
  go_wp2_with fail
  refine (c_log 1065353216 ⟨by omega, by omega⟩ _).mono ?_
  rintro e w4 ⟨k4, rfl, H4, R4, B4⟩
  replace hb := bl_tr hb B4
  have e4 : k4 = 0 := (unhide H4).trans aw4
  subst e4
  clear B4 H4 R4
  go_wp2_with fail
  refine (c_log 2147483648 ⟨by omega, by omega⟩ _).mono ?_
  rintro e w5 ⟨k5, rfl, H5, R5, B5⟩
  replace hb := bl_tr hb B5
  have e5 : k5 = 4286578688 := (unhide H5).trans aw5
  subst e5
  clear B5 H5 R5
  go_wp2_with fail
  refine (c_log 3212836864 ⟨by omega, by omega⟩ _).mono ?_
  rintro e w6 ⟨k6, rfl, H6, R6, B6⟩
  replace hb := bl_tr hb B6
  have e6 : k6 = 2143289344 := (unhide H6).trans aw6
  subst e6
  clear B6 H6 R6
  go_wp2_with fail
  refine (c_log 2139095040 ⟨by omega, by omega⟩ _).mono ?_
  rintro e w7 ⟨k7, rfl, H7, R7, B7⟩
  replace hb := bl_tr hb B7
  have e7 : k7 = 2139095040 := (unhide H7).trans aw7
  subst e7
  clear B7 H7 R7
  go_wp2_with fail
  refine (c_sin 0 ⟨by omega, by omega⟩ _).mono ?_
  rintro e w8 ⟨k8, rfl, H8, R8, B8⟩
  replace hb := bl_tr hb B8
  have e8 : k8 = 0 := (unhide H8).trans aw8
  subst e8
  clear B8 H8 R8
  go_wp2_with fail
  refine (c_cos 0 ⟨by omega, by omega⟩ _).mono ?_
  rintro e w9 ⟨k9, rfl, H9, R9, B9⟩
  replace hb := bl_tr hb B9
  have e9 : k9 = 1065353216 := (unhide H9).trans aw9
  subst e9
  clear B9 H9 R9
  go_wp2_with fail
  refine (c_sin 2139095040 ⟨by omega, by omega⟩ _).mono ?_
  rintro e w10 ⟨k10, rfl, H10, R10, B10⟩
  replace hb := bl_tr hb B10
  have e10 : k10 = 2143289344 := (unhide H10).trans aw10
  subst e10
  clear B10 H10 R10
  go_wp2_with fail
  refine (c_tanh 2147483648 ⟨by omega, by omega⟩ _).mono ?_
  rintro e w11 ⟨k11, rfl, H11, R11, B11⟩
  replace hb := bl_tr hb B11
  have e11 : k11 = 2147483648 := (unhide H11).trans aw11
  subst e11
  clear B11 H11 R11
  go_wp2_with fail
  refine (c_tanh 4286578688 ⟨by omega, by omega⟩ _).mono ?_
  rintro e w12 ⟨k12, rfl, H12, R12, B12⟩
  replace hb := bl_tr hb B12
  have e12 : k12 = 3212836864 := (unhide H12).trans aw12
  subst e12
  clear B12 H12 R12
  go_wp2_with fail
  refine (c_erf 1092616192 ⟨by omega, by omega⟩ _).mono ?_
  rintro e w13 ⟨k13, rfl, H13, R13, B13⟩
  replace hb := bl_tr hb B13
  have e13 : k13 = 1065353216 := (unhide H13).trans aw13
  subst e13
  clear B13 H13 R13
  go_wp2_with fail
  refine (c_sig 0 ⟨by omega, by omega⟩ _).mono ?_
  rintro e w14 ⟨k14, rfl, H14, R14, B14⟩
  replace hb := bl_tr hb B14
  have e14 : k14 = 1056964608 := (unhide H14).trans aw14
  subst e14
  clear B14 H14 R14
  go_wp2_with fail
  refine (c_sig 4286578688 ⟨by omega, by omega⟩ _).mono ?_
  rintro e w15 ⟨k15, rfl, H15, R15, B15⟩
  replace hb := bl_tr hb B15
  have e15 : k15 = 0 := (unhide H15).trans aw15
  subst e15
  clear B15 H15 R15
  go_wp2_with fail
  refine (c_pow 2143289344 0 ⟨by omega, by omega⟩ ⟨by omega, by omega⟩ _).mono ?_
  rintro e w16 ⟨k16, rfl, H16, R16, B16⟩
  replace hb := bl_tr hb B16
  have e16 : k16 = 1065353216 := (unhide H16).trans aw16
  subst e16
  clear B16 H16 R16
  go_wp2_with fail
  refine (c_pow 1065353216 2143289344 ⟨by omega, by omega⟩ ⟨by omega, by omega⟩ _).mono ?_
  rintro e w17 ⟨k17, rfl, H17, R17, B17⟩
  replace hb := bl_tr hb B17
  have e17 : k17 = 1065353216 := (unhide H17).trans aw17
  subst e17
  clear B17 H17 R17
  go_wp2_with fail
  refine (c_pow 3212836864 2139095040 ⟨by omega, by omega⟩ ⟨by omega, by omega⟩ _).mono ?_
  rintro e w18 ⟨k18, rfl, H18, R18, B18⟩
  replace hb := bl_tr hb B18
  have e18 : k18 = 1065353216 := (unhide H18).trans aw18
  subst e18
  clear B18 H18 R18
  go_wp2_with fail
  refine (c_pow 3212836864 1056964608 ⟨by omega, by omega⟩ ⟨by omega, by omega⟩ _).mono ?_
  rintro e w19 ⟨k19, rfl, H19, R19, B19⟩
  replace hb := bl_tr hb B19
  have e19 : k19 = 2143289344 := (unhide H19).trans aw19
  subst e19
  clear B19 H19 R19
  go_wp2_with fail
  refine (c_pow 0 3212836864 ⟨by omega, by omega⟩ ⟨by omega, by omega⟩ _).mono ?_
  rintro e w20 ⟨k20, rfl, H20, R20, B20⟩
  replace hb := bl_tr hb B20
  have e20 : k20 = 2139095040 := (unhide H20).trans aw20
  subst e20
  clear B20 H20 R20
  go_wp2_with fail
  go_ret
  exact ⟨rfl, hb⟩
end Go.Proofs.Ytkbniebahledmab
