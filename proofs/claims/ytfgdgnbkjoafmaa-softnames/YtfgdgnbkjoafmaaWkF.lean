/-
  The walk of the statements' common head: the document's rows of examples come out.
-/
import Derived.Test.YtfgdgnbkjoafmaaWkE
namespace Go.Proofs.Ytfgdgnbkjoafmaa
open Go.RowKit
set_option linter.unusedVariables false

theorem bl_tr {w v u : World} (h : Below w.heap.size w v) (k : Below v.heap.size v u) : Below w.heap.size w u := h.trans (k.mono h.size)

theorem ex_a : Flt.addBy 0 1065353217 864026624 = 1065353218 := by decide +kernel
theorem ex_b : Flt.addBy 2 1065353216 2147483649 = 1065353215 := by decide +kernel
theorem ex_c : Flt.divBy 0 1065353216 1077936128 = 1051372203 := by decide +kernel
theorem ex_d : Flt.mulBy 1 1 1056964608 = 1 := by decide +kernel
theorem ex_e : Flt.rnd 0 false 0 16777217 true = 1266679809 := by decide +kernel
theorem ex_f : Flt.lessF 3212836864 1 = true := by decide +kernel

set_option maxRecDepth 100000 in
set_option maxHeartbeats 1000000 in
theorem awake_any (w : World) :
    Calls Try.prog 9 #[] w fun e w' => e = .returned (.bool true) ∧ Below w.heap.size w w' := by
  go_enter Try.func9, Try.ntmps9
  go_wp2_with fail
  refine (add_any _ _ (by omega) (by omega) (by omega) (by omega) _).mono ?_
  rw [ex_a]
  rintro e w1 ⟨rfl, hb1⟩
  go_wp2_with fail
  refine (addBy_any _ _ _ (by omega) (by omega) (by omega) (by omega) _).mono ?_
  rw [ex_b]
  rintro e w2 ⟨rfl, hb2⟩
  go_wp2_with fail
  refine (div_any _ _ (by omega) (by omega) (by omega) (by omega) _).mono ?_
  rw [ex_c]
  rintro e w3 ⟨rfl, hb3⟩
  go_wp2_with fail
  refine (mulBy_any _ _ _ (by omega) (by omega) (by omega) (by omega) _).mono ?_
  rw [ex_d]
  rintro e w4 ⟨rfl, hb4⟩
  go_wp2_with fail
  refine (round_any _ _ _ _ _ (by omega) (by omega) _).mono ?_
  rw [ex_e]
  rintro e w5 ⟨rfl, rfl⟩
  go_wp2_with fail
  refine (less_any _ _ (by omega) (by omega) (by omega) (by omega) _).mono ?_
  rw [ex_f]
  rintro e w6 ⟨rfl, rfl⟩
  go_wp2_with fail
  go_ret
  have s1 := hb1.size
  have s2 := hb2.size
  have s3 := hb3.size
  exact ⟨rfl, ((hb1.trans (hb2.mono s1)).trans (hb3.mono (by omega))).trans (hb4.mono (by omega))⟩
end Go.Proofs.Ytfgdgnbkjoafmaa
