/-
  The walk of the statements' common head: the document's rows of examples come out.
-/
import Derived.Test.YtkbniebahledmaaWkE
namespace Go.Proofs.Ytkbniebahledmaa
open Go.RowKit
set_option linter.unusedVariables false

theorem bl_tr {w v u : World} (h : Below w.heap.size w v) (k : Below v.heap.size v u) : Below w.heap.size w u := h.trans (k.mono h.size)

theorem ex_a : Flt.addBy 0 1065353217 864026624 = 1065353218 := by decide +kernel
theorem ex_b : Flt.addBy 2 1065353216 2147483649 = 1065353215 := by decide +kernel
theorem ex_c : Flt.divBy 0 1065353216 1077936128 = 1051372203 := by decide +kernel
theorem ex_d : Flt.mulBy 1 1 1056964608 = 1 := by decide +kernel
theorem ex_e : Flt.rnd 0 false 0 16777217 true = 1266679809 := by decide +kernel
theorem ex_f : Flt.lessF 3212836864 1 = true := by decide +kernel

end Go.Proofs.Ytkbniebahledmaa
