/-
  Walks of the document's answers to roots and fused products and sums where nothing is rounded.
-/
import Derived.Test.YtkbniebahledmaaWkYa
import Derived.Test.YtkbniebahledmaaWkYc
import Derived.Test.YtkbniebahledmaaFltL
namespace Go.Proofs.Ytkbniebahledmaa
open Go.RowKit
set_option linter.unusedVariables false

theorem sg_no (a b : Bool) (h : (a == b) = false) (e : a = b) : False := by subst e; simp at h
theorem sg_yes (a b : Bool) (h : (a == b) = true) (e : ¬ a = b) : False := e (by simpa using h)

end Go.Proofs.Ytkbniebahledmaa
