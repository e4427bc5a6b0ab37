import Derived.Test.YtnmciappielkcaaV49
import Derived.Test.YtnmciappielkcaaV50
import Derived.Test.YtnmciappielkcaaV51
import Derived.Test.YtnmciappielkcaaV52
set_option maxRecDepth 100000
set_option maxHeartbeats 40000000
namespace Go.Proofs.Ytnmciappielkcaa
open Go.RowKit
set_option linter.unusedVariables false
set_option linter.unusedSimpArgs false
theorem rresolve8_any (x:NoA) (B:Nat) (w:World) (h:NoIn B w x) (ht:∀ a ∈ x.at',okT8 a.T) :
  Calls Try.prog 6 #[.agg (noCells x).toArray] w fun e w' => ∃ cs,e = .returned (.tuple #[.int .i64 (resV x.d).1,.agg cs,.int .i64 (resV x.d).2.2]) ∧ SeV w.heap.size w' cs (resV x.d).2.1 ∧ Below w.heap.size w w':=by
 cases e:settingV (rowT (numT x.op)).2.2.2.2.2 (x.at'.map AtA.d) with
 | some D => exact rresolve8_1 x B w h ht ⟨D,e⟩
 | none =>
   by_cases ho:∀ t ∈ (rowT (numT x.op)).2.2.2.2.2,rowOk (numT x.op) (x.at'.map AtA.d) t
   ·exact rresolve8_2 x B w h ht ⟨e,ho⟩
   ·exact rresolve8_3 x B w h ht ho
end Go.Proofs.Ytnmciappielkcaa
