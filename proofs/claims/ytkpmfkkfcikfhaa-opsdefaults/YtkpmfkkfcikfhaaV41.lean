import Derived.Test.YtkpmfkkfcikfhaaV40
set_option maxRecDepth 100000
set_option maxHeartbeats 8000000
namespace Go.Proofs.Ytkpmfkkfcikfhaa
open Go.RowKit
set_option linter.unusedVariables false
set_option linter.unusedSimpArgs false
abbrev atI (ats:List AtD) (a:AttrD):Int:=idxI (fun d:AtD => decide (d.1 = a.1)) ats
theorem getD_set8 (l:List Bool) (i j:Nat) (h:i < l.length):(l.set i true).getD j false = if i = j then true else l.getD j false:=by
 simp only [List.getD_eq_getElem?_getD,List.getElem?_set]
 by_cases e:i = j
 ·subst e; simp [h]
 ·simp [e]
end Go.Proofs.Ytkpmfkkfcikfhaa
