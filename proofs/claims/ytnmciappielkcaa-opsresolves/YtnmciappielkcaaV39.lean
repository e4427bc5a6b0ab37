import Derived.Deep.RegionHeld3
import Derived.Lib.SliceRun
import Derived.Test.YtnmciappielkcaaV05
import Derived.Test.YtnmciappielkcaaV06
import Derived.Test.YtnmciappielkcaaV10
import Derived.Test.YtnmciappielkcaaV34
set_option maxRecDepth 100000
set_option maxHeartbeats 8000000
namespace Go.Proofs.Ytnmciappielkcaa
open Go.RowKit
set_option linter.unusedVariables false
set_option linter.unusedSimpArgs false
theorem NoIn.below8 {B:Nat} {w w':World} {a:NoA} (h:NoIn B w a) (hb:Below w.heap.size w w'):NoIn B w' a:=h.kept (TS:=nodeTS) (fun t h => h) (Kept.below hb)
def NoA.put (a:NoA) (l:List AtA) (q:Option Addr) (c:Nat):NoA:=⟨a.op,a.nm,a.ins,a.qi,a.ci,a.outs,a.qo,a.co,l,q,c⟩
end Go.Proofs.Ytnmciappielkcaa
