import Derived.Test.YtnmciappielkcaaV03
set_option maxRecDepth 100000
set_option maxHeartbeats 8000000
namespace Go.Proofs.Ytnmciappielkcaa
open Go.RowKit
set_option linter.unusedVariables false
abbrev Fld:=Int × Int × Int × List Int
def isB (r:List Int):Prop:=∀ c ∈ r,0 ≤ c ∧ c < 256
def fxL (X:Int):Nat → List Int
 | 0 => []
 | k + 1 => fxL X k ++ [X / 256 ^ k % 256]
def bodyB (f:Fld):List Int:=if f.2.1 = 0 then varV f.2.2.1 else if f.2.1 = 1 then fxL f.2.2.1 8 else if f.2.1 = 5 then fxL f.2.2.1 4 else varV (f.2.2.2.length:Int) ++ f.2.2.2
def fieldB (f:Fld):List Int:=varV (f.1 * 8 + f.2.1) ++ bodyB f
def msgB (l:List Fld):List Int:=l.flatMap fieldB
end Go.Proofs.Ytnmciappielkcaa
