import Derived.Test.YtkpmfkkfcikfhaaV04
import Derived.Test.YtkpmfkkfcikfhaaV07
set_option maxRecDepth 100000
set_option maxHeartbeats 8000000
namespace Go.Proofs.Ytkpmfkkfcikfhaa
open Go.RowKit
set_option linter.unusedVariables false
abbrev Str:=List Int
abbrev F3:=Bool × Bool × Bool
def f3 (a b:F3):F3:=(a.1 || b.1,a.2.1 || b.2.1,a.2.2 || b.2.2)
abbrev TenD:=Ten
abbrev AttrD:=Str × Int × Int × Int × Str × TenD × List Int × List Int
abbrev NodeD:=Str × Str × List Str × List Str × List AttrD
def knownB (t:Int):Bool:=t == 1 || t == 7 || t == 9
end Go.Proofs.Ytkpmfkkfcikfhaa
