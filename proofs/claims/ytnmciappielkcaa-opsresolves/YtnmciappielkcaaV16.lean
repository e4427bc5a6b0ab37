import Derived.Deep.RegionWith
import Derived.Deep.RegionHeld3
import Derived.Test.YtnmciappielkcaaV15
set_option maxRecDepth 100000
set_option maxHeartbeats 8000000
namespace Go.Proofs.Ytnmciappielkcaa
open Go.RowKit
set_option linter.unusedVariables false
theorem Mrow.stay {β:Type} {t:TypeId} {cells:β → List Value} {g b:Nat} {w w':World} {xs:List β} (h:Mrow t cells w b xs) (s:Stay g w w') (hb:b ≠ g):Mrow t cells w' b xs:=(s.block hb (lt_of_block h)).trans h
theorem str_list (s:Str):(strOfNums s).toList = s.map fun n => UInt8.ofNat n.toNat:=by
 rw [ByteArray.toList_eq,strOfNums_data]
end Go.Proofs.Ytnmciappielkcaa
