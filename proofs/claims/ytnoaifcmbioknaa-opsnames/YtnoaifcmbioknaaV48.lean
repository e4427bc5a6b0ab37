import Derived.Deep.Strs
import Derived.SizedLaws
import Derived.Deep.Slices
import Derived.Deep.RegionLawGrows
import Derived.Deep.RegionHeld3
import Derived.Deep.Grids
import Derived.Test.YtnoaifcmbioknaaV05
import Derived.Test.YtnoaifcmbioknaaV07
import Derived.Test.YtnoaifcmbioknaaV09
import Derived.Test.YtnoaifcmbioknaaV11
import Derived.Test.YtnoaifcmbioknaaV12
set_option maxRecDepth 100000
set_option maxHeartbeats 8000000
namespace Go.Proofs.Ytnoaifcmbioknaa
open Go.RowKit
set_option linter.unusedVariables false
theorem str_of (s:ByteArray):∃ x:Str,isB x ∧ s = strOfNums x:=by
 refine ⟨s.data.toList.map fun b => (b.toNat:Int),fun c hc => ?_,?_⟩
 ·obtain ⟨b,_,rfl⟩:=List.mem_map.1 hc
  have:=b.toNat_lt
  exact ⟨by omega,by omega⟩
 ·obtain ⟨⟨l⟩⟩:=s
  have e:((fun n:Int => UInt8.ofNat n.toNat) ∘ fun b:UInt8 => (b.toNat:Int)) = id:=by
   funext b
   simp
  unfold strOfNums
  congr 1
  simp only [List.map_map]
  rw [e]
  simp
end Go.Proofs.Ytnoaifcmbioknaa
