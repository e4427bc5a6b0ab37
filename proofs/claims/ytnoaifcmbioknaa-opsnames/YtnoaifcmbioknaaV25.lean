import Derived.Lib.ConvBytes
import Derived.Deep.DeepAppendWide
import Derived.Test.YtnoaifcmbioknaaV05
import Derived.Test.YtnoaifcmbioknaaV09
import Derived.Test.YtnoaifcmbioknaaV11
import Derived.Test.YtnoaifcmbioknaaV12
import Derived.Test.YtnoaifcmbioknaaV21
import Derived.Test.YtnoaifcmbioknaaV23
import Derived.Test.YtnoaifcmbioknaaV24
set_option maxRecDepth 100000
set_option maxHeartbeats 8000000
namespace Go.Proofs.Ytnoaifcmbioknaa
open Go.RowKit
set_option linter.unusedVariables false
def i64c (x:Int):List Value:=[.int .i64 x]
theorem i64Wd:Wd 1 i64c:=⟨by decide,fun _ => rfl,fun a u hu => by simp [i64c] at hu; subst hu; rfl⟩
theorem own_i64 {t:TypeId} {w w':World} {v:Value} {l:List Int} (h:OwnR t 1 i64c w w' v l):OwnG t (Value.int .i64) w w' v l:=by
 obtain ⟨h1,h2⟩:=h
 rw [show l.flatMap i64c = l.map (Value.int .i64) from flat_one _ l] at h1
 exact ⟨h1,h2⟩
end Go.Proofs.Ytnoaifcmbioknaa
