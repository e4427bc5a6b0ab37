import Derived.Deep.RegionHeld3
import Derived.Lib.SliceRun
import Derived.Lib.ConvBytes
import Derived.Deep.DeepAppendWide
import Derived.Test.YtkpmfkkfcikfhaaV05
import Derived.Test.YtkpmfkkfcikfhaaV09
import Derived.Test.YtkpmfkkfcikfhaaV11
import Derived.Test.YtkpmfkkfcikfhaaV12
import Derived.Test.YtkpmfkkfcikfhaaV13
set_option maxRecDepth 100000
set_option maxHeartbeats 8000000
namespace Go.Proofs.Ytkpmfkkfcikfhaa
open Go.RowKit
set_option linter.unusedVariables false
theorem bl_mono7 {g h:Nat} {w w':World} (k:Below h w w') (hg:g ≤ h):Below g w w':=⟨k.os,k.tape,k.output,k.size,fun b hb => k.block b (by omega)⟩
theorem bl_tr7 {g:Nat} {a b c:World} (h:Below g a b) (k:Below g b c):Below g a c:=⟨k.os.trans h.os,k.tape.trans h.tape,k.output.trans h.output,Nat.le_trans h.size k.size,fun i hi => (k.block i hi).trans (h.block i hi)⟩
theorem map_take7 {α β:Type} (f:α → β) (z:α) (l:List α) (n:Nat) (h:n < l.length):(l.take (n + 1)).map f = (l.take n).map f ++ [f (l.getD n z)]:=by
 rw [List.take_add_one,List.map_append,List.getD_eq_getElem?_getD,List.getElem?_eq_getElem h]; rfl
end Go.Proofs.Ytkpmfkkfcikfhaa
