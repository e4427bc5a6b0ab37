import Derived.Lib.ConvBytes
import Derived.Deep.DeepAppendWide
import Derived.Deep.RegionHeld3
import Derived.Lib.SliceRun
import Derived.Test.YtnmciappielkcaaV05
import Derived.Test.YtnmciappielkcaaV06
import Derived.Test.YtnmciappielkcaaV09
import Derived.Test.YtnmciappielkcaaV10
set_option maxRecDepth 100000
set_option maxHeartbeats 8000000
namespace Go.Proofs.Ytnmciappielkcaa
open Go.RowKit
set_option linter.unusedVariables false
theorem str_isE (s:Str):(strOfNums s).toList.isEmpty = decide (s = []):=by
 rw [ByteArray.toList_eq,strOfNums_data]
 cases s <;> rfl
def WS (fs:List Fld) (bs:List Int) (full:Bool):Prop:=if (msgB fs).length ≤ 4194304 then full = false ∧ bs = msgB fs else full = true
theorem WS.nil:WS [] [] false:=by unfold WS; rw [if_pos (by simp [msgB])]; exact ⟨rfl,rfl⟩
theorem bl_mono7 {g h:Nat} {w w':World} (k:Below h w w') (hg:g ≤ h):Below g w w':=⟨k.os,k.tape,k.output,k.size,fun b hb => k.block b (by omega)⟩
theorem bl_tr7 {g:Nat} {a b c:World} (h:Below g a b) (k:Below g b c):Below g a c:=⟨k.os.trans h.os,k.tape.trans h.tape,k.output.trans h.output,Nat.le_trans h.size k.size,fun i hi => (k.block i hi).trans (h.block i hi)⟩
end Go.Proofs.Ytnmciappielkcaa
