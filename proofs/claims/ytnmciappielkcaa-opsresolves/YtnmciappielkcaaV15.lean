import Derived.Test.YtnmciappielkcaaV05
import Derived.Test.YtnmciappielkcaaV07
import Derived.Test.YtnmciappielkcaaV09
import Derived.Test.YtnmciappielkcaaV12
import Derived.Test.YtnmciappielkcaaV13
import Derived.Test.YtnmciappielkcaaV14
set_option maxRecDepth 100000
set_option maxHeartbeats 8000000
namespace Go.Proofs.Ytnmciappielkcaa
open Go.RowKit
set_option linter.unusedVariables false
theorem flat_one {α:Type} (f:α → Value) (l:List α):l.flatMap (fun x => [f x]) = l.map f:=by
 induction l with
 | nil => rfl
 | cons a r ih => rw [List.flatMap_cons,List.map_cons,ih]; rfl
def i64c (x:Int):List Value:=[.int .i64 x]
theorem i64Wd:Wd 1 i64c:=⟨by decide,fun _ => rfl,fun a u hu => by simp [i64c] at hu; subst hu; rfl⟩
theorem own_i64 {t:TypeId} {w w':World} {v:Value} {l:List Int} (h:OwnR t 1 i64c w w' v l):OwnG t (Value.int .i64) w w' v l:=by
 obtain ⟨h1,h2⟩:=h
 rw [show l.flatMap i64c = l.map (Value.int .i64) from flat_one _ l] at h1
 exact ⟨h1,h2⟩
end Go.Proofs.Ytnmciappielkcaa
