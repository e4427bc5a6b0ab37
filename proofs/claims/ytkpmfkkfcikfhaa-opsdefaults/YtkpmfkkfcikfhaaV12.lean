import Derived.Deep.RegionLawGrows
import Derived.Deep.RegionHeld3
import Derived.SizedLaws
import Derived.Deep.Slices
import Derived.Test.YtkpmfkkfcikfhaaV05
set_option maxRecDepth 100000
set_option maxHeartbeats 8000000
namespace Go.Proofs.Ytkpmfkkfcikfhaa
open Go.RowKit
set_option linter.unusedVariables false
theorem alloc_size6 (w:World) (o:Obj):(w.alloc o).heap.size = w.heap.size + 1:=by simp
theorem weights_mem_all {H:Type} {P:Program} {e:TypeId} {d:DataW H}:∀ {l:List (DataW H)},d ∈ l → ∀ m ∈ d.weights P e,m ∈ DataW.weightsAll P e l
 | x :: r,hd,m,hm => by
   rw [DataW.weightsAll,List.mem_append]
   rcases List.mem_cons.1 hd with h | h
   ·subst h; exact .inl hm
   ·exact .inr (weights_mem_all h m hm)
end Go.Proofs.Ytkpmfkkfcikfhaa
