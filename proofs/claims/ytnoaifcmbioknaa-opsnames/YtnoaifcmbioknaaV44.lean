import Derived.Test.YtnoaifcmbioknaaV28
import Derived.Test.YtnoaifcmbioknaaV39
set_option maxRecDepth 100000
set_option maxHeartbeats 8000000
namespace Go.Proofs.Ytnoaifcmbioknaa
open Go.RowKit
set_option linter.unusedVariables false
set_option linter.unusedSimpArgs false
theorem FIn.k1 {B g:Nat} {w:World} {cs:Array Value} {k:Nat}:∀ {f:FV},FIn B g w cs k f → kindF f = 1 → cs[k]? = some (.int .u32 f.x)
 | ⟨0,_,_,_,_⟩,h,e => by simp [kindF] at e
 | ⟨1,_,_,_,_⟩,h,e => h.1
 | ⟨2,_,_,_,_⟩,h,e => by simp [kindF] at e
 | ⟨3,_,_,_,_⟩,h,e => by simp [kindF] at e
 | ⟨_ + 4,_,_,_,_⟩,h,e => by simp [kindF] at e
theorem FIn.k2 {B g:Nat} {w:World} {cs:Array Value} {k:Nat}:∀ {f:FV},FIn B g w cs k f → kindF f = 2 → cs[k]? = some (.bool f.y)
 | ⟨0,_,_,_,_⟩,h,e => by simp [kindF] at e
 | ⟨1,_,_,_,_⟩,h,e => by simp [kindF] at e
 | ⟨2,_,_,_,_⟩,h,e => h
 | ⟨3,_,_,_,_⟩,h,e => by simp [kindF] at e
 | ⟨_ + 4,_,_,_,_⟩,h,e => by simp [kindF] at e
end Go.Proofs.Ytnoaifcmbioknaa
