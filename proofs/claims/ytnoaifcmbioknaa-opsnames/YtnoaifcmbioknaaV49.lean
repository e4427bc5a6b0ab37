import Derived.ChangeMaps5
import Derived.Test.YtnoaifcmbioknaaV43
import Derived.Test.YtnoaifcmbioknaaV48
set_option maxRecDepth 100000
set_option maxHeartbeats 8000000
namespace Go.Proofs.Ytnoaifcmbioknaa
open Go.RowKit
set_option linter.unusedVariables false
set_option linter.unusedSimpArgs false
theorem str8_open {H:Type} {enc:TypeId × Value → H} {W:World} {base:Nat} {v:Value} {d:DataW H} {ps:List MemPlace}
  (hv:Value.okWide Try.prog W .any base 9 v) (h:DataW.Trod enc Try.prog W 0 (fun _ => true) true 9 v d ps) :
  ∃ s:Str,v = strV s ∧ isB s:=by
 obtain ⟨s,rfl,_⟩:=Go.ChangeMaps.open_string Try.underlying9 hv h
 obtain ⟨x,hx,rfl⟩:=str_of s
 exact ⟨x,rfl,hx⟩
end Go.Proofs.Ytnoaifcmbioknaa
