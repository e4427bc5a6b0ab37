import Derived.Lib.SliceRun
import Derived.Test.YtnmciappielkcaaV05
import Derived.Test.YtnmciappielkcaaV06
import Derived.Test.YtnmciappielkcaaV10
set_option maxRecDepth 100000
set_option maxHeartbeats 8000000
namespace Go.Proofs.Ytnmciappielkcaa
open Go.RowKit
set_option linter.unusedVariables false
def OwnD (B:Nat) (w:World) (a:FA):Prop:=w.ownsRow B 5 1 (.slice a.q a.d.length a.c) a.d.length (a.d.map (Value.int .u8))
theorem OwnD.mono {B C:Nat} {w:World} {a:FA} (h:OwnD B w a) (hc:C ≤ B):OwnD C w a:=by
 obtain ⟨h1,h2⟩:=h
 refine ⟨h1,?_⟩
 rcases h2 with g | ⟨g,cap,cur,hv,hb,rest⟩
 ·exact .inl g
 ·exact .inr ⟨g,cap,cur,hv,Nat.le_trans hc hb,rest⟩
theorem OwnD.kept {B:Nat} {w w':World} {a:FA} (h:OwnD B w a) (hk:∀ g cur,B ≤ g → w.heap[g]? = some (.cells cur 5 (0,0)) → w'.heap[g]? = w.heap[g]?):OwnD B w' a:=by
 obtain ⟨h1,h2⟩:=h
 refine ⟨h1,?_⟩
 rcases h2 with g | ⟨g,cap,cur,hv,hb,hh,rest⟩
 ·exact .inl g
 ·exact .inr ⟨g,cap,cur,hv,hb,(hk g cur hb hh).trans hh,rest⟩
theorem OwnD.below {B:Nat} {w w':World} {a:FA} (h:OwnD B w a) (hb:Below w.heap.size w w'):OwnD B w' a:=h.kept (fun g cur _ hh => hb.block g (lt_of_block hh))
theorem OwnD.ty {B:Nat} {w:World} {a:FA} (h:OwnD B w a):DTy 5 w a:=fun hp => by
 rcases h.2 with ⟨_,hn⟩ | ⟨g,cap,cur,hv,hb,hh,_⟩
 ·omega
 ·simp only [Value.slice.injEq] at hv
  exact ⟨g,0,cur,hv.1,hh⟩
end Go.Proofs.Ytnmciappielkcaa
