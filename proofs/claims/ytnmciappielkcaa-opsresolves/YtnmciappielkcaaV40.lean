import Derived.Test.YtnmciappielkcaaV34
import Derived.Test.YtnmciappielkcaaV35
import Derived.Test.YtnmciappielkcaaV39
set_option maxRecDepth 100000
set_option maxHeartbeats 8000000
namespace Go.Proofs.Ytnmciappielkcaa
open Go.RowKit
set_option linter.unusedVariables false
set_option linter.unusedSimpArgs false
theorem wpList_load8g {w:World} {ops:Array Oper} {rest:List Oper} {o:Oper} {a:Act} {Q:Exit → Act → World → Prop} (hw:Region.wanted o (yielded ops a.tmps) = true) (p:Operand) (ho:o.op = .load 35 p)
  {g:Nat} {cs:Array Value} {t:TypeId} (hp:a.eval p = .pointer (some ⟨g,0,none⟩)) (hb:Box w g cs t) (hs:cs.size = 36)
  (h:wpList Try.prog ops Q rest (a.put o.dst (.agg cs)) w):wpList Try.prog ops Q (o :: rest) a w:=by
 refine wpList_step fun K hK => ?_
 rw [if_pos hw]
 unfold Oper.wp
 simp only [execOp,ho,Instr.loadAt,hp,Instr.sureAddr,Sem.run_bind,Sem.run_pure,Result.andThen_ok,loadVar_box8 hb hs]
 exact hK _ _ h
theorem FIn.w1 {B g:Nat} {w:World} {cs:Array Value} {k:Nat}:∀ {f:FV},FIn B g w cs k f → kindF f = 1 → (Lit.int .u32 f.x).wf = true
 | ⟨0,_,_,_,_⟩,h,e => by simp [kindF] at e
 | ⟨1,_,_,_,_⟩,h,e => h.2
 | ⟨2,_,_,_,_⟩,h,e => by simp [kindF] at e
 | ⟨3,_,_,_,_⟩,h,e => by simp [kindF] at e
 | ⟨_ + 4,_,_,_,_⟩,h,e => by simp [kindF] at e
theorem Ls.hold8 {α:Type} [Inhabited α] {f:α → Value} {B:Nat} {w w':World} {p:Option Addr} {c:Nat} {xs:List α} (h:Ls f w p c xs) (hB:∀ b o,p = some ⟨b,o,none⟩ → 0 < xs.length → B ≤ b) (hs:w.heap.size ≤ w'.heap.size) (hk:∀ k,B ≤ k → k < w.heap.size → w'.heap[k]? = w.heap[k]?):Ls f w' p c xs:=by
 obtain ⟨h1,h2,h4,h5⟩:=h
 refine ⟨h1,h2,fun hp => ?_,h5⟩
 obtain ⟨b,o,e,g1,g2⟩:=h4 hp
 exact ⟨b,o,e,Nat.lt_of_lt_of_le g1 hs,fun i hi => (World.cell?_of_block (w:=w) (hk b (hB b o e hp) g1)).trans (g2 i hi)⟩
theorem OwL.hold {kd:IntKind} {B g g':Nat} {w w':World} {p:Option Addr} {c:Nat} {xs:List Int} (h:OwL kd B g w p c xs) (hg:w'.heap.size ≤ g') (hs:w.heap.size ≤ w'.heap.size) (hk:∀ k,B ≤ k → k < w.heap.size → w'.heap[k]? = w.heap[k]?):OwL kd B g' w' p c xs:=by
 refine ⟨(h.1.ls.hold8 (fun b o e hp => (h.2 b o e hp).1) hs hk).ints h.1.2.2.1,fun b o e hp => ?_⟩
 obtain ⟨h1,h2,h3⟩:=h.2 b o e hp
 obtain ⟨b',o',e',hb,_⟩:=h.1.ls.lies hp
 rw [e] at e'
 simp only [Option.some.injEq,Addr.mk.injEq] at e'
 obtain ⟨rfl,rfl,_⟩:=e'
 exact ⟨h1,⟨by omega,by omega⟩,fun i hi => (World.frozen?_of_block (w:=w) (hk b h1 hb)).trans (h3 i hi)⟩
theorem OwB.hold {B g g':Nat} {w w':World} {p:Option Addr} {c:Nat} {xs:List Bool} (h:OwB B g w p c xs) (hg:w'.heap.size ≤ g') (hs:w.heap.size ≤ w'.heap.size) (hk:∀ k,B ≤ k → k < w.heap.size → w'.heap[k]? = w.heap[k]?):OwB B g' w' p c xs:=by
 refine ⟨h.1.hold8 (fun b o e hp => (h.2 b o e hp).1) hs hk,fun b o e hp => ?_⟩
 obtain ⟨h1,h2,h3⟩:=h.2 b o e hp
 obtain ⟨b',o',e',hb,_⟩:=h.1.lies hp
 rw [e] at e'
 simp only [Option.some.injEq,Addr.mk.injEq] at e'
 obtain ⟨rfl,rfl,_⟩:=e'
 exact ⟨h1,⟨by omega,by omega⟩,fun i hi => (World.frozen?_of_block (w:=w) (hk b h1 hb)).trans (h3 i hi)⟩
theorem FIn.hold {B g g':Nat} {w w':World} {cs:Array Value} {k:Nat} (hg:w'.heap.size ≤ g') (hs:w.heap.size ≤ w'.heap.size) (hk:∀ k,B ≤ k → k < w.heap.size → w'.heap[k]? = w.heap[k]?):∀ {f:FV},FIn B g w cs k f → FIn B g' w' cs k f
 | ⟨0,_,_,_,_⟩,h => h
 | ⟨1,_,_,_,_⟩,h => h
 | ⟨2,_,_,_,_⟩,h => h
 | ⟨3,_,_,_,_⟩,⟨p,c,h1,h2⟩ => ⟨p,c,h1,h2.hold hg hs hk⟩
 | ⟨_ + 4,_,_,_,_⟩,⟨A,h1,h2⟩ => ⟨A,h1,h2.1,h2.2.1.hold hg hs hk,h2.2.2.1.hold hg hs hk,h2.2.2.2.1.hold hg hs hk,h2.2.2.2.2.hold hg hs hk⟩
theorem SeV.hold {B:Nat} {w w':World} {cs:Array Value} {D:SeD} (h:SeV B w cs D) (hs:w.heap.size ≤ w'.heap.size) (hk:∀ k,B ≤ k → k < w.heap.size → w'.heap[k]? = w.heap[k]?):SeV B w' cs D:=⟨h.1,fun k hk2 => ⟨(h.2 k hk2).1.hold (Nat.le_refl _) hs hk,(h.2 k hk2).2⟩⟩
theorem SeV.u8 {B k:Nat} {w:World} {cs:Array Value} {D:SeD} (h:SeV B w cs D) (hk:k ≤ 31) (hf:kindsK.getD k 0 = 1):(Lit.int .u32 (D k).x).wf = true:=(h.2 k hk).1.w1 ((h.2 k hk).2.trans hf)
end Go.Proofs.Ytnmciappielkcaa
