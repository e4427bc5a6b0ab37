import Derived.Deep.RegionLawGrows
import Derived.Deep.RegionHeld3
import Derived.Test.YtnmciappielkcaaV05
set_option maxRecDepth 100000
set_option maxHeartbeats 8000000
namespace Go.Proofs.Ytnmciappielkcaa
open Go.RowKit
set_option linter.unusedVariables false
structure FA where
 n:Int
 wr:Int
 x:Int
 d:List Int
 q:Option Addr
 c:Nat
def noFA:FA:=⟨0,0,0,[],none,0⟩
def faCells (a:FA):List Value:=[.int .i64 a.n,.int .i64 a.wr,.int .u64 a.x,.slice a.q a.d.length a.c]
def FaIn (w:World) (a:FA):Prop:=(Lit.int .i64 a.n).wf = true ∧ (Lit.int .i64 a.wr).wf = true ∧ (Lit.int .u64 a.x).wf = true ∧ Ints .u8 w a.q a.c a.d
theorem FaIn.below {w w':World} {a:FA} (h:FaIn w a) (hb:Below w.heap.size w w'):FaIn w' a:=⟨h.1,h.2.1,h.2.2.1,h.2.2.2.below hb⟩
def Flc (w:World) (p:Option Addr) (cap:Nat) (l:List FA):Prop :=
 l.length ≤ cap ∧ cap ≤ 9223372036854775807 ∧ (0 < l.length → ∃ b o,p = some ⟨b,o,none⟩ ∧ b < w.heap.size ∧ ∀ i,i < l.length → ∀ j u,(faCells (l.getD i noFA))[j]? = some u → w.cell? ⟨b,o + i * 4 + j,none⟩ = some u) ∧ (p = none → cap = 0)
theorem Flc.len {w:World} {p:Option Addr} {cap:Nat} {l:List FA} (h:Flc w p cap l):l.length ≤ 9223372036854775807:=Nat.le_trans h.1 h.2.1
theorem Flc.nil (w:World):Flc w none 0 []:=⟨by simp,by omega,by simp,fun _ => rfl⟩
theorem Flc.below {w w':World} {p:Option Addr} {cap:Nat} {l:List FA} (h:Flc w p cap l) (hb:Below w.heap.size w w'):Flc w' p cap l:=by
 obtain ⟨h1,h2,h4,h5⟩:=h
 refine ⟨h1,h2,fun hp => ?_,h5⟩
 obtain ⟨b,o,e,g1,g2⟩:=h4 hp
 exact ⟨b,o,e,Nat.lt_of_lt_of_le g1 hb.size,fun i hi j u hu => (hb.cell (p:=⟨b,o + i * 4 + j,none⟩) g1).trans (g2 i hi j u hu)⟩
def Fls (w:World) (p:Option Addr) (cap:Nat) (l:List FA):Prop:=Flc w p cap l ∧ ∀ a ∈ l,FaIn w a
theorem Fls.below {w w':World} {p:Option Addr} {cap:Nat} {l:List FA} (h:Fls w p cap l) (hb:Below w.heap.size w w'):Fls w' p cap l:=⟨h.1.below hb,fun a ha => (h.2 a ha).below hb⟩
def OwnF (t:TypeId) (w wr:World) (v:Value) (l:List FA):Prop:=wr.ownsRow w.heap.size t 4 v l.length (l.flatMap faCells) ∧ Below w.heap.size w wr
theorem OwnF.nil (t:TypeId) (w wr:World) (h:Below w.heap.size w wr):OwnF t w wr (.slice none 0 0) []:=⟨World.ownsRow_nil _ _ _ _,h⟩
theorem OwnF.below {t:TypeId} {w wr w':World} {v:Value} {l:List FA} (h:OwnF t w wr v l) (hb:Below wr.heap.size wr w'):OwnF t w w' v l:=by
 obtain ⟨⟨l1,h1⟩,h2⟩:=h
 refine ⟨⟨l1,?_⟩,bl_tr h2 hb⟩
 rcases h1 with ⟨rfl,h0⟩ | ⟨g,cap,cur,rfl,hb1,hh,hc,hm,hs,ht⟩
 ·exact .inl ⟨rfl,h0⟩
 ·refine .inr ⟨g,cap,cur,rfl,hb1,?_,hc,hm,hs,ht⟩
  rw [hb.block g ?_]; exact hh
  rcases Nat.lt_or_ge g wr.heap.size with h | h
  ·exact h
  ·rw [Array.getElem?_eq_none h] at hh; cases hh
theorem alloc_size6 (w:World) (o:Obj):(w.alloc o).heap.size = w.heap.size + 1:=by simp
def DTy (t:TypeId) (w:World) (a:FA):Prop:=0 < a.d.length → ∃ b o cur,a.q = some ⟨b,o,none⟩ ∧ w.heap[b]? = some (.cells cur t (0,0))
theorem DTy.below {t:TypeId} {w w':World} {a:FA} (h:DTy t w a) (hb:Below w.heap.size w w'):DTy t w' a:=fun hp => by
 obtain ⟨b,o,cur,e,hh⟩:=h hp
 exact ⟨b,o,cur,e,(hb.block b (lt_of_block hh)).trans hh⟩
end Go.Proofs.Ytnmciappielkcaa
