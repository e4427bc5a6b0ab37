import Derived.Carry
import Derived.Laws.OwnMore
import Derived.Test.YtnmciappielkcaaV01
set_option maxRecDepth 100000
set_option maxHeartbeats 8000000
namespace Go.Proofs.Ytnmciappielkcaa
open Go.RowKit
set_option linter.unusedVariables false
def Ints (k:IntKind) (w:World) (p:Option Addr) (cap:Nat) (xs:List Int):Prop :=
 xs.length ≤ cap ∧ cap ≤ 9223372036854775807 ∧ (∀ x ∈ xs,(Lit.int k x).wf = true) ∧
  (0 < xs.length → ∃ b o,p = some ⟨b,o,none⟩ ∧ b < w.heap.size ∧ ∀ i,i < xs.length → w.cell? ⟨b,o + i,none⟩ = some (.int k (xs.getD i 0))) ∧ (p = none → cap = 0)
theorem Ints.lies {k:IntKind} {w:World} {p:Option Addr} {cap:Nat} {xs:List Int} (h:Ints k w p cap xs) (hp:0 < xs.length):∃ b o,p = some ⟨b,o,none⟩ ∧ b < w.heap.size ∧ ∀ i,i < xs.length → w.cell? ⟨b,o + i,none⟩ = some (.int k (xs.getD i 0)):=h.2.2.2.1 hp
theorem Ints.below {k:IntKind} {w w':World} {p:Option Addr} {cap:Nat} {xs:List Int} (h:Ints k w p cap xs) (hb:Below w.heap.size w w'):Ints k w' p cap xs:=by
 obtain ⟨h1,h2,h3,h4,h5⟩:=h
 refine ⟨h1,h2,h3,fun hp => ?_,h5⟩
 obtain ⟨b,o,e,g1,g2⟩:=h4 hp
 exact ⟨b,o,e,Nat.lt_of_lt_of_le g1 hb.size,fun i hi => (hb.cell (p:=⟨b,o + i,none⟩) g1).trans (g2 i hi)⟩
theorem bw_drew {B:Nat} {a w:World} (h:Below B a w) (n:Nat):Below B a (w.drewN n):=h.trans ⟨rfl,rfl,rfl,Nat.le_refl _,fun _ _ => rfl⟩
theorem Ints.len {k:IntKind} {w:World} {p:Option Addr} {cap:Nat} {xs:List Int} (h:Ints k w p cap xs):xs.length ≤ 9223372036854775807:=Nat.le_trans h.1 h.2.1
theorem Ints.wf {k:IntKind} {w:World} {p:Option Addr} {cap:Nat} {xs:List Int} (h:Ints k w p cap xs) (i:Nat) (hi:i < xs.length):(Lit.int k (xs.getD i 0)).wf = true:=by
 have:xs.getD i 0 = xs[i]:=by simp [List.getElem?_eq_getElem hi]
 rw [this]; exact h.2.2.1 _ (List.getElem_mem hi)
theorem Ints.i64 {w:World} {p:Option Addr} {cap:Nat} {xs:List Int} (h:Ints .i64 w p cap xs) (i:Nat) (hi:i < xs.length):-9223372036854775808 ≤ xs.getD i 0 ∧ xs.getD i 0 < 9223372036854775808 :=
 wf_i64_iff (h.wf i hi)
def vals (os:List Int):List Value:=os.map fun d => Value.int .i64 d
def OwnI (w wr:World) (v:Value) (os:List Int):Prop :=
 wr.ownsRow w.heap.size 3 1 v os.length (vals os) ∧ Below w.heap.size w wr ∧ ∀ d ∈ os,(Lit.int .i64 d).wf = true
theorem OwnI.nil (w:World):OwnI w w (.slice none 0 0) []:=⟨World.ownsRow_nil _ _ _ _,Below.refl _ _,by simp⟩
theorem OwnI.below {w wr w':World} {v:Value} {os:List Int} (h:OwnI w wr v os) (hb:Below wr.heap.size wr w'):OwnI w w' v os:=by
 obtain ⟨⟨l1,h1⟩,h2,h3⟩:=h
 refine ⟨⟨l1,?_⟩,bl_tr h2 hb,h3⟩
 rcases h1 with ⟨rfl,h0⟩ | ⟨g,cap,cur,rfl,hb1,hh,hc,hm,hs,ht⟩
 ·exact .inl ⟨rfl,h0⟩
 ·refine .inr ⟨g,cap,cur,rfl,hb1,?_,hc,hm,hs,ht⟩
  rw [hb.block g ?_]; exact hh
  rcases Nat.lt_or_ge g wr.heap.size with h | h
  ·exact h
  ·rw [Array.getElem?_eq_none h] at hh; cases hh
end Go.Proofs.Ytnmciappielkcaa
