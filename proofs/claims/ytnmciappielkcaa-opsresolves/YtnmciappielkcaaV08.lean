import Derived.Test.YtnmciappielkcaaV02
import Derived.Test.YtnmciappielkcaaV03
import Derived.Test.YtnmciappielkcaaV04
set_option maxRecDepth 100000
set_option maxHeartbeats 8000000
namespace Go.Proofs.Ytnmciappielkcaa
open Go.RowKit
set_option linter.unusedVariables false
abbrev Ten:=Int × List Int × List Int × List Int × List Bool
structure TA where
 pd:Option Addr
 cd:Nat
 pf:Option Addr
 cf:Nat
 pi:Option Addr
 ci:Nat
 pb:Option Addr
 cb:Nat
def tenCells (T:Ten) (A:TA):Array Value:=#[.int .i64 T.1,.slice A.pd T.2.1.length A.cd,.slice A.pf T.2.2.1.length A.cf,.slice A.pi T.2.2.2.1.length A.ci,.slice A.pb T.2.2.2.2.length A.cb]
def tenV (T:Ten) (A:TA):Value:=.agg (tenCells T A)
def TenIn (w:World) (T:Ten) (A:TA):Prop :=
 (Lit.int .i64 T.1).wf = true ∧ Ints .i64 w A.pd A.cd T.2.1 ∧ Ints .u32 w A.pf A.cf T.2.2.1 ∧ Ints .i64 w A.pi A.ci T.2.2.2.1 ∧ Ls Value.bool w A.pb A.cb T.2.2.2.2
theorem TenIn.below {w w':World} {T:Ten} {A:TA} (h:TenIn w T A) (hb:Below w.heap.size w w'):TenIn w' T A :=
 ⟨h.1,h.2.1.below hb,h.2.2.1.below hb,h.2.2.2.1.below hb,h.2.2.2.2.below hb⟩
def noTen:Ten:=(0,[],[],[],[])
def noTA:TA:=⟨none,0,none,0,none,0,none,0⟩
theorem nilInts (k:IntKind) (w:World):Ints k w none 0 []:=⟨by simp,by omega,by simp,by simp,fun _ => rfl⟩
theorem noTen_in (w:World):TenIn w noTen noTA:=⟨rfl,nilInts _ _,nilInts _ _,nilInts _ _,Ls.nil _⟩
def Apart (p q:Option Addr) (n m:Nat):Prop:=∀ b o c u,p = some ⟨b,o,none⟩ → q = some ⟨c,u,none⟩ → 0 < n → 0 < m → b ≠ c
def TenOwn (B:Nat) (w:World) (T:Ten) (A:TA):Prop :=
 TenIn w T A ∧ Fresh B w A.pd T.2.1.length ∧ Fresh B w A.pf T.2.2.1.length ∧ Fresh B w A.pi T.2.2.2.1.length ∧ Fresh B w A.pb T.2.2.2.2.length ∧
  Apart A.pd A.pf T.2.1.length T.2.2.1.length ∧ Apart A.pd A.pi T.2.1.length T.2.2.2.1.length ∧ Apart A.pd A.pb T.2.1.length T.2.2.2.2.length ∧
  Apart A.pf A.pi T.2.2.1.length T.2.2.2.1.length ∧ Apart A.pf A.pb T.2.2.1.length T.2.2.2.2.length ∧ Apart A.pi A.pb T.2.2.2.1.length T.2.2.2.2.length
theorem TenOwn.below {B:Nat} {w w':World} {T:Ten} {A:TA} (h:TenOwn B w T A) (hb:Below w.heap.size w w'):TenOwn B w' T A:=by
 obtain ⟨h0,h1,h2,h3,h4,h5⟩:=h
 exact ⟨h0.below hb,h1.below h0.2.1.ls rfl hb,h2.below h0.2.2.1.ls rfl hb,h3.below h0.2.2.2.1.ls rfl hb,h4.below h0.2.2.2.2 rfl hb,h5⟩
theorem TenOwn.mono {B C:Nat} {w:World} {T:Ten} {A:TA} (h:TenOwn B w T A) (hc:C ≤ B):TenOwn C w T A:=by
 obtain ⟨h0,h1,h2,h3,h4,h5⟩:=h
 exact ⟨h0,h1.mono hc,h2.mono hc,h3.mono hc,h4.mono hc,h5⟩
theorem fresh_apart {α:Type} [Inhabited α] {f:α → Value} {w wq:World} {p q:Option Addr} {c n m:Nat} {xs:List α} (h:Ls f w p c xs) (hn:n = xs.length) (hs:w.heap.size ≤ wq.heap.size) {wr:World} (hf:Fresh wq.heap.size wr q m):Apart p q n m:=by
 intro b o c u e1 e2 h1 h2 e
 obtain ⟨b',o',e',hb,_⟩:=h.lies (by omega)
 rw [e1] at e'
 simp only [Option.some.injEq,Addr.mk.injEq] at e'
 have:=(hf c u e2 h2).1
 omega
abbrev Str:=List Int
abbrev F3:=Bool × Bool × Bool
def f3 (a b:F3):F3:=(a.1 || b.1,a.2.1 || b.2.1,a.2.2 || b.2.2)
abbrev TenD:=Ten
abbrev AttrD:=Str × Int × Int × Int × Str × TenD × List Int × List Int
abbrev NodeD:=Str × Str × List Str × List Str × List AttrD
abbrev ValD:=Str × Int × List Int
abbrev InitD:=Str × TenD
abbrev ModelD:=Int × Str × List NodeD × List InitD × List ValD × List ValD
def knownB (t:Int):Bool:=t == 1 || t == 7 || t == 9
end Go.Proofs.Ytnmciappielkcaa
