import Derived.Test.YtkpmfkkfcikfhaaV02
import Derived.Test.YtkpmfkkfcikfhaaV03
set_option maxRecDepth 100000
set_option maxHeartbeats 8000000
namespace Go.Proofs.Ytkpmfkkfcikfhaa
open Go.RowKit
set_option linter.unusedVariables false
abbrev Ten:=Int × List Int × List Int × List Int × List Bool
structure TA where
 pd:Option Addr
 cd:Nat
 pf:Option Addr
 cf:Nat
 pi:Option Addr
 ci:Nat
 pb:Option Addr
 cb:Nat
def tenCells (T:Ten) (A:TA):Array Value:=#[.int .i64 T.1,.slice A.pd T.2.1.length A.cd,.slice A.pf T.2.2.1.length A.cf,.slice A.pi T.2.2.2.1.length A.ci,.slice A.pb T.2.2.2.2.length A.cb]
def tenV (T:Ten) (A:TA):Value:=.agg (tenCells T A)
def TenIn (w:World) (T:Ten) (A:TA):Prop :=
 (Lit.int .i64 T.1).wf = true ∧ Ints .i64 w A.pd A.cd T.2.1 ∧ Ints .u32 w A.pf A.cf T.2.2.1 ∧ Ints .i64 w A.pi A.ci T.2.2.2.1 ∧ Ls Value.bool w A.pb A.cb T.2.2.2.2
theorem TenIn.below {w w':World} {T:Ten} {A:TA} (h:TenIn w T A) (hb:Below w.heap.size w w'):TenIn w' T A :=
 ⟨h.1,h.2.1.below hb,h.2.2.1.below hb,h.2.2.2.1.below hb,h.2.2.2.2.below hb⟩
def noTen:Ten:=(0,[],[],[],[])
def noTA:TA:=⟨none,0,none,0,none,0,none,0⟩
theorem nilInts (k:IntKind) (w:World):Ints k w none 0 []:=⟨by simp,by omega,by simp,by simp,fun _ => rfl⟩
theorem noTen_in (w:World):TenIn w noTen noTA:=⟨rfl,nilInts _ _,nilInts _ _,nilInts _ _,Ls.nil _⟩
end Go.Proofs.Ytkpmfkkfcikfhaa
