/-
  No cell of these rows narrows 'for every input' (looked for: loops, veiled, ifaces, maps, wideKeys, modest, calm, conditions, laid).
  DERIVED. THE GIVEN ROWS OF THIS SEAT. 2 by the template 'for every input the law returns true; each argument reads behind the call as it read before'; 0 by the template 'total and deterministic' (their statements: YtaikppgoahdjbabGreatTotals.lean).
  GIVEN WITH THE SEED: the statements are not yours to turn. If you find one false, say at which input.
  Laid BY PROGRAM, IN A SANDBOX (cutbox-rows.mjs): the forced cells as the released guide's own fill.sh prints them over the translation 86221ca1eca1c2cb… (all of the seat's roots in one cut). By AI agents, Wed Nov 11 2026. No macro, syntax, notation, axiom, sorry.
-/
import Derived.Test.YtaikppgoahdjbabGreatChecked
import GoSem.Claim
import GoSem.ClaimJoined
import GoSem.ClaimMapViews
import Derived.JoinedTies
import Derived.KernelRfl
namespace Go.Proofs.YtaikppgoahdjbabGreat
/- THE CELL 'sum', in the pinned program and in every row, IS THE sha256 OF THE DUMP (.gsa) THAT YtaikppgoahdjbabGreatProg.lean LOADS. Nothing in Lean hashes anything: it is a label: what it is worth is what the hold of that sum in a sandbox is worth. -/
noncomputable def Tryz.pinned : Pinned := { name := "ytaikppgoahdjbabgreat", sum := "86221ca1eca1c2cb2d426b018470de0140d7e290068e5ea567b10b16c1bc35ed", checked := Tryz.checked }
namespace Rows
def none {H : Type} : Left H := { results := [], args := [] }

/-- 'latticelaw07.OnnxSplits': WHATEVER THE INPUT: true; the input reads as it did. -/
def onnxSplitsSpec : ChangeSpec := { name := "onnxSplits", fn := fun _ => fun
  | [d1, d2] => { results := [.lit (.bool true)], args := [d1, d2] }
  | _ => none }
def onnxSplitsRow : OpenClaim := { program := "ytaikppgoahdjbabgreat", sum := "86221ca1eca1c2cb2d426b018470de0140d7e290068e5ea567b10b16c1bc35ed", func := "lattice/latticelaw07.OnnxSplits", spec := "onnxSplits", unfollowed := true, recurses := true, apart := false }
def OnnxSplitsSaid : Prop := onnxSplitsRow.holds Tryz.pinned (OpenSpec.ofChange onnxSplitsSpec)

/-- ITS FALSE NEIGHBOUR: 'it returns false'. Refute it at one input. -/
def onnxSplitsWrong : ChangeSpec := { name := "onnxSplits", fn := fun _ => fun
  | [d1, d2] => { results := [.lit (.bool false)], args := [d1, d2] }
  | _ => none }
def OnnxSplitsWrongFalsely : Prop := onnxSplitsRow.holds Tryz.pinned (OpenSpec.ofChange onnxSplitsWrong)

/-- 'latticelaw07.OnnxTurns': WHATEVER THE INPUT: true; the input reads as it did. -/
def onnxTurnsSpec : ChangeSpec := { name := "onnxTurns", fn := fun _ => fun
  | [d] => { results := [.lit (.bool true)], args := [d] }
  | _ => none }
def onnxTurnsRow : OpenClaim := { program := "ytaikppgoahdjbabgreat", sum := "86221ca1eca1c2cb2d426b018470de0140d7e290068e5ea567b10b16c1bc35ed", func := "lattice/latticelaw07.OnnxTurns", spec := "onnxTurns", unfollowed := true, recurses := true, apart := false }
def OnnxTurnsSaid : Prop := onnxTurnsRow.holds Tryz.pinned (OpenSpec.ofChange onnxTurnsSpec)

/-- ITS FALSE NEIGHBOUR: 'it returns false'. Refute it at one input. -/
def onnxTurnsWrong : ChangeSpec := { name := "onnxTurns", fn := fun _ => fun
  | [d] => { results := [.lit (.bool false)], args := [d] }
  | _ => none }
def OnnxTurnsWrongFalsely : Prop := onnxTurnsRow.holds Tryz.pinned (OpenSpec.ofChange onnxTurnsWrong)

/- THE SECOND FORM. 'bulk': how many values and letters a reading holds, each counted each time it is reached (what is shared counts as often as it is met; a slice's spare places count too). A statement '..UptoSaid' is the law's where the arguments, and the package variables that the reading takes, are together of bulk at most 1048576: NARROWER than '..Said'. Prove '..Said' where nothing that the law and all that it calls make is longer than what came in: it says more and counts as full. Else prove '..UptoSaid'. A law counts once. -/
mutual
def uptoBulk {H : Type} : DataW H → Nat
  | .lit (.string bytes) => bytes.length + 1
  | .lit _ => 1
  | .nil => 1
  | .ptr d => uptoBulk d + 1
  | .slice elems spare => uptoBulkAll elems + uptoBulkAll spare + 1
  | .agg parts => uptoBulkAll parts + 1
  | .iface _ d => uptoBulk d + 1
  | .map entries => uptoBulkEntries entries + 1
  | .held _ => 1
def uptoBulkAll {H : Type} : List (DataW H) → Nat
  | [] => 0
  | d :: r => uptoBulk d + uptoBulkAll r
def uptoBulkEntries {H : Type} : List (Lit × DataW H) → Nat
  | [] => 0
  | x :: r => uptoBulkEntry x + uptoBulkEntries r
def uptoBulkEntry {H : Type} : Lit × DataW H → Nat
  | (.string bytes, d) => bytes.length + uptoBulk d + 1
  | (_, d) => uptoBulk d + 1
 end
def uptoSmall : (H : Type) → List (DataW H) → Bool := fun _ ds => decide (uptoBulkAll ds ≤ 1048576)
def OpenSpec.upto (s : _root_.Go.ChangeSpec) : _root_.Go.OpenSpec := { _root_.Go.OpenSpec.ofChange s with cond := some uptoSmall }

/-- 'latticelaw07.OnnxSplits', WHERE WHAT IT READS IS OF BULK AT MOST 1048576: true; the input reads as it did. -/
def onnxSplitsUptoRow : OpenClaim := { program := "ytaikppgoahdjbabgreat", sum := "86221ca1eca1c2cb2d426b018470de0140d7e290068e5ea567b10b16c1bc35ed", func := "lattice/latticelaw07.OnnxSplits", spec := "onnxSplits", unfollowed := true, recurses := true, apart := false, narrowed := true }
def OnnxSplitsUptoSaid : Prop := onnxSplitsUptoRow.holds Tryz.pinned (OpenSpec.upto onnxSplitsSpec)

/-- 'latticelaw07.OnnxTurns', WHERE WHAT IT READS IS OF BULK AT MOST 1048576: true; the input reads as it did. -/
def onnxTurnsUptoRow : OpenClaim := { program := "ytaikppgoahdjbabgreat", sum := "86221ca1eca1c2cb2d426b018470de0140d7e290068e5ea567b10b16c1bc35ed", func := "lattice/latticelaw07.OnnxTurns", spec := "onnxTurns", unfollowed := true, recurses := true, apart := false, narrowed := true }
def OnnxTurnsUptoSaid : Prop := onnxTurnsUptoRow.holds Tryz.pinned (OpenSpec.upto onnxTurnsSpec)

end Rows
end Go.Proofs.YtaikppgoahdjbabGreat
