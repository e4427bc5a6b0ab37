/-
  No cell of these rows narrows 'for every input' (looked for: loops, veiled, ifaces, maps, wideKeys, modest, calm, conditions, laid).
  DERIVED. THE GIVEN ROWS OF THIS SEAT. 6 by the template 'for every input the law returns true; each argument reads behind the call as it read before'; 0 by the template 'total and deterministic' (their statements: YtmdlaahdgjegcaaGreatTotals.lean).
  GIVEN WITH THE SEED: the statements are not yours to turn. If you find one false, say at which input.
  Laid BY PROGRAM, IN A SANDBOX (cutbox-rows.mjs): the forced cells as the released guide's own fill.sh prints them over the translation 0e7bce0a38ad65c3… (all of the seat's roots in one cut). By AI agents, Wed Nov 11 2026. No macro, syntax, notation, axiom, sorry.
-/
import Derived.Test.YtmdlaahdgjegcaaGreatChecked
import GoSem.Claim
import GoSem.ClaimJoined
import GoSem.ClaimMapViews
import Derived.JoinedTies
import Derived.KernelRfl
namespace Go.Proofs.YtmdlaahdgjegcaaGreat
/- THE CELL 'sum', in the pinned program and in every row, IS THE sha256 OF THE DUMP (.gsa) THAT YtmdlaahdgjegcaaGreatProg.lean LOADS. Nothing in Lean hashes anything: it is a label: what it is worth is what the hold of that sum in a sandbox is worth. -/
noncomputable def Tryz.pinned : Pinned := { name := "ytmdlaahdgjegcaagreat", sum := "0e7bce0a38ad65c386a119db8e94233b97945d52686b4b30f30390f532b9c4cc", checked := Tryz.checked }
namespace Rows
def none {H : Type} : Left H := { results := [], args := [] }

/-- 'latticelaw07.OnnxDecodes': WHATEVER THE INPUT: true; the input reads as it did. -/
def onnxDecodesSpec : ChangeSpec := { name := "onnxDecodes", fn := fun _ => fun
  | [d] => { results := [.lit (.bool true)], args := [d] }
  | _ => none }
def onnxDecodesRow : OpenClaim := { program := "ytmdlaahdgjegcaagreat", sum := "0e7bce0a38ad65c386a119db8e94233b97945d52686b4b30f30390f532b9c4cc", func := "lattice/latticelaw07.OnnxDecodes", spec := "onnxDecodes", unfollowed := true, recurses := true, apart := false }
def OnnxDecodesSaid : Prop := onnxDecodesRow.holds Tryz.pinned (OpenSpec.ofChange onnxDecodesSpec)

/-- ITS FALSE NEIGHBOUR: 'it returns false'. Refute it at one input. -/
def onnxDecodesWrong : ChangeSpec := { name := "onnxDecodes", fn := fun _ => fun
  | [d] => { results := [.lit (.bool false)], args := [d] }
  | _ => none }
def OnnxDecodesWrongFalsely : Prop := onnxDecodesRow.holds Tryz.pinned (OpenSpec.ofChange onnxDecodesWrong)

/-- 'latticelaw07.OnnxEncodes': WHATEVER THE INPUT: true; the input reads as it did. -/
def onnxEncodesSpec : ChangeSpec := { name := "onnxEncodes", fn := fun _ => fun
  | [d] => { results := [.lit (.bool true)], args := [d] }
  | _ => none }
def onnxEncodesRow : OpenClaim := { program := "ytmdlaahdgjegcaagreat", sum := "0e7bce0a38ad65c386a119db8e94233b97945d52686b4b30f30390f532b9c4cc", func := "lattice/latticelaw07.OnnxEncodes", spec := "onnxEncodes", unfollowed := true, recurses := true, apart := false }
def OnnxEncodesSaid : Prop := onnxEncodesRow.holds Tryz.pinned (OpenSpec.ofChange onnxEncodesSpec)

/-- ITS FALSE NEIGHBOUR: 'it returns false'. Refute it at one input. -/
def onnxEncodesWrong : ChangeSpec := { name := "onnxEncodes", fn := fun _ => fun
  | [d] => { results := [.lit (.bool false)], args := [d] }
  | _ => none }
def OnnxEncodesWrongFalsely : Prop := onnxEncodesRow.holds Tryz.pinned (OpenSpec.ofChange onnxEncodesWrong)

/-- 'latticelaw07.OnnxCounts': WHATEVER THE INPUT: true; the input reads as it did. -/
def onnxCountsSpec : ChangeSpec := { name := "onnxCounts", fn := fun _ => fun
  | [d] => { results := [.lit (.bool true)], args := [d] }
  | _ => none }
def onnxCountsRow : OpenClaim := { program := "ytmdlaahdgjegcaagreat", sum := "0e7bce0a38ad65c386a119db8e94233b97945d52686b4b30f30390f532b9c4cc", func := "lattice/latticelaw07.OnnxCounts", spec := "onnxCounts", unfollowed := true, recurses := true, apart := false }
def OnnxCountsSaid : Prop := onnxCountsRow.holds Tryz.pinned (OpenSpec.ofChange onnxCountsSpec)

/-- ITS FALSE NEIGHBOUR: 'it returns false'. Refute it at one input. -/
def onnxCountsWrong : ChangeSpec := { name := "onnxCounts", fn := fun _ => fun
  | [d] => { results := [.lit (.bool false)], args := [d] }
  | _ => none }
def OnnxCountsWrongFalsely : Prop := onnxCountsRow.holds Tryz.pinned (OpenSpec.ofChange onnxCountsWrong)

/-- 'latticelaw07.OnnxBack': WHATEVER THE INPUT: true; the input reads as it did. -/
def onnxBackSpec : ChangeSpec := { name := "onnxBack", fn := fun _ => fun
  | [d] => { results := [.lit (.bool true)], args := [d] }
  | _ => none }
def onnxBackRow : OpenClaim := { program := "ytmdlaahdgjegcaagreat", sum := "0e7bce0a38ad65c386a119db8e94233b97945d52686b4b30f30390f532b9c4cc", func := "lattice/latticelaw07.OnnxBack", spec := "onnxBack", unfollowed := true, recurses := true, apart := false }
def OnnxBackSaid : Prop := onnxBackRow.holds Tryz.pinned (OpenSpec.ofChange onnxBackSpec)

/-- ITS FALSE NEIGHBOUR: 'it returns false'. Refute it at one input. -/
def onnxBackWrong : ChangeSpec := { name := "onnxBack", fn := fun _ => fun
  | [d] => { results := [.lit (.bool false)], args := [d] }
  | _ => none }
def OnnxBackWrongFalsely : Prop := onnxBackRow.holds Tryz.pinned (OpenSpec.ofChange onnxBackWrong)

/-- 'latticelaw07.OnnxAgain': WHATEVER THE INPUT: true; the input reads as it did. -/
def onnxAgainSpec : ChangeSpec := { name := "onnxAgain", fn := fun _ => fun
  | [d] => { results := [.lit (.bool true)], args := [d] }
  | _ => none }
def onnxAgainRow : OpenClaim := { program := "ytmdlaahdgjegcaagreat", sum := "0e7bce0a38ad65c386a119db8e94233b97945d52686b4b30f30390f532b9c4cc", func := "lattice/latticelaw07.OnnxAgain", spec := "onnxAgain", unfollowed := true, recurses := true, apart := false }
def OnnxAgainSaid : Prop := onnxAgainRow.holds Tryz.pinned (OpenSpec.ofChange onnxAgainSpec)

/-- ITS FALSE NEIGHBOUR: 'it returns false'. Refute it at one input. -/
def onnxAgainWrong : ChangeSpec := { name := "onnxAgain", fn := fun _ => fun
  | [d] => { results := [.lit (.bool false)], args := [d] }
  | _ => none }
def OnnxAgainWrongFalsely : Prop := onnxAgainRow.holds Tryz.pinned (OpenSpec.ofChange onnxAgainWrong)

/-- 'latticelaw07.OnnxSkips': WHATEVER THE INPUT: true; the input reads as it did. -/
def onnxSkipsSpec : ChangeSpec := { name := "onnxSkips", fn := fun _ => fun
  | [d1, d2, d3, d4] => { results := [.lit (.bool true)], args := [d1, d2, d3, d4] }
  | _ => none }
def onnxSkipsRow : OpenClaim := { program := "ytmdlaahdgjegcaagreat", sum := "0e7bce0a38ad65c386a119db8e94233b97945d52686b4b30f30390f532b9c4cc", func := "lattice/latticelaw07.OnnxSkips", spec := "onnxSkips", unfollowed := true, recurses := true, apart := false }
def OnnxSkipsSaid : Prop := onnxSkipsRow.holds Tryz.pinned (OpenSpec.ofChange onnxSkipsSpec)

/-- ITS FALSE NEIGHBOUR: 'it returns false'. Refute it at one input. -/
def onnxSkipsWrong : ChangeSpec := { name := "onnxSkips", fn := fun _ => fun
  | [d1, d2, d3, d4] => { results := [.lit (.bool false)], args := [d1, d2, d3, d4] }
  | _ => none }
def OnnxSkipsWrongFalsely : Prop := onnxSkipsRow.holds Tryz.pinned (OpenSpec.ofChange onnxSkipsWrong)

/- THE SECOND FORM. 'bulk': how many values and letters a reading holds, each counted each time it is reached (what is shared counts as often as it is met; a slice's spare places count too). A statement '..UptoSaid' is the law's where the arguments, and the package variables that the reading takes, are together of bulk at most 1048576: NARROWER than '..Said'. Prove '..Said' where nothing that the law and all that it calls make is longer than what came in: it says more and counts as full. Else prove '..UptoSaid'. A law counts once. -/
mutual
def uptoBulk {H : Type} : DataW H → Nat
  | .lit (.string bytes) => bytes.length + 1
  | .lit _ => 1
  | .nil => 1
  | .ptr d => uptoBulk d + 1
  | .slice elems spare => uptoBulkAll elems + uptoBulkAll spare + 1
  | .agg parts => uptoBulkAll parts + 1
  | .iface _ d => uptoBulk d + 1
  | .map entries => uptoBulkEntries entries + 1
  | .held _ => 1
def uptoBulkAll {H : Type} : List (DataW H) → Nat
  | [] => 0
  | d :: r => uptoBulk d + uptoBulkAll r
def uptoBulkEntries {H : Type} : List (Lit × DataW H) → Nat
  | [] => 0
  | x :: r => uptoBulkEntry x + uptoBulkEntries r
def uptoBulkEntry {H : Type} : Lit × DataW H → Nat
  | (.string bytes, d) => bytes.length + uptoBulk d + 1
  | (_, d) => uptoBulk d + 1
 end
def uptoSmall : (H : Type) → List (DataW H) → Bool := fun _ ds => decide (uptoBulkAll ds ≤ 1048576)
def OpenSpec.upto (s : _root_.Go.ChangeSpec) : _root_.Go.OpenSpec := { _root_.Go.OpenSpec.ofChange s with cond := some uptoSmall }

/-- 'latticelaw07.OnnxDecodes', WHERE WHAT IT READS IS OF BULK AT MOST 1048576: true; the input reads as it did. -/
def onnxDecodesUptoRow : OpenClaim := { program := "ytmdlaahdgjegcaagreat", sum := "0e7bce0a38ad65c386a119db8e94233b97945d52686b4b30f30390f532b9c4cc", func := "lattice/latticelaw07.OnnxDecodes", spec := "onnxDecodes", unfollowed := true, recurses := true, apart := false, narrowed := true }
def OnnxDecodesUptoSaid : Prop := onnxDecodesUptoRow.holds Tryz.pinned (OpenSpec.upto onnxDecodesSpec)

/-- 'latticelaw07.OnnxEncodes', WHERE WHAT IT READS IS OF BULK AT MOST 1048576: true; the input reads as it did. -/
def onnxEncodesUptoRow : OpenClaim := { program := "ytmdlaahdgjegcaagreat", sum := "0e7bce0a38ad65c386a119db8e94233b97945d52686b4b30f30390f532b9c4cc", func := "lattice/latticelaw07.OnnxEncodes", spec := "onnxEncodes", unfollowed := true, recurses := true, apart := false, narrowed := true }
def OnnxEncodesUptoSaid : Prop := onnxEncodesUptoRow.holds Tryz.pinned (OpenSpec.upto onnxEncodesSpec)

/-- 'latticelaw07.OnnxCounts', WHERE WHAT IT READS IS OF BULK AT MOST 1048576: true; the input reads as it did. -/
def onnxCountsUptoRow : OpenClaim := { program := "ytmdlaahdgjegcaagreat", sum := "0e7bce0a38ad65c386a119db8e94233b97945d52686b4b30f30390f532b9c4cc", func := "lattice/latticelaw07.OnnxCounts", spec := "onnxCounts", unfollowed := true, recurses := true, apart := false, narrowed := true }
def OnnxCountsUptoSaid : Prop := onnxCountsUptoRow.holds Tryz.pinned (OpenSpec.upto onnxCountsSpec)

/-- 'latticelaw07.OnnxBack', WHERE WHAT IT READS IS OF BULK AT MOST 1048576: true; the input reads as it did. -/
def onnxBackUptoRow : OpenClaim := { program := "ytmdlaahdgjegcaagreat", sum := "0e7bce0a38ad65c386a119db8e94233b97945d52686b4b30f30390f532b9c4cc", func := "lattice/latticelaw07.OnnxBack", spec := "onnxBack", unfollowed := true, recurses := true, apart := false, narrowed := true }
def OnnxBackUptoSaid : Prop := onnxBackUptoRow.holds Tryz.pinned (OpenSpec.upto onnxBackSpec)

/-- 'latticelaw07.OnnxAgain', WHERE WHAT IT READS IS OF BULK AT MOST 1048576: true; the input reads as it did. -/
def onnxAgainUptoRow : OpenClaim := { program := "ytmdlaahdgjegcaagreat", sum := "0e7bce0a38ad65c386a119db8e94233b97945d52686b4b30f30390f532b9c4cc", func := "lattice/latticelaw07.OnnxAgain", spec := "onnxAgain", unfollowed := true, recurses := true, apart := false, narrowed := true }
def OnnxAgainUptoSaid : Prop := onnxAgainUptoRow.holds Tryz.pinned (OpenSpec.upto onnxAgainSpec)

/-- 'latticelaw07.OnnxSkips', WHERE WHAT IT READS IS OF BULK AT MOST 1048576: true; the input reads as it did. -/
def onnxSkipsUptoRow : OpenClaim := { program := "ytmdlaahdgjegcaagreat", sum := "0e7bce0a38ad65c386a119db8e94233b97945d52686b4b30f30390f532b9c4cc", func := "lattice/latticelaw07.OnnxSkips", spec := "onnxSkips", unfollowed := true, recurses := true, apart := false, narrowed := true }
def OnnxSkipsUptoSaid : Prop := onnxSkipsUptoRow.holds Tryz.pinned (OpenSpec.upto onnxSkipsSpec)

end Rows
end Go.Proofs.YtmdlaahdgjegcaaGreat
