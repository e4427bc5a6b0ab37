/-
  No cell of these rows narrows 'for every input' (looked for: loops, veiled, ifaces, maps, wideKeys, modest, calm, conditions, laid).
  DERIVED. THE GIVEN ROWS OF THIS SEAT. 5 by the template 'for every input the law returns true; each argument reads behind the call as it read before'; 0 by the template 'total and deterministic' (their statements: YtkpmfkkfcikfhaaTotals.lean).
  GIVEN WITH THE SEED: the statements are not yours to turn. If you find one false, say at which input.
  Laid BY PROGRAM, IN A SANDBOX (cutbox-rows.mjs): the forced cells as the released guide's own fill.sh prints them over the translation 68d6454e52047121… (all of the seat's roots in one cut). By AI agents, Wed Nov 11 2026. No macro, syntax, notation, axiom, sorry.
-/
import Derived.Test.YtkpmfkkfcikfhaaChecked
import GoSem.Claim
import GoSem.ClaimJoined
import GoSem.ClaimMapViews
import Derived.JoinedTies
import Derived.KernelRfl
namespace Go.Proofs.Ytkpmfkkfcikfhaa
/- THE CELL 'sum', in the pinned program and in every row, IS THE sha256 OF THE DUMP (.gsa) THAT YtkpmfkkfcikfhaaProg.lean LOADS. Nothing in Lean hashes anything: it is a label: what it is worth is what the hold of that sum in a sandbox is worth. -/
noncomputable def Try.pinned : Pinned := { name := "ytkpmfkkfcikfhaa", sum := "68d6454e520471210060ddbaa4efc9fbaf2a4eed64636360aa18b086447bda80", checked := Try.checked }
namespace Rows
def none {H : Type} : Left H := { results := [], args := [] }

/-- 'latticelaw08.OpsNames': WHATEVER THE INPUT: true; the input reads as it did. -/
def opsNamesSpec : ChangeSpec := { name := "opsNames", fn := fun _ => fun
  | [d1, d2] => { results := [.lit (.bool true)], args := [d1, d2] }
  | _ => none }
def opsNamesRow : OpenClaim := { program := "ytkpmfkkfcikfhaa", sum := "68d6454e520471210060ddbaa4efc9fbaf2a4eed64636360aa18b086447bda80", func := "lattice/latticelaw08.OpsNames", spec := "opsNames", unfollowed := true, recurses := true, apart := false }
def OpsNamesSaid : Prop := opsNamesRow.holds Try.pinned (OpenSpec.ofChange opsNamesSpec)

/-- ITS FALSE NEIGHBOUR: 'it returns false'. Refute it at one input. -/
def opsNamesWrong : ChangeSpec := { name := "opsNames", fn := fun _ => fun
  | [d1, d2] => { results := [.lit (.bool false)], args := [d1, d2] }
  | _ => none }
def OpsNamesWrongFalsely : Prop := opsNamesRow.holds Try.pinned (OpenSpec.ofChange opsNamesWrong)

/-- 'latticelaw08.OpsResolves': WHATEVER THE INPUT: true; the input reads as it did. -/
def opsResolvesSpec : ChangeSpec := { name := "opsResolves", fn := fun _ => fun
  | [d] => { results := [.lit (.bool true)], args := [d] }
  | _ => none }
def opsResolvesRow : OpenClaim := { program := "ytkpmfkkfcikfhaa", sum := "68d6454e520471210060ddbaa4efc9fbaf2a4eed64636360aa18b086447bda80", func := "lattice/latticelaw08.OpsResolves", spec := "opsResolves", unfollowed := true, recurses := true, apart := false }
def OpsResolvesSaid : Prop := opsResolvesRow.holds Try.pinned (OpenSpec.ofChange opsResolvesSpec)

/-- ITS FALSE NEIGHBOUR: 'it returns false'. Refute it at one input. -/
def opsResolvesWrong : ChangeSpec := { name := "opsResolves", fn := fun _ => fun
  | [d] => { results := [.lit (.bool false)], args := [d] }
  | _ => none }
def OpsResolvesWrongFalsely : Prop := opsResolvesRow.holds Try.pinned (OpenSpec.ofChange opsResolvesWrong)

/-- 'latticelaw08.OpsOrder': WHATEVER THE INPUT: true; the input reads as it did. -/
def opsOrderSpec : ChangeSpec := { name := "opsOrder", fn := fun _ => fun
  | [d1, d2] => { results := [.lit (.bool true)], args := [d1, d2] }
  | _ => none }
def opsOrderRow : OpenClaim := { program := "ytkpmfkkfcikfhaa", sum := "68d6454e520471210060ddbaa4efc9fbaf2a4eed64636360aa18b086447bda80", func := "lattice/latticelaw08.OpsOrder", spec := "opsOrder", unfollowed := true, recurses := true, apart := false }
def OpsOrderSaid : Prop := opsOrderRow.holds Try.pinned (OpenSpec.ofChange opsOrderSpec)

/-- ITS FALSE NEIGHBOUR: 'it returns false'. Refute it at one input. -/
def opsOrderWrong : ChangeSpec := { name := "opsOrder", fn := fun _ => fun
  | [d1, d2] => { results := [.lit (.bool false)], args := [d1, d2] }
  | _ => none }
def OpsOrderWrongFalsely : Prop := opsOrderRow.holds Try.pinned (OpenSpec.ofChange opsOrderWrong)

/-- 'latticelaw08.OpsLess': WHATEVER THE INPUT: true; the input reads as it did. -/
def opsLessSpec : ChangeSpec := { name := "opsLess", fn := fun _ => fun
  | [d1, d2] => { results := [.lit (.bool true)], args := [d1, d2] }
  | _ => none }
def opsLessRow : OpenClaim := { program := "ytkpmfkkfcikfhaa", sum := "68d6454e520471210060ddbaa4efc9fbaf2a4eed64636360aa18b086447bda80", func := "lattice/latticelaw08.OpsLess", spec := "opsLess", unfollowed := true, recurses := true, apart := false }
def OpsLessSaid : Prop := opsLessRow.holds Try.pinned (OpenSpec.ofChange opsLessSpec)

/-- ITS FALSE NEIGHBOUR: 'it returns false'. Refute it at one input. -/
def opsLessWrong : ChangeSpec := { name := "opsLess", fn := fun _ => fun
  | [d1, d2] => { results := [.lit (.bool false)], args := [d1, d2] }
  | _ => none }
def OpsLessWrongFalsely : Prop := opsLessRow.holds Try.pinned (OpenSpec.ofChange opsLessWrong)

/-- 'latticelaw08.OpsDefaults': WHATEVER THE INPUT: true; the input reads as it did. -/
def opsDefaultsSpec : ChangeSpec := { name := "opsDefaults", fn := fun _ => fun
  | [d1, d2] => { results := [.lit (.bool true)], args := [d1, d2] }
  | _ => none }
def opsDefaultsRow : OpenClaim := { program := "ytkpmfkkfcikfhaa", sum := "68d6454e520471210060ddbaa4efc9fbaf2a4eed64636360aa18b086447bda80", func := "lattice/latticelaw08.OpsDefaults", spec := "opsDefaults", unfollowed := true, recurses := true, apart := false }
def OpsDefaultsSaid : Prop := opsDefaultsRow.holds Try.pinned (OpenSpec.ofChange opsDefaultsSpec)

/-- ITS FALSE NEIGHBOUR: 'it returns false'. Refute it at one input. -/
def opsDefaultsWrong : ChangeSpec := { name := "opsDefaults", fn := fun _ => fun
  | [d1, d2] => { results := [.lit (.bool false)], args := [d1, d2] }
  | _ => none }
def OpsDefaultsWrongFalsely : Prop := opsDefaultsRow.holds Try.pinned (OpenSpec.ofChange opsDefaultsWrong)

/- THE SECOND FORM. 'bulk': how many values and letters a reading holds, each counted each time it is reached (what is shared counts as often as it is met; a slice's spare places count too). A statement '..UptoSaid' is the law's where the arguments, and the package variables that the reading takes, are together of bulk at most 1048576: NARROWER than '..Said'. Prove '..Said' where nothing that the law and all that it calls make is longer than what came in: it says more and counts as full. Else prove '..UptoSaid'. A law counts once. -/
mutual
def uptoBulk {H : Type} : DataW H → Nat
  | .lit (.string bytes) => bytes.length + 1
  | .lit _ => 1
  | .nil => 1
  | .ptr d => uptoBulk d + 1
  | .slice elems spare => uptoBulkAll elems + uptoBulkAll spare + 1
  | .agg parts => uptoBulkAll parts + 1
  | .iface _ d => uptoBulk d + 1
  | .map entries => uptoBulkEntries entries + 1
  | .held _ => 1
def uptoBulkAll {H : Type} : List (DataW H) → Nat
  | [] => 0
  | d :: r => uptoBulk d + uptoBulkAll r
def uptoBulkEntries {H : Type} : List (Lit × DataW H) → Nat
  | [] => 0
  | x :: r => uptoBulkEntry x + uptoBulkEntries r
def uptoBulkEntry {H : Type} : Lit × DataW H → Nat
  | (.string bytes, d) => bytes.length + uptoBulk d + 1
  | (_, d) => uptoBulk d + 1
 end
def uptoSmall : (H : Type) → List (DataW H) → Bool := fun _ ds => decide (uptoBulkAll ds ≤ 1048576)
def OpenSpec.upto (s : _root_.Go.ChangeSpec) : _root_.Go.OpenSpec := { _root_.Go.OpenSpec.ofChange s with cond := some uptoSmall }

/-- 'latticelaw08.OpsNames', WHERE WHAT IT READS IS OF BULK AT MOST 1048576: true; the input reads as it did. -/
def opsNamesUptoRow : OpenClaim := { program := "ytkpmfkkfcikfhaa", sum := "68d6454e520471210060ddbaa4efc9fbaf2a4eed64636360aa18b086447bda80", func := "lattice/latticelaw08.OpsNames", spec := "opsNames", unfollowed := true, recurses := true, apart := false, narrowed := true }
def OpsNamesUptoSaid : Prop := opsNamesUptoRow.holds Try.pinned (OpenSpec.upto opsNamesSpec)

/-- 'latticelaw08.OpsResolves', WHERE WHAT IT READS IS OF BULK AT MOST 1048576: true; the input reads as it did. -/
def opsResolvesUptoRow : OpenClaim := { program := "ytkpmfkkfcikfhaa", sum := "68d6454e520471210060ddbaa4efc9fbaf2a4eed64636360aa18b086447bda80", func := "lattice/latticelaw08.OpsResolves", spec := "opsResolves", unfollowed := true, recurses := true, apart := false, narrowed := true }
def OpsResolvesUptoSaid : Prop := opsResolvesUptoRow.holds Try.pinned (OpenSpec.upto opsResolvesSpec)

/-- 'latticelaw08.OpsOrder', WHERE WHAT IT READS IS OF BULK AT MOST 1048576: true; the input reads as it did. -/
def opsOrderUptoRow : OpenClaim := { program := "ytkpmfkkfcikfhaa", sum := "68d6454e520471210060ddbaa4efc9fbaf2a4eed64636360aa18b086447bda80", func := "lattice/latticelaw08.OpsOrder", spec := "opsOrder", unfollowed := true, recurses := true, apart := false, narrowed := true }
def OpsOrderUptoSaid : Prop := opsOrderUptoRow.holds Try.pinned (OpenSpec.upto opsOrderSpec)

/-- 'latticelaw08.OpsLess', WHERE WHAT IT READS IS OF BULK AT MOST 1048576: true; the input reads as it did. -/
def opsLessUptoRow : OpenClaim := { program := "ytkpmfkkfcikfhaa", sum := "68d6454e520471210060ddbaa4efc9fbaf2a4eed64636360aa18b086447bda80", func := "lattice/latticelaw08.OpsLess", spec := "opsLess", unfollowed := true, recurses := true, apart := false, narrowed := true }
def OpsLessUptoSaid : Prop := opsLessUptoRow.holds Try.pinned (OpenSpec.upto opsLessSpec)

/-- 'latticelaw08.OpsDefaults', WHERE WHAT IT READS IS OF BULK AT MOST 1048576: true; the input reads as it did. -/
def opsDefaultsUptoRow : OpenClaim := { program := "ytkpmfkkfcikfhaa", sum := "68d6454e520471210060ddbaa4efc9fbaf2a4eed64636360aa18b086447bda80", func := "lattice/latticelaw08.OpsDefaults", spec := "opsDefaults", unfollowed := true, recurses := true, apart := false, narrowed := true }
def OpsDefaultsUptoSaid : Prop := opsDefaultsUptoRow.holds Try.pinned (OpenSpec.upto opsDefaultsSpec)

end Rows
end Go.Proofs.Ytkpmfkkfcikfhaa
