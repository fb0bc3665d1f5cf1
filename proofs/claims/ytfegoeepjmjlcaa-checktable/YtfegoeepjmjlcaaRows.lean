/-
  No cell of these rows narrows 'for every input' (looked for: loops, veiled, ifaces, maps, wideKeys, modest, calm, conditions, laid).
  DERIVED. THE GIVEN ROWS OF THIS SEAT. 7 by the template 'for every input the law returns true; each argument reads behind the call as it read before'; 0 by the template 'total and deterministic' (their statements: YtfegoeepjmjlcaaTotals.lean).
  GIVEN WITH THE SEED: the statements are not yours to turn. If you find one false, say at which input.
  Laid BY PROGRAM, IN A SANDBOX (cutbox-rows.mjs): the forced cells as the released guide's own fill.sh prints them over the translation c88290666232ce7c… (all of the seat's roots in one cut). By AI agents, Wed Nov 11 2026. No macro, syntax, notation, axiom, sorry.
-/
import Derived.Test.YtfegoeepjmjlcaaChecked
import GoSem.Claim
import GoSem.ClaimJoined
import GoSem.ClaimMapViews
import Derived.JoinedTies
import Derived.KernelRfl
namespace Go.Proofs.Ytfegoeepjmjlcaa
/- THE CELL 'sum', in the pinned program and in every row, IS THE sha256 OF THE DUMP (.gsa) THAT YtfegoeepjmjlcaaProg.lean LOADS. Nothing in Lean hashes anything: it is a label: what it is worth is what the hold of that sum in a sandbox is worth. -/
noncomputable def Try.pinned : Pinned := { name := "ytfegoeepjmjlcaa", sum := "c88290666232ce7ce115b362f0ecfa2f602ad0ebf350d69f04c139acbd2ea24f", checked := Try.checked }
namespace Rows
def none {H : Type} : Left H := { results := [], args := [] }

/-- 'tephralaw02.CheckTable': WHATEVER THE INPUT: true; the input reads as it did. -/
def checkTableSpec : ChangeSpec := { name := "checkTable", fn := fun _ => fun
  | [d1, d2] => { results := [.lit (.bool true)], args := [d1, d2] }
  | _ => none }
def checkTableRow : OpenClaim := { program := "ytfegoeepjmjlcaa", sum := "c88290666232ce7ce115b362f0ecfa2f602ad0ebf350d69f04c139acbd2ea24f", func := "tephra/tephralaw02.CheckTable", spec := "checkTable", apart := false }
def CheckTableSaid : Prop := checkTableRow.holds Try.pinned (OpenSpec.ofChange checkTableSpec)

/-- ITS FALSE NEIGHBOUR: 'it returns false'. Refute it at one input. -/
def checkTableWrong : ChangeSpec := { name := "checkTable", fn := fun _ => fun
  | [d1, d2] => { results := [.lit (.bool false)], args := [d1, d2] }
  | _ => none }
def CheckTableWrongFalsely : Prop := checkTableRow.holds Try.pinned (OpenSpec.ofChange checkTableWrong)

/-- 'tephralaw02.CheckSum': WHATEVER THE INPUT: true; the input reads as it did. -/
def checkSumSpec : ChangeSpec := { name := "checkSum", fn := fun _ => fun
  | [d1, d2] => { results := [.lit (.bool true)], args := [d1, d2] }
  | _ => none }
def checkSumRow : OpenClaim := { program := "ytfegoeepjmjlcaa", sum := "c88290666232ce7ce115b362f0ecfa2f602ad0ebf350d69f04c139acbd2ea24f", func := "tephra/tephralaw02.CheckSum", spec := "checkSum", apart := false }
def CheckSumSaid : Prop := checkSumRow.holds Try.pinned (OpenSpec.ofChange checkSumSpec)

/-- ITS FALSE NEIGHBOUR: 'it returns false'. Refute it at one input. -/
def checkSumWrong : ChangeSpec := { name := "checkSum", fn := fun _ => fun
  | [d1, d2] => { results := [.lit (.bool false)], args := [d1, d2] }
  | _ => none }
def CheckSumWrongFalsely : Prop := checkSumRow.holds Try.pinned (OpenSpec.ofChange checkSumWrong)

/-- 'tephralaw02.CheckOne': WHATEVER THE INPUT: true; the input reads as it did. -/
def checkOneSpec : ChangeSpec := { name := "checkOne", fn := fun _ => fun
  | [d1, d2, d3] => { results := [.lit (.bool true)], args := [d1, d2, d3] }
  | _ => none }
def checkOneRow : OpenClaim := { program := "ytfegoeepjmjlcaa", sum := "c88290666232ce7ce115b362f0ecfa2f602ad0ebf350d69f04c139acbd2ea24f", func := "tephra/tephralaw02.CheckOne", spec := "checkOne", apart := false }
def CheckOneSaid : Prop := checkOneRow.holds Try.pinned (OpenSpec.ofChange checkOneSpec)

/-- ITS FALSE NEIGHBOUR: 'it returns false'. Refute it at one input. -/
def checkOneWrong : ChangeSpec := { name := "checkOne", fn := fun _ => fun
  | [d1, d2, d3] => { results := [.lit (.bool false)], args := [d1, d2, d3] }
  | _ => none }
def CheckOneWrongFalsely : Prop := checkOneRow.holds Try.pinned (OpenSpec.ofChange checkOneWrong)

/-- 'tephralaw02.CheckBurst': WHATEVER THE INPUT: true; the input reads as it did. -/
def checkBurstSpec : ChangeSpec := { name := "checkBurst", fn := fun _ => fun
  | [d1, d2, d3] => { results := [.lit (.bool true)], args := [d1, d2, d3] }
  | _ => none }
def checkBurstRow : OpenClaim := { program := "ytfegoeepjmjlcaa", sum := "c88290666232ce7ce115b362f0ecfa2f602ad0ebf350d69f04c139acbd2ea24f", func := "tephra/tephralaw02.CheckBurst", spec := "checkBurst", apart := false }
def CheckBurstSaid : Prop := checkBurstRow.holds Try.pinned (OpenSpec.ofChange checkBurstSpec)

/-- ITS FALSE NEIGHBOUR: 'it returns false'. Refute it at one input. -/
def checkBurstWrong : ChangeSpec := { name := "checkBurst", fn := fun _ => fun
  | [d1, d2, d3] => { results := [.lit (.bool false)], args := [d1, d2, d3] }
  | _ => none }
def CheckBurstWrongFalsely : Prop := checkBurstRow.holds Try.pinned (OpenSpec.ofChange checkBurstWrong)

/-- 'tephralaw02.CheckThree': WHATEVER THE INPUT: true; the input reads as it did. -/
def checkThreeSpec : ChangeSpec := { name := "checkThree", fn := fun _ => fun
  | [d1, d2, d3] => { results := [.lit (.bool true)], args := [d1, d2, d3] }
  | _ => none }
def checkThreeRow : OpenClaim := { program := "ytfegoeepjmjlcaa", sum := "c88290666232ce7ce115b362f0ecfa2f602ad0ebf350d69f04c139acbd2ea24f", func := "tephra/tephralaw02.CheckThree", spec := "checkThree", apart := false }
def CheckThreeSaid : Prop := checkThreeRow.holds Try.pinned (OpenSpec.ofChange checkThreeSpec)

/-- ITS FALSE NEIGHBOUR: 'it returns false'. Refute it at one input. -/
def checkThreeWrong : ChangeSpec := { name := "checkThree", fn := fun _ => fun
  | [d1, d2, d3] => { results := [.lit (.bool false)], args := [d1, d2, d3] }
  | _ => none }
def CheckThreeWrongFalsely : Prop := checkThreeRow.holds Try.pinned (OpenSpec.ofChange checkThreeWrong)

/-- 'tephralaw02.CheckPoly': WHATEVER THE INPUT: true; the input reads as it did. -/
def checkPolySpec : ChangeSpec := { name := "checkPoly", fn := fun _ => fun
  | [d1, d2, d3] => { results := [.lit (.bool true)], args := [d1, d2, d3] }
  | _ => none }
def checkPolyRow : OpenClaim := { program := "ytfegoeepjmjlcaa", sum := "c88290666232ce7ce115b362f0ecfa2f602ad0ebf350d69f04c139acbd2ea24f", func := "tephra/tephralaw02.CheckPoly", spec := "checkPoly", apart := false }
def CheckPolySaid : Prop := checkPolyRow.holds Try.pinned (OpenSpec.ofChange checkPolySpec)

/-- ITS FALSE NEIGHBOUR: 'it returns false'. Refute it at one input. -/
def checkPolyWrong : ChangeSpec := { name := "checkPoly", fn := fun _ => fun
  | [d1, d2, d3] => { results := [.lit (.bool false)], args := [d1, d2, d3] }
  | _ => none }
def CheckPolyWrongFalsely : Prop := checkPolyRow.holds Try.pinned (OpenSpec.ofChange checkPolyWrong)

/-- 'tephralaw02.CheckTables': WHATEVER THE INPUT: true; the input reads as it did. -/
def checkTablesSpec : ChangeSpec := { name := "checkTables", fn := fun _ => fun
  | [d1, d2, d3] => { results := [.lit (.bool true)], args := [d1, d2, d3] }
  | _ => none }
def checkTablesRow : OpenClaim := { program := "ytfegoeepjmjlcaa", sum := "c88290666232ce7ce115b362f0ecfa2f602ad0ebf350d69f04c139acbd2ea24f", func := "tephra/tephralaw02.CheckTables", spec := "checkTables", apart := false }
def CheckTablesSaid : Prop := checkTablesRow.holds Try.pinned (OpenSpec.ofChange checkTablesSpec)

/-- ITS FALSE NEIGHBOUR: 'it returns false'. Refute it at one input. -/
def checkTablesWrong : ChangeSpec := { name := "checkTables", fn := fun _ => fun
  | [d1, d2, d3] => { results := [.lit (.bool false)], args := [d1, d2, d3] }
  | _ => none }
def CheckTablesWrongFalsely : Prop := checkTablesRow.holds Try.pinned (OpenSpec.ofChange checkTablesWrong)

/- THE SECOND FORM. 'bulk': how many values and letters a reading holds, each counted each time it is reached (what is shared counts as often as it is met; a slice's spare places count too). A statement '..UptoSaid' is the law's where the arguments, and the package variables that the reading takes, are together of bulk at most 1048576: NARROWER than '..Said'. Prove '..Said' where nothing that the law and all that it calls make is longer than what came in: it says more and counts as full. Else prove '..UptoSaid'. A law counts once. -/
mutual
def uptoBulk {H : Type} : DataW H → Nat
  | .lit (.string bytes) => bytes.length + 1
  | .lit _ => 1
  | .nil => 1
  | .ptr d => uptoBulk d + 1
  | .slice elems spare => uptoBulkAll elems + uptoBulkAll spare + 1
  | .agg parts => uptoBulkAll parts + 1
  | .iface _ d => uptoBulk d + 1
  | .map entries => uptoBulkEntries entries + 1
  | .held _ => 1
def uptoBulkAll {H : Type} : List (DataW H) → Nat
  | [] => 0
  | d :: r => uptoBulk d + uptoBulkAll r
def uptoBulkEntries {H : Type} : List (Lit × DataW H) → Nat
  | [] => 0
  | x :: r => uptoBulkEntry x + uptoBulkEntries r
def uptoBulkEntry {H : Type} : Lit × DataW H → Nat
  | (.string bytes, d) => bytes.length + uptoBulk d + 1
  | (_, d) => uptoBulk d + 1
 end
def uptoSmall : (H : Type) → List (DataW H) → Bool := fun _ ds => decide (uptoBulkAll ds ≤ 1048576)
def OpenSpec.upto (s : _root_.Go.ChangeSpec) : _root_.Go.OpenSpec := { _root_.Go.OpenSpec.ofChange s with cond := some uptoSmall }

/-- 'tephralaw02.CheckTable', WHERE WHAT IT READS IS OF BULK AT MOST 1048576: true; the input reads as it did. -/
def checkTableUptoRow : OpenClaim := { program := "ytfegoeepjmjlcaa", sum := "c88290666232ce7ce115b362f0ecfa2f602ad0ebf350d69f04c139acbd2ea24f", func := "tephra/tephralaw02.CheckTable", spec := "checkTable", apart := false, narrowed := true }
def CheckTableUptoSaid : Prop := checkTableUptoRow.holds Try.pinned (OpenSpec.upto checkTableSpec)

/-- 'tephralaw02.CheckSum', WHERE WHAT IT READS IS OF BULK AT MOST 1048576: true; the input reads as it did. -/
def checkSumUptoRow : OpenClaim := { program := "ytfegoeepjmjlcaa", sum := "c88290666232ce7ce115b362f0ecfa2f602ad0ebf350d69f04c139acbd2ea24f", func := "tephra/tephralaw02.CheckSum", spec := "checkSum", apart := false, narrowed := true }
def CheckSumUptoSaid : Prop := checkSumUptoRow.holds Try.pinned (OpenSpec.upto checkSumSpec)

/-- 'tephralaw02.CheckOne', WHERE WHAT IT READS IS OF BULK AT MOST 1048576: true; the input reads as it did. -/
def checkOneUptoRow : OpenClaim := { program := "ytfegoeepjmjlcaa", sum := "c88290666232ce7ce115b362f0ecfa2f602ad0ebf350d69f04c139acbd2ea24f", func := "tephra/tephralaw02.CheckOne", spec := "checkOne", apart := false, narrowed := true }
def CheckOneUptoSaid : Prop := checkOneUptoRow.holds Try.pinned (OpenSpec.upto checkOneSpec)

/-- 'tephralaw02.CheckBurst', WHERE WHAT IT READS IS OF BULK AT MOST 1048576: true; the input reads as it did. -/
def checkBurstUptoRow : OpenClaim := { program := "ytfegoeepjmjlcaa", sum := "c88290666232ce7ce115b362f0ecfa2f602ad0ebf350d69f04c139acbd2ea24f", func := "tephra/tephralaw02.CheckBurst", spec := "checkBurst", apart := false, narrowed := true }
def CheckBurstUptoSaid : Prop := checkBurstUptoRow.holds Try.pinned (OpenSpec.upto checkBurstSpec)

/-- 'tephralaw02.CheckThree', WHERE WHAT IT READS IS OF BULK AT MOST 1048576: true; the input reads as it did. -/
def checkThreeUptoRow : OpenClaim := { program := "ytfegoeepjmjlcaa", sum := "c88290666232ce7ce115b362f0ecfa2f602ad0ebf350d69f04c139acbd2ea24f", func := "tephra/tephralaw02.CheckThree", spec := "checkThree", apart := false, narrowed := true }
def CheckThreeUptoSaid : Prop := checkThreeUptoRow.holds Try.pinned (OpenSpec.upto checkThreeSpec)

/-- 'tephralaw02.CheckPoly', WHERE WHAT IT READS IS OF BULK AT MOST 1048576: true; the input reads as it did. -/
def checkPolyUptoRow : OpenClaim := { program := "ytfegoeepjmjlcaa", sum := "c88290666232ce7ce115b362f0ecfa2f602ad0ebf350d69f04c139acbd2ea24f", func := "tephra/tephralaw02.CheckPoly", spec := "checkPoly", apart := false, narrowed := true }
def CheckPolyUptoSaid : Prop := checkPolyUptoRow.holds Try.pinned (OpenSpec.upto checkPolySpec)

/-- 'tephralaw02.CheckTables', WHERE WHAT IT READS IS OF BULK AT MOST 1048576: true; the input reads as it did. -/
def checkTablesUptoRow : OpenClaim := { program := "ytfegoeepjmjlcaa", sum := "c88290666232ce7ce115b362f0ecfa2f602ad0ebf350d69f04c139acbd2ea24f", func := "tephra/tephralaw02.CheckTables", spec := "checkTables", apart := false, narrowed := true }
def CheckTablesUptoSaid : Prop := checkTablesUptoRow.holds Try.pinned (OpenSpec.upto checkTablesSpec)

end Rows
end Go.Proofs.Ytfegoeepjmjlcaa
