/-
  No cell of these rows narrows 'for every input' (looked for: loops, veiled, ifaces, maps, wideKeys, modest, calm, conditions, laid).
  DERIVED. THE GIVEN ROWS OF THIS SEAT. 6 by the template 'for every input the law returns true; each argument reads behind the call as it read before'; 0 by the template 'total and deterministic' (their statements: YtekgmgiokmbliaaTotals.lean).
  GIVEN WITH THE SEED: the statements are not yours to turn. If you find one false, say at which input.
  Laid BY PROGRAM, IN A SANDBOX (cutbox-rows.mjs): the forced cells as the released guide's own fill.sh prints them over the translation 623a9514542af7ee… (all of the seat's roots in one cut). By AI agents, Wed Nov 11 2026. No macro, syntax, notation, axiom, sorry.
-/
import Derived.Test.YtekgmgiokmbliaaChecked
import GoSem.Claim
import GoSem.ClaimJoined
import GoSem.ClaimMapViews
import Derived.JoinedTies
import Derived.KernelRfl
namespace Go.Proofs.Ytekgmgiokmbliaa
/- THE CELL 'sum', in the pinned program and in every row, IS THE sha256 OF THE DUMP (.gsa) THAT YtekgmgiokmbliaaProg.lean LOADS. Nothing in Lean hashes anything: it is a label: what it is worth is what the hold of that sum in a sandbox is worth. -/
noncomputable def Try.pinned : Pinned := { name := "ytekgmgiokmbliaa", sum := "623a9514542af7ee842125293dba340229a029a7096861905dd402cd2ab639a7", checked := Try.checked }
namespace Rows
def none {H : Type} : Left H := { results := [], args := [] }

/-- 'cormorantlaw09.SimnetScripts': WHATEVER THE INPUT: true; the input reads as it did. -/
def simnetScriptsSpec : ChangeSpec := { name := "simnetScripts", fn := fun _ => fun
  | [d] => { results := [.lit (.bool true)], args := [d] }
  | _ => none }
def simnetScriptsRow : OpenClaim := { program := "ytekgmgiokmbliaa", sum := "623a9514542af7ee842125293dba340229a029a7096861905dd402cd2ab639a7", func := "cormorant/cormorantlaw09.SimnetScripts", spec := "simnetScripts", unfollowed := true, recurses := true, apart := false }
def SimnetScriptsSaid : Prop := simnetScriptsRow.holds Try.pinned (OpenSpec.ofChange simnetScriptsSpec)

/-- ITS FALSE NEIGHBOUR: 'it returns false'. Refute it at one input. -/
def simnetScriptsWrong : ChangeSpec := { name := "simnetScripts", fn := fun _ => fun
  | [d] => { results := [.lit (.bool false)], args := [d] }
  | _ => none }
def SimnetScriptsWrongFalsely : Prop := simnetScriptsRow.holds Try.pinned (OpenSpec.ofChange simnetScriptsWrong)

/-- 'cormorantlaw09.SimnetFull': WHATEVER THE INPUT: true; the input reads as it did. -/
def simnetFullSpec : ChangeSpec := { name := "simnetFull", fn := fun _ => fun
  | [d] => { results := [.lit (.bool true)], args := [d] }
  | _ => none }
def simnetFullRow : OpenClaim := { program := "ytekgmgiokmbliaa", sum := "623a9514542af7ee842125293dba340229a029a7096861905dd402cd2ab639a7", func := "cormorant/cormorantlaw09.SimnetFull", spec := "simnetFull", unfollowed := true, recurses := true, apart := false }
def SimnetFullSaid : Prop := simnetFullRow.holds Try.pinned (OpenSpec.ofChange simnetFullSpec)

/-- ITS FALSE NEIGHBOUR: 'it returns false'. Refute it at one input. -/
def simnetFullWrong : ChangeSpec := { name := "simnetFull", fn := fun _ => fun
  | [d] => { results := [.lit (.bool false)], args := [d] }
  | _ => none }
def SimnetFullWrongFalsely : Prop := simnetFullRow.holds Try.pinned (OpenSpec.ofChange simnetFullWrong)

/-- 'cormorantlaw09.SimnetOnce': WHATEVER THE INPUT: true; the input reads as it did. -/
def simnetOnceSpec : ChangeSpec := { name := "simnetOnce", fn := fun _ => fun
  | [d] => { results := [.lit (.bool true)], args := [d] }
  | _ => none }
def simnetOnceRow : OpenClaim := { program := "ytekgmgiokmbliaa", sum := "623a9514542af7ee842125293dba340229a029a7096861905dd402cd2ab639a7", func := "cormorant/cormorantlaw09.SimnetOnce", spec := "simnetOnce", unfollowed := true, recurses := true, apart := false }
def SimnetOnceSaid : Prop := simnetOnceRow.holds Try.pinned (OpenSpec.ofChange simnetOnceSpec)

/-- ITS FALSE NEIGHBOUR: 'it returns false'. Refute it at one input. -/
def simnetOnceWrong : ChangeSpec := { name := "simnetOnce", fn := fun _ => fun
  | [d] => { results := [.lit (.bool false)], args := [d] }
  | _ => none }
def SimnetOnceWrongFalsely : Prop := simnetOnceRow.holds Try.pinned (OpenSpec.ofChange simnetOnceWrong)

/-- 'cormorantlaw09.SimnetWrites': WHATEVER THE INPUT: true; the input reads as it did. -/
def simnetWritesSpec : ChangeSpec := { name := "simnetWrites", fn := fun _ => fun
  | [d] => { results := [.lit (.bool true)], args := [d] }
  | _ => none }
def simnetWritesRow : OpenClaim := { program := "ytekgmgiokmbliaa", sum := "623a9514542af7ee842125293dba340229a029a7096861905dd402cd2ab639a7", func := "cormorant/cormorantlaw09.SimnetWrites", spec := "simnetWrites", apart := false }
def SimnetWritesSaid : Prop := simnetWritesRow.holds Try.pinned (OpenSpec.ofChange simnetWritesSpec)

/-- ITS FALSE NEIGHBOUR: 'it returns false'. Refute it at one input. -/
def simnetWritesWrong : ChangeSpec := { name := "simnetWrites", fn := fun _ => fun
  | [d] => { results := [.lit (.bool false)], args := [d] }
  | _ => none }
def SimnetWritesWrongFalsely : Prop := simnetWritesRow.holds Try.pinned (OpenSpec.ofChange simnetWritesWrong)

/-- 'cormorantlaw09.SimnetReads': WHATEVER THE INPUT: true; the input reads as it did. -/
def simnetReadsSpec : ChangeSpec := { name := "simnetReads", fn := fun _ => fun
  | [d] => { results := [.lit (.bool true)], args := [d] }
  | _ => none }
def simnetReadsRow : OpenClaim := { program := "ytekgmgiokmbliaa", sum := "623a9514542af7ee842125293dba340229a029a7096861905dd402cd2ab639a7", func := "cormorant/cormorantlaw09.SimnetReads", spec := "simnetReads", apart := false }
def SimnetReadsSaid : Prop := simnetReadsRow.holds Try.pinned (OpenSpec.ofChange simnetReadsSpec)

/-- ITS FALSE NEIGHBOUR: 'it returns false'. Refute it at one input. -/
def simnetReadsWrong : ChangeSpec := { name := "simnetReads", fn := fun _ => fun
  | [d] => { results := [.lit (.bool false)], args := [d] }
  | _ => none }
def SimnetReadsWrongFalsely : Prop := simnetReadsRow.holds Try.pinned (OpenSpec.ofChange simnetReadsWrong)

/-- 'cormorantlaw09.SimnetThere': WHATEVER THE INPUT: true; the input reads as it did. -/
def simnetThereSpec : ChangeSpec := { name := "simnetThere", fn := fun _ => fun
  | [d1, d2, d3] => { results := [.lit (.bool true)], args := [d1, d2, d3] }
  | _ => none }
def simnetThereRow : OpenClaim := { program := "ytekgmgiokmbliaa", sum := "623a9514542af7ee842125293dba340229a029a7096861905dd402cd2ab639a7", func := "cormorant/cormorantlaw09.SimnetThere", spec := "simnetThere", apart := false }
def SimnetThereSaid : Prop := simnetThereRow.holds Try.pinned (OpenSpec.ofChange simnetThereSpec)

/-- ITS FALSE NEIGHBOUR: 'it returns false'. Refute it at one input. -/
def simnetThereWrong : ChangeSpec := { name := "simnetThere", fn := fun _ => fun
  | [d1, d2, d3] => { results := [.lit (.bool false)], args := [d1, d2, d3] }
  | _ => none }
def SimnetThereWrongFalsely : Prop := simnetThereRow.holds Try.pinned (OpenSpec.ofChange simnetThereWrong)

/- THE SECOND FORM. 'bulk': how many values and letters a reading holds, each counted each time it is reached (what is shared counts as often as it is met; a slice's spare places count too). A statement '..UptoSaid' is the law's where the arguments, and the package variables that the reading takes, are together of bulk at most 1048576: NARROWER than '..Said'. Prove '..Said' where nothing that the law and all that it calls make is longer than what came in: it says more and counts as full. Else prove '..UptoSaid'. A law counts once. -/
mutual
def uptoBulk {H : Type} : DataW H → Nat
  | .lit (.string bytes) => bytes.length + 1
  | .lit _ => 1
  | .nil => 1
  | .ptr d => uptoBulk d + 1
  | .slice elems spare => uptoBulkAll elems + uptoBulkAll spare + 1
  | .agg parts => uptoBulkAll parts + 1
  | .iface _ d => uptoBulk d + 1
  | .map entries => uptoBulkEntries entries + 1
  | .held _ => 1
def uptoBulkAll {H : Type} : List (DataW H) → Nat
  | [] => 0
  | d :: r => uptoBulk d + uptoBulkAll r
def uptoBulkEntries {H : Type} : List (Lit × DataW H) → Nat
  | [] => 0
  | x :: r => uptoBulkEntry x + uptoBulkEntries r
def uptoBulkEntry {H : Type} : Lit × DataW H → Nat
  | (.string bytes, d) => bytes.length + uptoBulk d + 1
  | (_, d) => uptoBulk d + 1
 end
def uptoSmall : (H : Type) → List (DataW H) → Bool := fun _ ds => decide (uptoBulkAll ds ≤ 1048576)
def OpenSpec.upto (s : _root_.Go.ChangeSpec) : _root_.Go.OpenSpec := { _root_.Go.OpenSpec.ofChange s with cond := some uptoSmall }

/-- 'cormorantlaw09.SimnetScripts', WHERE WHAT IT READS IS OF BULK AT MOST 1048576: true; the input reads as it did. -/
def simnetScriptsUptoRow : OpenClaim := { program := "ytekgmgiokmbliaa", sum := "623a9514542af7ee842125293dba340229a029a7096861905dd402cd2ab639a7", func := "cormorant/cormorantlaw09.SimnetScripts", spec := "simnetScripts", unfollowed := true, recurses := true, apart := false, narrowed := true }
def SimnetScriptsUptoSaid : Prop := simnetScriptsUptoRow.holds Try.pinned (OpenSpec.upto simnetScriptsSpec)

/-- 'cormorantlaw09.SimnetFull', WHERE WHAT IT READS IS OF BULK AT MOST 1048576: true; the input reads as it did. -/
def simnetFullUptoRow : OpenClaim := { program := "ytekgmgiokmbliaa", sum := "623a9514542af7ee842125293dba340229a029a7096861905dd402cd2ab639a7", func := "cormorant/cormorantlaw09.SimnetFull", spec := "simnetFull", unfollowed := true, recurses := true, apart := false, narrowed := true }
def SimnetFullUptoSaid : Prop := simnetFullUptoRow.holds Try.pinned (OpenSpec.upto simnetFullSpec)

/-- 'cormorantlaw09.SimnetOnce', WHERE WHAT IT READS IS OF BULK AT MOST 1048576: true; the input reads as it did. -/
def simnetOnceUptoRow : OpenClaim := { program := "ytekgmgiokmbliaa", sum := "623a9514542af7ee842125293dba340229a029a7096861905dd402cd2ab639a7", func := "cormorant/cormorantlaw09.SimnetOnce", spec := "simnetOnce", unfollowed := true, recurses := true, apart := false, narrowed := true }
def SimnetOnceUptoSaid : Prop := simnetOnceUptoRow.holds Try.pinned (OpenSpec.upto simnetOnceSpec)

/-- 'cormorantlaw09.SimnetWrites', WHERE WHAT IT READS IS OF BULK AT MOST 1048576: true; the input reads as it did. -/
def simnetWritesUptoRow : OpenClaim := { program := "ytekgmgiokmbliaa", sum := "623a9514542af7ee842125293dba340229a029a7096861905dd402cd2ab639a7", func := "cormorant/cormorantlaw09.SimnetWrites", spec := "simnetWrites", apart := false, narrowed := true }
def SimnetWritesUptoSaid : Prop := simnetWritesUptoRow.holds Try.pinned (OpenSpec.upto simnetWritesSpec)

/-- 'cormorantlaw09.SimnetReads', WHERE WHAT IT READS IS OF BULK AT MOST 1048576: true; the input reads as it did. -/
def simnetReadsUptoRow : OpenClaim := { program := "ytekgmgiokmbliaa", sum := "623a9514542af7ee842125293dba340229a029a7096861905dd402cd2ab639a7", func := "cormorant/cormorantlaw09.SimnetReads", spec := "simnetReads", apart := false, narrowed := true }
def SimnetReadsUptoSaid : Prop := simnetReadsUptoRow.holds Try.pinned (OpenSpec.upto simnetReadsSpec)

/-- 'cormorantlaw09.SimnetThere', WHERE WHAT IT READS IS OF BULK AT MOST 1048576: true; the input reads as it did. -/
def simnetThereUptoRow : OpenClaim := { program := "ytekgmgiokmbliaa", sum := "623a9514542af7ee842125293dba340229a029a7096861905dd402cd2ab639a7", func := "cormorant/cormorantlaw09.SimnetThere", spec := "simnetThere", apart := false, narrowed := true }
def SimnetThereUptoSaid : Prop := simnetThereUptoRow.holds Try.pinned (OpenSpec.upto simnetThereSpec)

end Rows
end Go.Proofs.Ytekgmgiokmbliaa
