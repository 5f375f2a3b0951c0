/-
  NARROWER THAN 'FOR EVERY INPUT', by the rows' own cells (each row's printed sentence says how): CodecNumbers: laid · CodecTakes: laid · CodecTexts: laid · CodecSums: laid · CodecFrames: laid · CodecKeys: laid · CodecCompares: laid · CodecOrder: laid · CodecTorn: laid · CodecTurned: laid.
  DERIVED. THE GIVEN ROWS OF THIS SEAT. 10 by the template 'for every input the law returns true; each argument reads behind the call as it read before'; 0 by the template 'total and deterministic' (their statements: YtaojflmbfigplaaDoorTotals.lean).
  GIVEN WITH THE SEED: the statements are not yours to turn. If you find one false, say at which input.
  Laid BY PROGRAM, IN A SANDBOX (cutbox-rows.mjs): the forced cells as the released guide's own fill.sh prints them over the translation f3962654e97a3085… (all of the seat's roots in one cut). By AI agents, Wed Nov 11 2026. No macro, syntax, notation, axiom, sorry.
-/
import Derived.Test.YtaojflmbfigplaaDoorChecked
import GoSem.Claim
import GoSem.ClaimJoined
import GoSem.ClaimMapViews
import Derived.JoinedTies
import Derived.KernelRfl
namespace Go.Proofs.YtaojflmbfigplaaDoor
/- THE CELL 'sum', in the pinned program and in every row, IS THE sha256 OF THE DUMP (.gsa) THAT YtaojflmbfigplaaDoorProg.lean LOADS. Nothing in Lean hashes anything: it is a label: what it is worth is what the hold of that sum in a sandbox is worth. -/
noncomputable def Tryd.pinned : Pinned := { name := "ytaojflmbfigplaadoor", sum := "f3962654e97a30854cf807797c6dc2d6f8b604cf24d6a0e0089969e7ffc5fdad", checked := Tryd.checked }
namespace Rows
def none {H : Type} : Left H := { results := [], args := [] }

/- WHAT THE LISTED PACKAGE-LEVEL VARIABLES READ AS WHEN THE CALL BEGINS. Each datum BY PROGRAM (the guide's laid-datum.mjs) off the statement by which the dump's own 'gosem.cut.vars' lays the variable. In a bare row this is a premise. The card (YtaojflmbfigplaaDoorCards.lean) ties it to the program's text. -/
def laid_cormorant_codec_sums {H : Type} : DataW H := .agg [.lit (.int .u32 0), .lit (.int .u32 498536548), .lit (.int .u32 997073096), .lit (.int .u32 651767980), .lit (.int .u32 1994146192), .lit (.int .u32 1802195444), .lit (.int .u32 1303535960), .lit (.int .u32 1342533948), .lit (.int .u32 3988292384), .lit (.int .u32 4027552580), .lit (.int .u32 3604390888), .lit (.int .u32 3412177804), .lit (.int .u32 2607071920), .lit (.int .u32 2262029012), .lit (.int .u32 2685067896), .lit (.int .u32 3183342108)]

/-- 'cormorantlaw01.CodecNumbers': WHATEVER THE INPUT: true; the input reads as it did. -/
def codecNumbersSpec : ChangeSpec := { name := "codecNumbers", fn := fun _ => fun
  | [d1, d2] => { results := [.lit (.bool true)], args := [d1, d2] }
  | _ => none }
def codecNumbersRow : OpenClaim := { program := "ytaojflmbfigplaadoor", sum := "f3962654e97a30854cf807797c6dc2d6f8b604cf24d6a0e0089969e7ffc5fdad", func := "cormorant/cormorantlaw01.CodecNumbers", spec := "codecNumbers", named := ["cormorant/codec.sums"], apart := false, laid := [("cormorant/codec.sums", laid_cormorant_codec_sums)] }
def CodecNumbersSaid : Prop := codecNumbersRow.holds Tryd.pinned (OpenSpec.ofChange codecNumbersSpec)

/-- ITS FALSE NEIGHBOUR: 'it returns false'. Refute it at one input. -/
def codecNumbersWrong : ChangeSpec := { name := "codecNumbers", fn := fun _ => fun
  | [d1, d2] => { results := [.lit (.bool false)], args := [d1, d2] }
  | _ => none }
def CodecNumbersWrongFalsely : Prop := codecNumbersRow.holds Tryd.pinned (OpenSpec.ofChange codecNumbersWrong)

/-- 'cormorantlaw01.CodecTakes': WHATEVER THE INPUT: true; the input reads as it did. -/
def codecTakesSpec : ChangeSpec := { name := "codecTakes", fn := fun _ => fun
  | [d] => { results := [.lit (.bool true)], args := [d] }
  | _ => none }
def codecTakesRow : OpenClaim := { program := "ytaojflmbfigplaadoor", sum := "f3962654e97a30854cf807797c6dc2d6f8b604cf24d6a0e0089969e7ffc5fdad", func := "cormorant/cormorantlaw01.CodecTakes", spec := "codecTakes", named := ["cormorant/codec.sums"], apart := false, laid := [("cormorant/codec.sums", laid_cormorant_codec_sums)] }
def CodecTakesSaid : Prop := codecTakesRow.holds Tryd.pinned (OpenSpec.ofChange codecTakesSpec)

/-- ITS FALSE NEIGHBOUR: 'it returns false'. Refute it at one input. -/
def codecTakesWrong : ChangeSpec := { name := "codecTakes", fn := fun _ => fun
  | [d] => { results := [.lit (.bool false)], args := [d] }
  | _ => none }
def CodecTakesWrongFalsely : Prop := codecTakesRow.holds Tryd.pinned (OpenSpec.ofChange codecTakesWrong)

/-- 'cormorantlaw01.CodecTexts': WHATEVER THE INPUT: true; the input reads as it did. -/
def codecTextsSpec : ChangeSpec := { name := "codecTexts", fn := fun _ => fun
  | [d1, d2] => { results := [.lit (.bool true)], args := [d1, d2] }
  | _ => none }
def codecTextsRow : OpenClaim := { program := "ytaojflmbfigplaadoor", sum := "f3962654e97a30854cf807797c6dc2d6f8b604cf24d6a0e0089969e7ffc5fdad", func := "cormorant/cormorantlaw01.CodecTexts", spec := "codecTexts", named := ["cormorant/codec.sums"], apart := false, laid := [("cormorant/codec.sums", laid_cormorant_codec_sums)] }
def CodecTextsSaid : Prop := codecTextsRow.holds Tryd.pinned (OpenSpec.ofChange codecTextsSpec)

/-- ITS FALSE NEIGHBOUR: 'it returns false'. Refute it at one input. -/
def codecTextsWrong : ChangeSpec := { name := "codecTexts", fn := fun _ => fun
  | [d1, d2] => { results := [.lit (.bool false)], args := [d1, d2] }
  | _ => none }
def CodecTextsWrongFalsely : Prop := codecTextsRow.holds Tryd.pinned (OpenSpec.ofChange codecTextsWrong)

/-- 'cormorantlaw01.CodecSums': WHATEVER THE INPUT: true; the input reads as it did. -/
def codecSumsSpec : ChangeSpec := { name := "codecSums", fn := fun _ => fun
  | [d] => { results := [.lit (.bool true)], args := [d] }
  | _ => none }
def codecSumsRow : OpenClaim := { program := "ytaojflmbfigplaadoor", sum := "f3962654e97a30854cf807797c6dc2d6f8b604cf24d6a0e0089969e7ffc5fdad", func := "cormorant/cormorantlaw01.CodecSums", spec := "codecSums", named := ["cormorant/codec.sums"], apart := false, laid := [("cormorant/codec.sums", laid_cormorant_codec_sums)] }
def CodecSumsSaid : Prop := codecSumsRow.holds Tryd.pinned (OpenSpec.ofChange codecSumsSpec)

/-- ITS FALSE NEIGHBOUR: 'it returns false'. Refute it at one input. -/
def codecSumsWrong : ChangeSpec := { name := "codecSums", fn := fun _ => fun
  | [d] => { results := [.lit (.bool false)], args := [d] }
  | _ => none }
def CodecSumsWrongFalsely : Prop := codecSumsRow.holds Tryd.pinned (OpenSpec.ofChange codecSumsWrong)

/-- 'cormorantlaw01.CodecFrames': WHATEVER THE INPUT: true; the input reads as it did. -/
def codecFramesSpec : ChangeSpec := { name := "codecFrames", fn := fun _ => fun
  | [d1, d2, d3] => { results := [.lit (.bool true)], args := [d1, d2, d3] }
  | _ => none }
def codecFramesRow : OpenClaim := { program := "ytaojflmbfigplaadoor", sum := "f3962654e97a30854cf807797c6dc2d6f8b604cf24d6a0e0089969e7ffc5fdad", func := "cormorant/cormorantlaw01.CodecFrames", spec := "codecFrames", named := ["cormorant/codec.sums"], apart := false, laid := [("cormorant/codec.sums", laid_cormorant_codec_sums)] }
def CodecFramesSaid : Prop := codecFramesRow.holds Tryd.pinned (OpenSpec.ofChange codecFramesSpec)

/-- ITS FALSE NEIGHBOUR: 'it returns false'. Refute it at one input. -/
def codecFramesWrong : ChangeSpec := { name := "codecFrames", fn := fun _ => fun
  | [d1, d2, d3] => { results := [.lit (.bool false)], args := [d1, d2, d3] }
  | _ => none }
def CodecFramesWrongFalsely : Prop := codecFramesRow.holds Tryd.pinned (OpenSpec.ofChange codecFramesWrong)

/-- 'cormorantlaw01.CodecKeys': WHATEVER THE INPUT: true; the input reads as it did. -/
def codecKeysSpec : ChangeSpec := { name := "codecKeys", fn := fun _ => fun
  | [d1, d2, d3] => { results := [.lit (.bool true)], args := [d1, d2, d3] }
  | _ => none }
def codecKeysRow : OpenClaim := { program := "ytaojflmbfigplaadoor", sum := "f3962654e97a30854cf807797c6dc2d6f8b604cf24d6a0e0089969e7ffc5fdad", func := "cormorant/cormorantlaw01.CodecKeys", spec := "codecKeys", named := ["cormorant/codec.sums"], apart := false, laid := [("cormorant/codec.sums", laid_cormorant_codec_sums)] }
def CodecKeysSaid : Prop := codecKeysRow.holds Tryd.pinned (OpenSpec.ofChange codecKeysSpec)

/-- ITS FALSE NEIGHBOUR: 'it returns false'. Refute it at one input. -/
def codecKeysWrong : ChangeSpec := { name := "codecKeys", fn := fun _ => fun
  | [d1, d2, d3] => { results := [.lit (.bool false)], args := [d1, d2, d3] }
  | _ => none }
def CodecKeysWrongFalsely : Prop := codecKeysRow.holds Tryd.pinned (OpenSpec.ofChange codecKeysWrong)

/-- 'cormorantlaw01.CodecCompares': WHATEVER THE INPUT: true; the input reads as it did. -/
def codecComparesSpec : ChangeSpec := { name := "codecCompares", fn := fun _ => fun
  | [d1, d2] => { results := [.lit (.bool true)], args := [d1, d2] }
  | _ => none }
def codecComparesRow : OpenClaim := { program := "ytaojflmbfigplaadoor", sum := "f3962654e97a30854cf807797c6dc2d6f8b604cf24d6a0e0089969e7ffc5fdad", func := "cormorant/cormorantlaw01.CodecCompares", spec := "codecCompares", named := ["cormorant/codec.sums"], apart := false, laid := [("cormorant/codec.sums", laid_cormorant_codec_sums)] }
def CodecComparesSaid : Prop := codecComparesRow.holds Tryd.pinned (OpenSpec.ofChange codecComparesSpec)

/-- ITS FALSE NEIGHBOUR: 'it returns false'. Refute it at one input. -/
def codecComparesWrong : ChangeSpec := { name := "codecCompares", fn := fun _ => fun
  | [d1, d2] => { results := [.lit (.bool false)], args := [d1, d2] }
  | _ => none }
def CodecComparesWrongFalsely : Prop := codecComparesRow.holds Tryd.pinned (OpenSpec.ofChange codecComparesWrong)

/-- 'cormorantlaw01.CodecOrder': WHATEVER THE INPUT: true; the input reads as it did. -/
def codecOrderSpec : ChangeSpec := { name := "codecOrder", fn := fun _ => fun
  | [d1, d2, d3] => { results := [.lit (.bool true)], args := [d1, d2, d3] }
  | _ => none }
def codecOrderRow : OpenClaim := { program := "ytaojflmbfigplaadoor", sum := "f3962654e97a30854cf807797c6dc2d6f8b604cf24d6a0e0089969e7ffc5fdad", func := "cormorant/cormorantlaw01.CodecOrder", spec := "codecOrder", named := ["cormorant/codec.sums"], apart := false, laid := [("cormorant/codec.sums", laid_cormorant_codec_sums)] }
def CodecOrderSaid : Prop := codecOrderRow.holds Tryd.pinned (OpenSpec.ofChange codecOrderSpec)

/-- ITS FALSE NEIGHBOUR: 'it returns false'. Refute it at one input. -/
def codecOrderWrong : ChangeSpec := { name := "codecOrder", fn := fun _ => fun
  | [d1, d2, d3] => { results := [.lit (.bool false)], args := [d1, d2, d3] }
  | _ => none }
def CodecOrderWrongFalsely : Prop := codecOrderRow.holds Tryd.pinned (OpenSpec.ofChange codecOrderWrong)

/-- 'cormorantlaw01.CodecTorn': WHATEVER THE INPUT: true; the input reads as it did. -/
def codecTornSpec : ChangeSpec := { name := "codecTorn", fn := fun _ => fun
  | [d1, d2, d3] => { results := [.lit (.bool true)], args := [d1, d2, d3] }
  | _ => none }
def codecTornRow : OpenClaim := { program := "ytaojflmbfigplaadoor", sum := "f3962654e97a30854cf807797c6dc2d6f8b604cf24d6a0e0089969e7ffc5fdad", func := "cormorant/cormorantlaw01.CodecTorn", spec := "codecTorn", named := ["cormorant/codec.sums"], apart := false, laid := [("cormorant/codec.sums", laid_cormorant_codec_sums)] }
def CodecTornSaid : Prop := codecTornRow.holds Tryd.pinned (OpenSpec.ofChange codecTornSpec)

/-- ITS FALSE NEIGHBOUR: 'it returns false'. Refute it at one input. -/
def codecTornWrong : ChangeSpec := { name := "codecTorn", fn := fun _ => fun
  | [d1, d2, d3] => { results := [.lit (.bool false)], args := [d1, d2, d3] }
  | _ => none }
def CodecTornWrongFalsely : Prop := codecTornRow.holds Tryd.pinned (OpenSpec.ofChange codecTornWrong)

/-- 'cormorantlaw01.CodecTurned': WHATEVER THE INPUT: true; the input reads as it did. -/
def codecTurnedSpec : ChangeSpec := { name := "codecTurned", fn := fun _ => fun
  | [d1, d2, d3, d4] => { results := [.lit (.bool true)], args := [d1, d2, d3, d4] }
  | _ => none }
def codecTurnedRow : OpenClaim := { program := "ytaojflmbfigplaadoor", sum := "f3962654e97a30854cf807797c6dc2d6f8b604cf24d6a0e0089969e7ffc5fdad", func := "cormorant/cormorantlaw01.CodecTurned", spec := "codecTurned", named := ["cormorant/codec.sums"], apart := false, laid := [("cormorant/codec.sums", laid_cormorant_codec_sums)] }
def CodecTurnedSaid : Prop := codecTurnedRow.holds Tryd.pinned (OpenSpec.ofChange codecTurnedSpec)

/-- ITS FALSE NEIGHBOUR: 'it returns false'. Refute it at one input. -/
def codecTurnedWrong : ChangeSpec := { name := "codecTurned", fn := fun _ => fun
  | [d1, d2, d3, d4] => { results := [.lit (.bool false)], args := [d1, d2, d3, d4] }
  | _ => none }
def CodecTurnedWrongFalsely : Prop := codecTurnedRow.holds Tryd.pinned (OpenSpec.ofChange codecTurnedWrong)

/- THE SECOND FORM. 'bulk': how many values and letters a reading holds, each counted each time it is reached (what is shared counts as often as it is met; a slice's spare places count too). A statement '..UptoSaid' is the law's where the arguments, and the package variables that the reading takes, are together of bulk at most 1048576: NARROWER than '..Said'. Prove '..Said' where nothing that the law and all that it calls make is longer than what came in: it says more and counts as full. Else prove '..UptoSaid'. A law counts once. -/
mutual
def uptoBulk {H : Type} : DataW H → Nat
  | .lit (.string bytes) => bytes.length + 1
  | .lit _ => 1
  | .nil => 1
  | .ptr d => uptoBulk d + 1
  | .slice elems spare => uptoBulkAll elems + uptoBulkAll spare + 1
  | .agg parts => uptoBulkAll parts + 1
  | .iface _ d => uptoBulk d + 1
  | .map entries => uptoBulkEntries entries + 1
  | .held _ => 1
def uptoBulkAll {H : Type} : List (DataW H) → Nat
  | [] => 0
  | d :: r => uptoBulk d + uptoBulkAll r
def uptoBulkEntries {H : Type} : List (Lit × DataW H) → Nat
  | [] => 0
  | x :: r => uptoBulkEntry x + uptoBulkEntries r
def uptoBulkEntry {H : Type} : Lit × DataW H → Nat
  | (.string bytes, d) => bytes.length + uptoBulk d + 1
  | (_, d) => uptoBulk d + 1
 end
def uptoSmall : (H : Type) → List (DataW H) → Bool := fun _ ds => decide (uptoBulkAll ds ≤ 1048576)
def OpenSpec.upto (s : _root_.Go.ChangeSpec) : _root_.Go.OpenSpec := { _root_.Go.OpenSpec.ofChange s with cond := some uptoSmall }

/-- 'cormorantlaw01.CodecNumbers', WHERE WHAT IT READS IS OF BULK AT MOST 1048576: true; the input reads as it did. -/
def codecNumbersUptoRow : OpenClaim := { program := "ytaojflmbfigplaadoor", sum := "f3962654e97a30854cf807797c6dc2d6f8b604cf24d6a0e0089969e7ffc5fdad", func := "cormorant/cormorantlaw01.CodecNumbers", spec := "codecNumbers", named := ["cormorant/codec.sums"], apart := false, laid := [("cormorant/codec.sums", laid_cormorant_codec_sums)], narrowed := true }
def CodecNumbersUptoSaid : Prop := codecNumbersUptoRow.holds Tryd.pinned (OpenSpec.upto codecNumbersSpec)

/-- 'cormorantlaw01.CodecTakes', WHERE WHAT IT READS IS OF BULK AT MOST 1048576: true; the input reads as it did. -/
def codecTakesUptoRow : OpenClaim := { program := "ytaojflmbfigplaadoor", sum := "f3962654e97a30854cf807797c6dc2d6f8b604cf24d6a0e0089969e7ffc5fdad", func := "cormorant/cormorantlaw01.CodecTakes", spec := "codecTakes", named := ["cormorant/codec.sums"], apart := false, laid := [("cormorant/codec.sums", laid_cormorant_codec_sums)], narrowed := true }
def CodecTakesUptoSaid : Prop := codecTakesUptoRow.holds Tryd.pinned (OpenSpec.upto codecTakesSpec)

/-- 'cormorantlaw01.CodecTexts', WHERE WHAT IT READS IS OF BULK AT MOST 1048576: true; the input reads as it did. -/
def codecTextsUptoRow : OpenClaim := { program := "ytaojflmbfigplaadoor", sum := "f3962654e97a30854cf807797c6dc2d6f8b604cf24d6a0e0089969e7ffc5fdad", func := "cormorant/cormorantlaw01.CodecTexts", spec := "codecTexts", named := ["cormorant/codec.sums"], apart := false, laid := [("cormorant/codec.sums", laid_cormorant_codec_sums)], narrowed := true }
def CodecTextsUptoSaid : Prop := codecTextsUptoRow.holds Tryd.pinned (OpenSpec.upto codecTextsSpec)

/-- 'cormorantlaw01.CodecSums', WHERE WHAT IT READS IS OF BULK AT MOST 1048576: true; the input reads as it did. -/
def codecSumsUptoRow : OpenClaim := { program := "ytaojflmbfigplaadoor", sum := "f3962654e97a30854cf807797c6dc2d6f8b604cf24d6a0e0089969e7ffc5fdad", func := "cormorant/cormorantlaw01.CodecSums", spec := "codecSums", named := ["cormorant/codec.sums"], apart := false, laid := [("cormorant/codec.sums", laid_cormorant_codec_sums)], narrowed := true }
def CodecSumsUptoSaid : Prop := codecSumsUptoRow.holds Tryd.pinned (OpenSpec.upto codecSumsSpec)

/-- 'cormorantlaw01.CodecFrames', WHERE WHAT IT READS IS OF BULK AT MOST 1048576: true; the input reads as it did. -/
def codecFramesUptoRow : OpenClaim := { program := "ytaojflmbfigplaadoor", sum := "f3962654e97a30854cf807797c6dc2d6f8b604cf24d6a0e0089969e7ffc5fdad", func := "cormorant/cormorantlaw01.CodecFrames", spec := "codecFrames", named := ["cormorant/codec.sums"], apart := false, laid := [("cormorant/codec.sums", laid_cormorant_codec_sums)], narrowed := true }
def CodecFramesUptoSaid : Prop := codecFramesUptoRow.holds Tryd.pinned (OpenSpec.upto codecFramesSpec)

/-- 'cormorantlaw01.CodecKeys', WHERE WHAT IT READS IS OF BULK AT MOST 1048576: true; the input reads as it did. -/
def codecKeysUptoRow : OpenClaim := { program := "ytaojflmbfigplaadoor", sum := "f3962654e97a30854cf807797c6dc2d6f8b604cf24d6a0e0089969e7ffc5fdad", func := "cormorant/cormorantlaw01.CodecKeys", spec := "codecKeys", named := ["cormorant/codec.sums"], apart := false, laid := [("cormorant/codec.sums", laid_cormorant_codec_sums)], narrowed := true }
def CodecKeysUptoSaid : Prop := codecKeysUptoRow.holds Tryd.pinned (OpenSpec.upto codecKeysSpec)

/-- 'cormorantlaw01.CodecCompares', WHERE WHAT IT READS IS OF BULK AT MOST 1048576: true; the input reads as it did. -/
def codecComparesUptoRow : OpenClaim := { program := "ytaojflmbfigplaadoor", sum := "f3962654e97a30854cf807797c6dc2d6f8b604cf24d6a0e0089969e7ffc5fdad", func := "cormorant/cormorantlaw01.CodecCompares", spec := "codecCompares", named := ["cormorant/codec.sums"], apart := false, laid := [("cormorant/codec.sums", laid_cormorant_codec_sums)], narrowed := true }
def CodecComparesUptoSaid : Prop := codecComparesUptoRow.holds Tryd.pinned (OpenSpec.upto codecComparesSpec)

/-- 'cormorantlaw01.CodecOrder', WHERE WHAT IT READS IS OF BULK AT MOST 1048576: true; the input reads as it did. -/
def codecOrderUptoRow : OpenClaim := { program := "ytaojflmbfigplaadoor", sum := "f3962654e97a30854cf807797c6dc2d6f8b604cf24d6a0e0089969e7ffc5fdad", func := "cormorant/cormorantlaw01.CodecOrder", spec := "codecOrder", named := ["cormorant/codec.sums"], apart := false, laid := [("cormorant/codec.sums", laid_cormorant_codec_sums)], narrowed := true }
def CodecOrderUptoSaid : Prop := codecOrderUptoRow.holds Tryd.pinned (OpenSpec.upto codecOrderSpec)

/-- 'cormorantlaw01.CodecTorn', WHERE WHAT IT READS IS OF BULK AT MOST 1048576: true; the input reads as it did. -/
def codecTornUptoRow : OpenClaim := { program := "ytaojflmbfigplaadoor", sum := "f3962654e97a30854cf807797c6dc2d6f8b604cf24d6a0e0089969e7ffc5fdad", func := "cormorant/cormorantlaw01.CodecTorn", spec := "codecTorn", named := ["cormorant/codec.sums"], apart := false, laid := [("cormorant/codec.sums", laid_cormorant_codec_sums)], narrowed := true }
def CodecTornUptoSaid : Prop := codecTornUptoRow.holds Tryd.pinned (OpenSpec.upto codecTornSpec)

/-- 'cormorantlaw01.CodecTurned', WHERE WHAT IT READS IS OF BULK AT MOST 1048576: true; the input reads as it did. -/
def codecTurnedUptoRow : OpenClaim := { program := "ytaojflmbfigplaadoor", sum := "f3962654e97a30854cf807797c6dc2d6f8b604cf24d6a0e0089969e7ffc5fdad", func := "cormorant/cormorantlaw01.CodecTurned", spec := "codecTurned", named := ["cormorant/codec.sums"], apart := false, laid := [("cormorant/codec.sums", laid_cormorant_codec_sums)], narrowed := true }
def CodecTurnedUptoSaid : Prop := codecTurnedUptoRow.holds Tryd.pinned (OpenSpec.upto codecTurnedSpec)

end Rows
end Go.Proofs.YtaojflmbfigplaaDoor
