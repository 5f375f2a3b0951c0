/-
  DERIVED. GIVEN WITH THE SEED: THE CARDS: each row of YtfnifpgaieggbaaDoorRows.lean that lists a variable, with what it lists TIED to the program's text (the seventh form; the later family's looks); each row that meets fmt, with fmt's text TOLD by the authors' own Lean function (tested against real Go, not proved from fmt's source: count such statements apart). THE CARD IS WHAT COUNTS. Prove the row's statement (the work); the ties are given (YtfnifpgaieggbaaDoorTie.lean); close each card by the builder's one call (the guide's Derived/Test/ToyasCard.lean, 'card_holds'). Laid BY PROGRAM, IN A SANDBOX (cutbox-door.mjs). By AI agents, Wed Nov 11 2026. No macro, syntax, notation, axiom, sorry.
-/
import Derived.Test.YtfnifpgaieggbaaDoorRows
import GoSem.ClaimSeven
namespace Go.Proofs.YtfnifpgaieggbaaDoor
namespace Rows

/-- THE TIED CARD OF 'cormorantlaw06.WalEncodes'. -/
def walEncodesCard : Claim7 := { stood := { row := walEncodesRow, standIns := [], harness := (true, "37a3ba7193b69d106a25854a2d0531f8ab00627f750f940f62131ee16f8fa306"), looks := false }, kinds := [], alts := [], laidByText := true, laidKinds := [.data], laidTests := true, laidLooks := .later }
def WalEncodesCardSaid : Prop := Claim7.holds Tryd.pinned (.plain (OpenSpec.ofChange walEncodesSpec)) walEncodesCard

/-- THE TIED CARD OF 'cormorantlaw06.WalReplays'. -/
def walReplaysCard : Claim7 := { stood := { row := walReplaysRow, standIns := [], harness := (true, "37a3ba7193b69d106a25854a2d0531f8ab00627f750f940f62131ee16f8fa306"), looks := false }, kinds := [], alts := [], laidByText := true, laidKinds := [.data], laidTests := true, laidLooks := .later }
def WalReplaysCardSaid : Prop := Claim7.holds Tryd.pinned (.plain (OpenSpec.ofChange walReplaysSpec)) walReplaysCard

/-- THE TIED CARD OF 'cormorantlaw06.WalTorn'. -/
def walTornCard : Claim7 := { stood := { row := walTornRow, standIns := [], harness := (true, "37a3ba7193b69d106a25854a2d0531f8ab00627f750f940f62131ee16f8fa306"), looks := false }, kinds := [], alts := [], laidByText := true, laidKinds := [.data], laidTests := true, laidLooks := .later }
def WalTornCardSaid : Prop := Claim7.holds Tryd.pinned (.plain (OpenSpec.ofChange walTornSpec)) walTornCard

/-- THE SECOND FORM's CARD OF 'cormorantlaw06.WalEncodes'. -/
def walEncodesUptoCard : Claim7 := { stood := { row := walEncodesUptoRow, standIns := [], harness := (true, "37a3ba7193b69d106a25854a2d0531f8ab00627f750f940f62131ee16f8fa306"), looks := false }, kinds := [], alts := [], laidByText := true, laidKinds := [.data], laidTests := true, laidLooks := .later }
def WalEncodesUptoCardSaid : Prop := Claim7.holds Tryd.pinned (.plain (OpenSpec.upto walEncodesSpec)) walEncodesUptoCard

/-- THE SECOND FORM's CARD OF 'cormorantlaw06.WalReplays'. -/
def walReplaysUptoCard : Claim7 := { stood := { row := walReplaysUptoRow, standIns := [], harness := (true, "37a3ba7193b69d106a25854a2d0531f8ab00627f750f940f62131ee16f8fa306"), looks := false }, kinds := [], alts := [], laidByText := true, laidKinds := [.data], laidTests := true, laidLooks := .later }
def WalReplaysUptoCardSaid : Prop := Claim7.holds Tryd.pinned (.plain (OpenSpec.upto walReplaysSpec)) walReplaysUptoCard

/-- THE SECOND FORM's CARD OF 'cormorantlaw06.WalTorn'. -/
def walTornUptoCard : Claim7 := { stood := { row := walTornUptoRow, standIns := [], harness := (true, "37a3ba7193b69d106a25854a2d0531f8ab00627f750f940f62131ee16f8fa306"), looks := false }, kinds := [], alts := [], laidByText := true, laidKinds := [.data], laidTests := true, laidLooks := .later }
def WalTornUptoCardSaid : Prop := Claim7.holds Tryd.pinned (.plain (OpenSpec.upto walTornSpec)) walTornUptoCard
end Rows
end Go.Proofs.YtfnifpgaieggbaaDoor
