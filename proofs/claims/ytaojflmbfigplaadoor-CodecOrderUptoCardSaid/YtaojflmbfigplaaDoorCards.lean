/-
  DERIVED. GIVEN WITH THE SEED: THE CARDS: each row of YtaojflmbfigplaaDoorRows.lean that lists a variable, with what it lists TIED to the program's text (the seventh form; the later family's looks); each row that meets fmt, with fmt's text TOLD by the authors' own Lean function (tested against real Go, not proved from fmt's source: count such statements apart). THE CARD IS WHAT COUNTS. Prove the row's statement (the work); the ties are given (YtaojflmbfigplaaDoorTie.lean); close each card by the builder's one call (the guide's Derived/Test/ToyasCard.lean, 'card_holds'). Laid BY PROGRAM, IN A SANDBOX (cutbox-door.mjs). By AI agents, Wed Nov 11 2026. No macro, syntax, notation, axiom, sorry.
-/
import Derived.Test.YtaojflmbfigplaaDoorRows
import GoSem.ClaimSeven
namespace Go.Proofs.YtaojflmbfigplaaDoor
namespace Rows

/-- THE TIED CARD OF 'cormorantlaw01.CodecNumbers'. -/
def codecNumbersCard : Claim7 := { stood := { row := codecNumbersRow, standIns := [], harness := (true, "af293f01b7fad6d0c62cdc66b4e0fcb24fef4b61508a0a78cb8fdbe73612cf11"), looks := false }, kinds := [], alts := [], laidByText := true, laidKinds := [.data], laidTests := true, laidLooks := .later }
def CodecNumbersCardSaid : Prop := Claim7.holds Tryd.pinned (.plain (OpenSpec.ofChange codecNumbersSpec)) codecNumbersCard

/-- THE TIED CARD OF 'cormorantlaw01.CodecTakes'. -/
def codecTakesCard : Claim7 := { stood := { row := codecTakesRow, standIns := [], harness := (true, "af293f01b7fad6d0c62cdc66b4e0fcb24fef4b61508a0a78cb8fdbe73612cf11"), looks := false }, kinds := [], alts := [], laidByText := true, laidKinds := [.data], laidTests := true, laidLooks := .later }
def CodecTakesCardSaid : Prop := Claim7.holds Tryd.pinned (.plain (OpenSpec.ofChange codecTakesSpec)) codecTakesCard

/-- THE TIED CARD OF 'cormorantlaw01.CodecTexts'. -/
def codecTextsCard : Claim7 := { stood := { row := codecTextsRow, standIns := [], harness := (true, "af293f01b7fad6d0c62cdc66b4e0fcb24fef4b61508a0a78cb8fdbe73612cf11"), looks := false }, kinds := [], alts := [], laidByText := true, laidKinds := [.data], laidTests := true, laidLooks := .later }
def CodecTextsCardSaid : Prop := Claim7.holds Tryd.pinned (.plain (OpenSpec.ofChange codecTextsSpec)) codecTextsCard

/-- THE TIED CARD OF 'cormorantlaw01.CodecSums'. -/
def codecSumsCard : Claim7 := { stood := { row := codecSumsRow, standIns := [], harness := (true, "af293f01b7fad6d0c62cdc66b4e0fcb24fef4b61508a0a78cb8fdbe73612cf11"), looks := false }, kinds := [], alts := [], laidByText := true, laidKinds := [.data], laidTests := true, laidLooks := .later }
def CodecSumsCardSaid : Prop := Claim7.holds Tryd.pinned (.plain (OpenSpec.ofChange codecSumsSpec)) codecSumsCard

/-- THE TIED CARD OF 'cormorantlaw01.CodecFrames'. -/
def codecFramesCard : Claim7 := { stood := { row := codecFramesRow, standIns := [], harness := (true, "af293f01b7fad6d0c62cdc66b4e0fcb24fef4b61508a0a78cb8fdbe73612cf11"), looks := false }, kinds := [], alts := [], laidByText := true, laidKinds := [.data], laidTests := true, laidLooks := .later }
def CodecFramesCardSaid : Prop := Claim7.holds Tryd.pinned (.plain (OpenSpec.ofChange codecFramesSpec)) codecFramesCard

/-- THE TIED CARD OF 'cormorantlaw01.CodecKeys'. -/
def codecKeysCard : Claim7 := { stood := { row := codecKeysRow, standIns := [], harness := (true, "af293f01b7fad6d0c62cdc66b4e0fcb24fef4b61508a0a78cb8fdbe73612cf11"), looks := false }, kinds := [], alts := [], laidByText := true, laidKinds := [.data], laidTests := true, laidLooks := .later }
def CodecKeysCardSaid : Prop := Claim7.holds Tryd.pinned (.plain (OpenSpec.ofChange codecKeysSpec)) codecKeysCard

/-- THE TIED CARD OF 'cormorantlaw01.CodecCompares'. -/
def codecComparesCard : Claim7 := { stood := { row := codecComparesRow, standIns := [], harness := (true, "af293f01b7fad6d0c62cdc66b4e0fcb24fef4b61508a0a78cb8fdbe73612cf11"), looks := false }, kinds := [], alts := [], laidByText := true, laidKinds := [.data], laidTests := true, laidLooks := .later }
def CodecComparesCardSaid : Prop := Claim7.holds Tryd.pinned (.plain (OpenSpec.ofChange codecComparesSpec)) codecComparesCard

/-- THE TIED CARD OF 'cormorantlaw01.CodecOrder'. -/
def codecOrderCard : Claim7 := { stood := { row := codecOrderRow, standIns := [], harness := (true, "af293f01b7fad6d0c62cdc66b4e0fcb24fef4b61508a0a78cb8fdbe73612cf11"), looks := false }, kinds := [], alts := [], laidByText := true, laidKinds := [.data], laidTests := true, laidLooks := .later }
def CodecOrderCardSaid : Prop := Claim7.holds Tryd.pinned (.plain (OpenSpec.ofChange codecOrderSpec)) codecOrderCard

/-- THE TIED CARD OF 'cormorantlaw01.CodecTorn'. -/
def codecTornCard : Claim7 := { stood := { row := codecTornRow, standIns := [], harness := (true, "af293f01b7fad6d0c62cdc66b4e0fcb24fef4b61508a0a78cb8fdbe73612cf11"), looks := false }, kinds := [], alts := [], laidByText := true, laidKinds := [.data], laidTests := true, laidLooks := .later }
def CodecTornCardSaid : Prop := Claim7.holds Tryd.pinned (.plain (OpenSpec.ofChange codecTornSpec)) codecTornCard

/-- THE TIED CARD OF 'cormorantlaw01.CodecTurned'. -/
def codecTurnedCard : Claim7 := { stood := { row := codecTurnedRow, standIns := [], harness := (true, "af293f01b7fad6d0c62cdc66b4e0fcb24fef4b61508a0a78cb8fdbe73612cf11"), looks := false }, kinds := [], alts := [], laidByText := true, laidKinds := [.data], laidTests := true, laidLooks := .later }
def CodecTurnedCardSaid : Prop := Claim7.holds Tryd.pinned (.plain (OpenSpec.ofChange codecTurnedSpec)) codecTurnedCard

/-- THE SECOND FORM's CARD OF 'cormorantlaw01.CodecNumbers'. -/
def codecNumbersUptoCard : Claim7 := { stood := { row := codecNumbersUptoRow, standIns := [], harness := (true, "af293f01b7fad6d0c62cdc66b4e0fcb24fef4b61508a0a78cb8fdbe73612cf11"), looks := false }, kinds := [], alts := [], laidByText := true, laidKinds := [.data], laidTests := true, laidLooks := .later }
def CodecNumbersUptoCardSaid : Prop := Claim7.holds Tryd.pinned (.plain (OpenSpec.upto codecNumbersSpec)) codecNumbersUptoCard

/-- THE SECOND FORM's CARD OF 'cormorantlaw01.CodecTakes'. -/
def codecTakesUptoCard : Claim7 := { stood := { row := codecTakesUptoRow, standIns := [], harness := (true, "af293f01b7fad6d0c62cdc66b4e0fcb24fef4b61508a0a78cb8fdbe73612cf11"), looks := false }, kinds := [], alts := [], laidByText := true, laidKinds := [.data], laidTests := true, laidLooks := .later }
def CodecTakesUptoCardSaid : Prop := Claim7.holds Tryd.pinned (.plain (OpenSpec.upto codecTakesSpec)) codecTakesUptoCard

/-- THE SECOND FORM's CARD OF 'cormorantlaw01.CodecTexts'. -/
def codecTextsUptoCard : Claim7 := { stood := { row := codecTextsUptoRow, standIns := [], harness := (true, "af293f01b7fad6d0c62cdc66b4e0fcb24fef4b61508a0a78cb8fdbe73612cf11"), looks := false }, kinds := [], alts := [], laidByText := true, laidKinds := [.data], laidTests := true, laidLooks := .later }
def CodecTextsUptoCardSaid : Prop := Claim7.holds Tryd.pinned (.plain (OpenSpec.upto codecTextsSpec)) codecTextsUptoCard

/-- THE SECOND FORM's CARD OF 'cormorantlaw01.CodecSums'. -/
def codecSumsUptoCard : Claim7 := { stood := { row := codecSumsUptoRow, standIns := [], harness := (true, "af293f01b7fad6d0c62cdc66b4e0fcb24fef4b61508a0a78cb8fdbe73612cf11"), looks := false }, kinds := [], alts := [], laidByText := true, laidKinds := [.data], laidTests := true, laidLooks := .later }
def CodecSumsUptoCardSaid : Prop := Claim7.holds Tryd.pinned (.plain (OpenSpec.upto codecSumsSpec)) codecSumsUptoCard

/-- THE SECOND FORM's CARD OF 'cormorantlaw01.CodecFrames'. -/
def codecFramesUptoCard : Claim7 := { stood := { row := codecFramesUptoRow, standIns := [], harness := (true, "af293f01b7fad6d0c62cdc66b4e0fcb24fef4b61508a0a78cb8fdbe73612cf11"), looks := false }, kinds := [], alts := [], laidByText := true, laidKinds := [.data], laidTests := true, laidLooks := .later }
def CodecFramesUptoCardSaid : Prop := Claim7.holds Tryd.pinned (.plain (OpenSpec.upto codecFramesSpec)) codecFramesUptoCard

/-- THE SECOND FORM's CARD OF 'cormorantlaw01.CodecKeys'. -/
def codecKeysUptoCard : Claim7 := { stood := { row := codecKeysUptoRow, standIns := [], harness := (true, "af293f01b7fad6d0c62cdc66b4e0fcb24fef4b61508a0a78cb8fdbe73612cf11"), looks := false }, kinds := [], alts := [], laidByText := true, laidKinds := [.data], laidTests := true, laidLooks := .later }
def CodecKeysUptoCardSaid : Prop := Claim7.holds Tryd.pinned (.plain (OpenSpec.upto codecKeysSpec)) codecKeysUptoCard

/-- THE SECOND FORM's CARD OF 'cormorantlaw01.CodecCompares'. -/
def codecComparesUptoCard : Claim7 := { stood := { row := codecComparesUptoRow, standIns := [], harness := (true, "af293f01b7fad6d0c62cdc66b4e0fcb24fef4b61508a0a78cb8fdbe73612cf11"), looks := false }, kinds := [], alts := [], laidByText := true, laidKinds := [.data], laidTests := true, laidLooks := .later }
def CodecComparesUptoCardSaid : Prop := Claim7.holds Tryd.pinned (.plain (OpenSpec.upto codecComparesSpec)) codecComparesUptoCard

/-- THE SECOND FORM's CARD OF 'cormorantlaw01.CodecOrder'. -/
def codecOrderUptoCard : Claim7 := { stood := { row := codecOrderUptoRow, standIns := [], harness := (true, "af293f01b7fad6d0c62cdc66b4e0fcb24fef4b61508a0a78cb8fdbe73612cf11"), looks := false }, kinds := [], alts := [], laidByText := true, laidKinds := [.data], laidTests := true, laidLooks := .later }
def CodecOrderUptoCardSaid : Prop := Claim7.holds Tryd.pinned (.plain (OpenSpec.upto codecOrderSpec)) codecOrderUptoCard

/-- THE SECOND FORM's CARD OF 'cormorantlaw01.CodecTorn'. -/
def codecTornUptoCard : Claim7 := { stood := { row := codecTornUptoRow, standIns := [], harness := (true, "af293f01b7fad6d0c62cdc66b4e0fcb24fef4b61508a0a78cb8fdbe73612cf11"), looks := false }, kinds := [], alts := [], laidByText := true, laidKinds := [.data], laidTests := true, laidLooks := .later }
def CodecTornUptoCardSaid : Prop := Claim7.holds Tryd.pinned (.plain (OpenSpec.upto codecTornSpec)) codecTornUptoCard

/-- THE SECOND FORM's CARD OF 'cormorantlaw01.CodecTurned'. -/
def codecTurnedUptoCard : Claim7 := { stood := { row := codecTurnedUptoRow, standIns := [], harness := (true, "af293f01b7fad6d0c62cdc66b4e0fcb24fef4b61508a0a78cb8fdbe73612cf11"), looks := false }, kinds := [], alts := [], laidByText := true, laidKinds := [.data], laidTests := true, laidLooks := .later }
def CodecTurnedUptoCardSaid : Prop := Claim7.holds Tryd.pinned (.plain (OpenSpec.upto codecTurnedSpec)) codecTurnedUptoCard
end Rows
end Go.Proofs.YtaojflmbfigplaaDoor
