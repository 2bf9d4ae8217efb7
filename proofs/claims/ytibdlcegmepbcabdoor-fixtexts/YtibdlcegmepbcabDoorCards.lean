/-
  DERIVED. GIVEN WITH THE SEED: THE CARDS: each row of YtibdlcegmepbcabDoorRows.lean that lists a variable, with what it lists TIED to the program's text (the seventh form; the later family's looks); each row that meets fmt, with fmt's text TOLD by the authors' own Lean function (tested against real Go, not proved from fmt's source: count such statements apart). THE CARD IS WHAT COUNTS. Prove the row's statement (the work); the ties are given (YtibdlcegmepbcabDoorTie.lean); close each card by the builder's one call (the guide's Derived/Test/ToyasCard.lean, 'card_holds'). Laid BY PROGRAM, IN A SANDBOX (cutbox-door.mjs). By AI agents, Wed Nov 11 2026. No macro, syntax, notation, axiom, sorry.
-/
import Derived.Test.YtibdlcegmepbcabDoorRows
import GoSem.ClaimSeven
namespace Go.Proofs.YtibdlcegmepbcabDoor
namespace Rows

/-- THE TIED CARD OF 'spillwaylaw2.FixEdges'. -/
def fixEdgesCard : Claim7 := { stood := { row := fixEdgesRow, standIns := [], harness := (true, "b81da777e7a4471361fcf98a707e847c6ca79dd42846364b79745fb0da5729dd"), looks := false }, kinds := [], alts := [], laidByText := true, laidKinds := [.data, .data, .data, .data, .pinned], laidTests := true, laidLooks := .later }
def FixEdgesCardSaid : Prop := Claim7.holds Tryd.pinned (.plain (OpenSpec.ofChange fixEdgesSpec)) fixEdgesCard

/-- THE TIED CARD OF 'spillwaylaw2.FixTexts'. -/
def fixTextsCard : Claim7 := { stood := { row := fixTextsRow, standIns := [], harness := (true, "b81da777e7a4471361fcf98a707e847c6ca79dd42846364b79745fb0da5729dd"), looks := false }, kinds := [], alts := [], laidByText := true, laidKinds := [.data, .data, .data, .data, .pinned], laidTests := true, laidLooks := .later }
def FixTextsCardSaid : Prop := Claim7.holds Tryd.pinned (.plain (OpenSpec.ofChange fixTextsSpec)) fixTextsCard

/-- THE SECOND FORM's CARD OF 'spillwaylaw2.FixEdges'. -/
def fixEdgesUptoCard : Claim7 := { stood := { row := fixEdgesUptoRow, standIns := [], harness := (true, "b81da777e7a4471361fcf98a707e847c6ca79dd42846364b79745fb0da5729dd"), looks := false }, kinds := [], alts := [], laidByText := true, laidKinds := [.data, .data, .data, .data, .pinned], laidTests := true, laidLooks := .later }
def FixEdgesUptoCardSaid : Prop := Claim7.holds Tryd.pinned (.plain (OpenSpec.upto fixEdgesSpec)) fixEdgesUptoCard

/-- THE SECOND FORM's CARD OF 'spillwaylaw2.FixTexts'. -/
def fixTextsUptoCard : Claim7 := { stood := { row := fixTextsUptoRow, standIns := [], harness := (true, "b81da777e7a4471361fcf98a707e847c6ca79dd42846364b79745fb0da5729dd"), looks := false }, kinds := [], alts := [], laidByText := true, laidKinds := [.data, .data, .data, .data, .pinned], laidTests := true, laidLooks := .later }
def FixTextsUptoCardSaid : Prop := Claim7.holds Tryd.pinned (.plain (OpenSpec.upto fixTextsSpec)) fixTextsUptoCard
end Rows
end Go.Proofs.YtibdlcegmepbcabDoor
