/-
  DERIVED. GIVEN WITH THE SEED: THE CARDS: each row of YtjgckfcocmhnhaaGreatDoorRows.lean that lists a variable, with what it lists TIED to the program's text (the seventh form; the later family's looks); each row that meets fmt, with fmt's text TOLD by the authors' own Lean function (tested against real Go, not proved from fmt's source: count such statements apart). THE CARD IS WHAT COUNTS. Prove the row's statement (the work); the ties are given (YtjgckfcocmhnhaaGreatDoorTie.lean); close each card by the builder's one call (the guide's Derived/Test/ToyasCard.lean, 'card_holds'). Laid BY PROGRAM, IN A SANDBOX (cutbox-door.mjs). By AI agents, Wed Nov 11 2026. No macro, syntax, notation, axiom, sorry.
-/
import Derived.Test.YtjgckfcocmhnhaaGreatDoorRows
import GoSem.ClaimSeven
namespace Go.Proofs.YtjgckfcocmhnhaaGreatDoor
namespace Rows

/-- THE TIED CARD OF 'spillwaylaw15.SeriesPlays'. -/
def seriesPlaysCard : Claim7 := { stood := { row := seriesPlaysRow, standIns := [], harness := (true, "fb857430b3b786ad19cac2825078272dc5961d476618b9988f87b1258c0291dc"), looks := false }, kinds := [], alts := [], laidByText := true, laidKinds := [.data, .pinned], laidTests := true, laidLooks := .later }
def SeriesPlaysCardSaid : Prop := Claim7.holds Tryz.pinned (.plain (OpenSpec.ofChange seriesPlaysSpec)) seriesPlaysCard

/-- THE TIED CARD OF 'spillwaylaw15.SeriesCap'. -/
def seriesCapCard : Claim7 := { stood := { row := seriesCapRow, standIns := [], harness := (true, "fb857430b3b786ad19cac2825078272dc5961d476618b9988f87b1258c0291dc"), looks := false }, kinds := [], alts := [], laidByText := true, laidKinds := [.data, .pinned], laidTests := true, laidLooks := .later }
def SeriesCapCardSaid : Prop := Claim7.holds Tryz.pinned (.plain (OpenSpec.ofChange seriesCapSpec)) seriesCapCard

/-- THE TIED CARD OF 'spillwaylaw15.SeriesOver'. -/
def seriesOverCard : Claim7 := { stood := { row := seriesOverRow, standIns := [], harness := (true, "fb857430b3b786ad19cac2825078272dc5961d476618b9988f87b1258c0291dc"), looks := false }, kinds := [], alts := [], laidByText := true, laidKinds := [.data, .pinned], laidTests := true, laidLooks := .later }
def SeriesOverCardSaid : Prop := Claim7.holds Tryz.pinned (.plain (OpenSpec.ofChange seriesOverSpec)) seriesOverCard

/-- THE TIED CARD OF 'spillwaylaw15.SeriesApart'. -/
def seriesApartCard : Claim7 := { stood := { row := seriesApartRow, standIns := [], harness := (true, "fb857430b3b786ad19cac2825078272dc5961d476618b9988f87b1258c0291dc"), looks := false }, kinds := [], alts := [], laidByText := true, laidKinds := [.data, .pinned], laidTests := true, laidLooks := .later }
def SeriesApartCardSaid : Prop := Claim7.holds Tryz.pinned (.plain (OpenSpec.ofChange seriesApartSpec)) seriesApartCard

/-- THE TIED CARD OF 'spillwaylaw15.SeriesMatch'. -/
def seriesMatchCard : Claim7 := { stood := { row := seriesMatchRow, standIns := [], harness := (true, "fb857430b3b786ad19cac2825078272dc5961d476618b9988f87b1258c0291dc"), looks := false }, kinds := [], alts := [], laidByText := true, laidKinds := [.data, .pinned], laidTests := true, laidLooks := .later }
def SeriesMatchCardSaid : Prop := Claim7.holds Tryz.pinned (.plain (OpenSpec.ofChange seriesMatchSpec)) seriesMatchCard

/-- THE TIED CARD OF 'spillwaylaw15.SeriesAgain'. -/
def seriesAgainCard : Claim7 := { stood := { row := seriesAgainRow, standIns := [], harness := (true, "fb857430b3b786ad19cac2825078272dc5961d476618b9988f87b1258c0291dc"), looks := false }, kinds := [], alts := [], laidByText := true, laidKinds := [.data, .pinned], laidTests := true, laidLooks := .later }
def SeriesAgainCardSaid : Prop := Claim7.holds Tryz.pinned (.plain (OpenSpec.ofChange seriesAgainSpec)) seriesAgainCard

/-- THE SECOND FORM's CARD OF 'spillwaylaw15.SeriesPlays'. -/
def seriesPlaysUptoCard : Claim7 := { stood := { row := seriesPlaysUptoRow, standIns := [], harness := (true, "fb857430b3b786ad19cac2825078272dc5961d476618b9988f87b1258c0291dc"), looks := false }, kinds := [], alts := [], laidByText := true, laidKinds := [.data, .pinned], laidTests := true, laidLooks := .later }
def SeriesPlaysUptoCardSaid : Prop := Claim7.holds Tryz.pinned (.plain (OpenSpec.upto seriesPlaysSpec)) seriesPlaysUptoCard

/-- THE SECOND FORM's CARD OF 'spillwaylaw15.SeriesCap'. -/
def seriesCapUptoCard : Claim7 := { stood := { row := seriesCapUptoRow, standIns := [], harness := (true, "fb857430b3b786ad19cac2825078272dc5961d476618b9988f87b1258c0291dc"), looks := false }, kinds := [], alts := [], laidByText := true, laidKinds := [.data, .pinned], laidTests := true, laidLooks := .later }
def SeriesCapUptoCardSaid : Prop := Claim7.holds Tryz.pinned (.plain (OpenSpec.upto seriesCapSpec)) seriesCapUptoCard

/-- THE SECOND FORM's CARD OF 'spillwaylaw15.SeriesOver'. -/
def seriesOverUptoCard : Claim7 := { stood := { row := seriesOverUptoRow, standIns := [], harness := (true, "fb857430b3b786ad19cac2825078272dc5961d476618b9988f87b1258c0291dc"), looks := false }, kinds := [], alts := [], laidByText := true, laidKinds := [.data, .pinned], laidTests := true, laidLooks := .later }
def SeriesOverUptoCardSaid : Prop := Claim7.holds Tryz.pinned (.plain (OpenSpec.upto seriesOverSpec)) seriesOverUptoCard

/-- THE SECOND FORM's CARD OF 'spillwaylaw15.SeriesApart'. -/
def seriesApartUptoCard : Claim7 := { stood := { row := seriesApartUptoRow, standIns := [], harness := (true, "fb857430b3b786ad19cac2825078272dc5961d476618b9988f87b1258c0291dc"), looks := false }, kinds := [], alts := [], laidByText := true, laidKinds := [.data, .pinned], laidTests := true, laidLooks := .later }
def SeriesApartUptoCardSaid : Prop := Claim7.holds Tryz.pinned (.plain (OpenSpec.upto seriesApartSpec)) seriesApartUptoCard

/-- THE SECOND FORM's CARD OF 'spillwaylaw15.SeriesMatch'. -/
def seriesMatchUptoCard : Claim7 := { stood := { row := seriesMatchUptoRow, standIns := [], harness := (true, "fb857430b3b786ad19cac2825078272dc5961d476618b9988f87b1258c0291dc"), looks := false }, kinds := [], alts := [], laidByText := true, laidKinds := [.data, .pinned], laidTests := true, laidLooks := .later }
def SeriesMatchUptoCardSaid : Prop := Claim7.holds Tryz.pinned (.plain (OpenSpec.upto seriesMatchSpec)) seriesMatchUptoCard

/-- THE SECOND FORM's CARD OF 'spillwaylaw15.SeriesAgain'. -/
def seriesAgainUptoCard : Claim7 := { stood := { row := seriesAgainUptoRow, standIns := [], harness := (true, "fb857430b3b786ad19cac2825078272dc5961d476618b9988f87b1258c0291dc"), looks := false }, kinds := [], alts := [], laidByText := true, laidKinds := [.data, .pinned], laidTests := true, laidLooks := .later }
def SeriesAgainUptoCardSaid : Prop := Claim7.holds Tryz.pinned (.plain (OpenSpec.upto seriesAgainSpec)) seriesAgainUptoCard
end Rows
end Go.Proofs.YtjgckfcocmhnhaaGreatDoor
