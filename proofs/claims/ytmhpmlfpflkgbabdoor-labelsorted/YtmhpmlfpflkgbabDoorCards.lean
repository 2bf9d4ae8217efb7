/-
  DERIVED. GIVEN WITH THE SEED: THE CARDS: each row of YtmhpmlfpflkgbabDoorRows.lean that lists a variable, with what it lists TIED to the program's text (the seventh form; the later family's looks); each row that meets fmt, with fmt's text TOLD by the authors' own Lean function (tested against real Go, not proved from fmt's source: count such statements apart). THE CARD IS WHAT COUNTS. Prove the row's statement (the work); the ties are given (YtmhpmlfpflkgbabDoorTie.lean); close each card by the builder's one call (the guide's Derived/Test/ToyasCard.lean, 'card_holds'). Laid BY PROGRAM, IN A SANDBOX (cutbox-door.mjs). By AI agents, Wed Nov 11 2026. No macro, syntax, notation, axiom, sorry.
-/
import Derived.Test.YtmhpmlfpflkgbabDoorRows
import GoSem.ClaimSeven
namespace Go.Proofs.YtmhpmlfpflkgbabDoor
namespace Rows

/-- THE TIED CARD OF 'spillwaylaw3.LabelSorted'. -/
def labelSortedCard : Claim7 := { stood := { row := labelSortedRow, standIns := [], harness := (true, "b0233f12e61b93a4895e6639de2b1b76395871b257a80a0d88c901276ca50f7d"), looks := false }, kinds := [], alts := [], laidByText := true, laidKinds := [.data, .pinned], laidTests := true, laidLooks := .later }
def LabelSortedCardSaid : Prop := Claim7.holds Tryd.pinned (.plain (OpenSpec.ofChange labelSortedSpec)) labelSortedCard

/-- THE TIED CARD OF 'spillwaylaw3.LabelCmp'. -/
def labelCmpCard : Claim7 := { stood := { row := labelCmpRow, standIns := [], harness := (true, "b0233f12e61b93a4895e6639de2b1b76395871b257a80a0d88c901276ca50f7d"), looks := false }, kinds := [], alts := [], laidByText := true, laidKinds := [.data, .pinned], laidTests := true, laidLooks := .later }
def LabelCmpCardSaid : Prop := Claim7.holds Tryd.pinned (.plain (OpenSpec.ofChange labelCmpSpec)) labelCmpCard

/-- THE TIED CARD OF 'spillwaylaw3.LabelQuotes'. -/
def labelQuotesCard : Claim7 := { stood := { row := labelQuotesRow, standIns := [], harness := (true, "b0233f12e61b93a4895e6639de2b1b76395871b257a80a0d88c901276ca50f7d"), looks := false }, kinds := [], alts := [], laidByText := true, laidKinds := [.data, .pinned], laidTests := true, laidLooks := .later }
def LabelQuotesCardSaid : Prop := Claim7.holds Tryd.pinned (.plain (OpenSpec.ofChange labelQuotesSpec)) labelQuotesCard

/-- THE SECOND FORM's CARD OF 'spillwaylaw3.LabelSorted'. -/
def labelSortedUptoCard : Claim7 := { stood := { row := labelSortedUptoRow, standIns := [], harness := (true, "b0233f12e61b93a4895e6639de2b1b76395871b257a80a0d88c901276ca50f7d"), looks := false }, kinds := [], alts := [], laidByText := true, laidKinds := [.data, .pinned], laidTests := true, laidLooks := .later }
def LabelSortedUptoCardSaid : Prop := Claim7.holds Tryd.pinned (.plain (OpenSpec.upto labelSortedSpec)) labelSortedUptoCard

/-- THE SECOND FORM's CARD OF 'spillwaylaw3.LabelCmp'. -/
def labelCmpUptoCard : Claim7 := { stood := { row := labelCmpUptoRow, standIns := [], harness := (true, "b0233f12e61b93a4895e6639de2b1b76395871b257a80a0d88c901276ca50f7d"), looks := false }, kinds := [], alts := [], laidByText := true, laidKinds := [.data, .pinned], laidTests := true, laidLooks := .later }
def LabelCmpUptoCardSaid : Prop := Claim7.holds Tryd.pinned (.plain (OpenSpec.upto labelCmpSpec)) labelCmpUptoCard

/-- THE SECOND FORM's CARD OF 'spillwaylaw3.LabelQuotes'. -/
def labelQuotesUptoCard : Claim7 := { stood := { row := labelQuotesUptoRow, standIns := [], harness := (true, "b0233f12e61b93a4895e6639de2b1b76395871b257a80a0d88c901276ca50f7d"), looks := false }, kinds := [], alts := [], laidByText := true, laidKinds := [.data, .pinned], laidTests := true, laidLooks := .later }
def LabelQuotesUptoCardSaid : Prop := Claim7.holds Tryd.pinned (.plain (OpenSpec.upto labelQuotesSpec)) labelQuotesUptoCard
end Rows
end Go.Proofs.YtmhpmlfpflkgbabDoor
