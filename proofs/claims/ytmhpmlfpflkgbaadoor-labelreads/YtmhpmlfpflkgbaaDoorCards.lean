/-
  DERIVED. GIVEN WITH THE SEED: THE CARDS: each row of YtmhpmlfpflkgbaaDoorRows.lean that lists a variable, with what it lists TIED to the program's text (the seventh form; the later family's looks); each row that meets fmt, with fmt's text TOLD by the authors' own Lean function (tested against real Go, not proved from fmt's source: count such statements apart). THE CARD IS WHAT COUNTS. Prove the row's statement (the work); the ties are given (YtmhpmlfpflkgbaaDoorTie.lean); close each card by the builder's one call (the guide's Derived/Test/ToyasCard.lean, 'card_holds'). Laid BY PROGRAM, IN A SANDBOX (cutbox-door.mjs). By AI agents, Wed Nov 11 2026. No macro, syntax, notation, axiom, sorry.
-/
import Derived.Test.YtmhpmlfpflkgbaaDoorRows
import GoSem.ClaimSeven
namespace Go.Proofs.YtmhpmlfpflkgbaaDoor
namespace Rows

/-- THE TIED CARD OF 'spillwaylaw3.LabelReads'. -/
def labelReadsCard : Claim7 := { stood := { row := labelReadsRow, standIns := [], harness := (true, "7c35ece97cabcbaa1c2afc719ecf55d173e96c7beea8f9b90fc46ec07f130bd5"), looks := false }, kinds := [], alts := [], laidByText := true, laidKinds := [.data, .pinned], laidTests := true, laidLooks := .later }
def LabelReadsCardSaid : Prop := Claim7.holds Tryd.pinned (.plain (OpenSpec.ofChange labelReadsSpec)) labelReadsCard

/-- THE TIED CARD OF 'spillwaylaw3.LabelBack'. -/
def labelBackCard : Claim7 := { stood := { row := labelBackRow, standIns := [], harness := (true, "7c35ece97cabcbaa1c2afc719ecf55d173e96c7beea8f9b90fc46ec07f130bd5"), looks := false }, kinds := [], alts := [], laidByText := true, laidKinds := [.data, .pinned], laidTests := true, laidLooks := .later }
def LabelBackCardSaid : Prop := Claim7.holds Tryd.pinned (.plain (OpenSpec.ofChange labelBackSpec)) labelBackCard

/-- THE TIED CARD OF 'spillwaylaw3.LabelWith'. -/
def labelWithCard : Claim7 := { stood := { row := labelWithRow, standIns := [], harness := (true, "7c35ece97cabcbaa1c2afc719ecf55d173e96c7beea8f9b90fc46ec07f130bd5"), looks := false }, kinds := [], alts := [], laidByText := true, laidKinds := [.data, .pinned], laidTests := true, laidLooks := .later }
def LabelWithCardSaid : Prop := Claim7.holds Tryd.pinned (.plain (OpenSpec.ofChange labelWithSpec)) labelWithCard

/-- THE TIED CARD OF 'spillwaylaw3.LabelParts'. -/
def labelPartsCard : Claim7 := { stood := { row := labelPartsRow, standIns := [], harness := (true, "7c35ece97cabcbaa1c2afc719ecf55d173e96c7beea8f9b90fc46ec07f130bd5"), looks := false }, kinds := [], alts := [], laidByText := true, laidKinds := [.data, .pinned], laidTests := true, laidLooks := .later }
def LabelPartsCardSaid : Prop := Claim7.holds Tryd.pinned (.plain (OpenSpec.ofChange labelPartsSpec)) labelPartsCard

/-- THE TIED CARD OF 'spillwaylaw3.LabelBounds'. -/
def labelBoundsCard : Claim7 := { stood := { row := labelBoundsRow, standIns := [], harness := (true, "7c35ece97cabcbaa1c2afc719ecf55d173e96c7beea8f9b90fc46ec07f130bd5"), looks := false }, kinds := [], alts := [], laidByText := true, laidKinds := [.data, .pinned], laidTests := true, laidLooks := .later }
def LabelBoundsCardSaid : Prop := Claim7.holds Tryd.pinned (.plain (OpenSpec.ofChange labelBoundsSpec)) labelBoundsCard

/-- THE SECOND FORM's CARD OF 'spillwaylaw3.LabelReads'. -/
def labelReadsUptoCard : Claim7 := { stood := { row := labelReadsUptoRow, standIns := [], harness := (true, "7c35ece97cabcbaa1c2afc719ecf55d173e96c7beea8f9b90fc46ec07f130bd5"), looks := false }, kinds := [], alts := [], laidByText := true, laidKinds := [.data, .pinned], laidTests := true, laidLooks := .later }
def LabelReadsUptoCardSaid : Prop := Claim7.holds Tryd.pinned (.plain (OpenSpec.upto labelReadsSpec)) labelReadsUptoCard

/-- THE SECOND FORM's CARD OF 'spillwaylaw3.LabelBack'. -/
def labelBackUptoCard : Claim7 := { stood := { row := labelBackUptoRow, standIns := [], harness := (true, "7c35ece97cabcbaa1c2afc719ecf55d173e96c7beea8f9b90fc46ec07f130bd5"), looks := false }, kinds := [], alts := [], laidByText := true, laidKinds := [.data, .pinned], laidTests := true, laidLooks := .later }
def LabelBackUptoCardSaid : Prop := Claim7.holds Tryd.pinned (.plain (OpenSpec.upto labelBackSpec)) labelBackUptoCard

/-- THE SECOND FORM's CARD OF 'spillwaylaw3.LabelWith'. -/
def labelWithUptoCard : Claim7 := { stood := { row := labelWithUptoRow, standIns := [], harness := (true, "7c35ece97cabcbaa1c2afc719ecf55d173e96c7beea8f9b90fc46ec07f130bd5"), looks := false }, kinds := [], alts := [], laidByText := true, laidKinds := [.data, .pinned], laidTests := true, laidLooks := .later }
def LabelWithUptoCardSaid : Prop := Claim7.holds Tryd.pinned (.plain (OpenSpec.upto labelWithSpec)) labelWithUptoCard

/-- THE SECOND FORM's CARD OF 'spillwaylaw3.LabelParts'. -/
def labelPartsUptoCard : Claim7 := { stood := { row := labelPartsUptoRow, standIns := [], harness := (true, "7c35ece97cabcbaa1c2afc719ecf55d173e96c7beea8f9b90fc46ec07f130bd5"), looks := false }, kinds := [], alts := [], laidByText := true, laidKinds := [.data, .pinned], laidTests := true, laidLooks := .later }
def LabelPartsUptoCardSaid : Prop := Claim7.holds Tryd.pinned (.plain (OpenSpec.upto labelPartsSpec)) labelPartsUptoCard

/-- THE SECOND FORM's CARD OF 'spillwaylaw3.LabelBounds'. -/
def labelBoundsUptoCard : Claim7 := { stood := { row := labelBoundsUptoRow, standIns := [], harness := (true, "7c35ece97cabcbaa1c2afc719ecf55d173e96c7beea8f9b90fc46ec07f130bd5"), looks := false }, kinds := [], alts := [], laidByText := true, laidKinds := [.data, .pinned], laidTests := true, laidLooks := .later }
def LabelBoundsUptoCardSaid : Prop := Claim7.holds Tryd.pinned (.plain (OpenSpec.upto labelBoundsSpec)) labelBoundsUptoCard
end Rows
end Go.Proofs.YtmhpmlfpflkgbaaDoor
