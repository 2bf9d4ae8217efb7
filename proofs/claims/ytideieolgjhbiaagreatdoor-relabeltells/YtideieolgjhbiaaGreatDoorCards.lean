/-
  DERIVED. GIVEN WITH THE SEED: THE CARDS: each row of YtideieolgjhbiaaGreatDoorRows.lean that lists a variable, with what it lists TIED to the program's text (the seventh form; the later family's looks); each row that meets fmt, with fmt's text TOLD by the authors' own Lean function (tested against real Go, not proved from fmt's source: count such statements apart). THE CARD IS WHAT COUNTS. Prove the row's statement (the work); the ties are given (YtideieolgjhbiaaGreatDoorTie.lean); close each card by the builder's one call (the guide's Derived/Test/ToyasCard.lean, 'card_holds'). Laid BY PROGRAM, IN A SANDBOX (cutbox-door.mjs). By AI agents, Wed Nov 11 2026. No macro, syntax, notation, axiom, sorry.
-/
import Derived.Test.YtideieolgjhbiaaGreatDoorRows
import GoSem.ClaimSeven
namespace Go.Proofs.YtideieolgjhbiaaGreatDoor
namespace Rows

/-- THE TIED CARD OF 'spillwaylaw5.RelabelTells'. -/
def relabelTellsCard : Claim7 := { stood := { row := relabelTellsRow, standIns := [], harness := (true, "239aeeb957d1f295548c6f70f906923867540864df6fd64f66c8631ccd8720e1"), looks := false }, kinds := [], alts := [], laidByText := true, laidKinds := [.data, .pinned], laidTests := true, laidLooks := .later }
def RelabelTellsCardSaid : Prop := Claim7.holds Tryz.pinned (.plain (OpenSpec.ofChange relabelTellsSpec)) relabelTellsCard

/-- THE TIED CARD OF 'spillwaylaw5.RelabelSteps'. -/
def relabelStepsCard : Claim7 := { stood := { row := relabelStepsRow, standIns := [], harness := (true, "239aeeb957d1f295548c6f70f906923867540864df6fd64f66c8631ccd8720e1"), looks := false }, kinds := [], alts := [], laidByText := true, laidKinds := [.data, .pinned], laidTests := true, laidLooks := .later }
def RelabelStepsCardSaid : Prop := Claim7.holds Tryz.pinned (.plain (OpenSpec.ofChange relabelStepsSpec)) relabelStepsCard

/-- THE TIED CARD OF 'spillwaylaw5.RelabelKeeps'. -/
def relabelKeepsCard : Claim7 := { stood := { row := relabelKeepsRow, standIns := [], harness := (true, "239aeeb957d1f295548c6f70f906923867540864df6fd64f66c8631ccd8720e1"), looks := false }, kinds := [], alts := [], laidByText := true, laidKinds := [.data, .pinned], laidTests := true, laidLooks := .later }
def RelabelKeepsCardSaid : Prop := Claim7.holds Tryz.pinned (.plain (OpenSpec.ofChange relabelKeepsSpec)) relabelKeepsCard

/-- THE TIED CARD OF 'spillwaylaw5.RelabelDrops'. -/
def relabelDropsCard : Claim7 := { stood := { row := relabelDropsRow, standIns := [], harness := (true, "239aeeb957d1f295548c6f70f906923867540864df6fd64f66c8631ccd8720e1"), looks := false }, kinds := [], alts := [], laidByText := true, laidKinds := [.data, .pinned], laidTests := true, laidLooks := .later }
def RelabelDropsCardSaid : Prop := Claim7.holds Tryz.pinned (.plain (OpenSpec.ofChange relabelDropsSpec)) relabelDropsCard

/-- THE TIED CARD OF 'spillwaylaw5.RelabelFills'. -/
def relabelFillsCard : Claim7 := { stood := { row := relabelFillsRow, standIns := [], harness := (true, "239aeeb957d1f295548c6f70f906923867540864df6fd64f66c8631ccd8720e1"), looks := false }, kinds := [], alts := [], laidByText := true, laidKinds := [.data, .pinned], laidTests := true, laidLooks := .later }
def RelabelFillsCardSaid : Prop := Claim7.holds Tryz.pinned (.plain (OpenSpec.ofChange relabelFillsSpec)) relabelFillsCard

/-- THE SECOND FORM's CARD OF 'spillwaylaw5.RelabelTells'. -/
def relabelTellsUptoCard : Claim7 := { stood := { row := relabelTellsUptoRow, standIns := [], harness := (true, "239aeeb957d1f295548c6f70f906923867540864df6fd64f66c8631ccd8720e1"), looks := false }, kinds := [], alts := [], laidByText := true, laidKinds := [.data, .pinned], laidTests := true, laidLooks := .later }
def RelabelTellsUptoCardSaid : Prop := Claim7.holds Tryz.pinned (.plain (OpenSpec.upto relabelTellsSpec)) relabelTellsUptoCard

/-- THE SECOND FORM's CARD OF 'spillwaylaw5.RelabelSteps'. -/
def relabelStepsUptoCard : Claim7 := { stood := { row := relabelStepsUptoRow, standIns := [], harness := (true, "239aeeb957d1f295548c6f70f906923867540864df6fd64f66c8631ccd8720e1"), looks := false }, kinds := [], alts := [], laidByText := true, laidKinds := [.data, .pinned], laidTests := true, laidLooks := .later }
def RelabelStepsUptoCardSaid : Prop := Claim7.holds Tryz.pinned (.plain (OpenSpec.upto relabelStepsSpec)) relabelStepsUptoCard

/-- THE SECOND FORM's CARD OF 'spillwaylaw5.RelabelKeeps'. -/
def relabelKeepsUptoCard : Claim7 := { stood := { row := relabelKeepsUptoRow, standIns := [], harness := (true, "239aeeb957d1f295548c6f70f906923867540864df6fd64f66c8631ccd8720e1"), looks := false }, kinds := [], alts := [], laidByText := true, laidKinds := [.data, .pinned], laidTests := true, laidLooks := .later }
def RelabelKeepsUptoCardSaid : Prop := Claim7.holds Tryz.pinned (.plain (OpenSpec.upto relabelKeepsSpec)) relabelKeepsUptoCard

/-- THE SECOND FORM's CARD OF 'spillwaylaw5.RelabelDrops'. -/
def relabelDropsUptoCard : Claim7 := { stood := { row := relabelDropsUptoRow, standIns := [], harness := (true, "239aeeb957d1f295548c6f70f906923867540864df6fd64f66c8631ccd8720e1"), looks := false }, kinds := [], alts := [], laidByText := true, laidKinds := [.data, .pinned], laidTests := true, laidLooks := .later }
def RelabelDropsUptoCardSaid : Prop := Claim7.holds Tryz.pinned (.plain (OpenSpec.upto relabelDropsSpec)) relabelDropsUptoCard

/-- THE SECOND FORM's CARD OF 'spillwaylaw5.RelabelFills'. -/
def relabelFillsUptoCard : Claim7 := { stood := { row := relabelFillsUptoRow, standIns := [], harness := (true, "239aeeb957d1f295548c6f70f906923867540864df6fd64f66c8631ccd8720e1"), looks := false }, kinds := [], alts := [], laidByText := true, laidKinds := [.data, .pinned], laidTests := true, laidLooks := .later }
def RelabelFillsUptoCardSaid : Prop := Claim7.holds Tryz.pinned (.plain (OpenSpec.upto relabelFillsSpec)) relabelFillsUptoCard
end Rows
end Go.Proofs.YtideieolgjhbiaaGreatDoor
