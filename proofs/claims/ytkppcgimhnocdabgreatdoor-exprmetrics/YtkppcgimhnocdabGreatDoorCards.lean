/-
  DERIVED. GIVEN WITH THE SEED: THE CARDS: each row of YtkppcgimhnocdabGreatDoorRows.lean that lists a variable, with what it lists TIED to the program's text (the seventh form; the later family's looks); each row that meets fmt, with fmt's text TOLD by the authors' own Lean function (tested against real Go, not proved from fmt's source: count such statements apart). THE CARD IS WHAT COUNTS. Prove the row's statement (the work); the ties are given (YtkppcgimhnocdabGreatDoorTie.lean); close each card by the builder's one call (the guide's Derived/Test/ToyasCard.lean, 'card_holds'). Laid BY PROGRAM, IN A SANDBOX (cutbox-door.mjs). By AI agents, Wed Nov 11 2026. No macro, syntax, notation, axiom, sorry.
-/
import Derived.Test.YtkppcgimhnocdabGreatDoorRows
import GoSem.ClaimSeven
namespace Go.Proofs.YtkppcgimhnocdabGreatDoor
namespace Rows

/-- THE TIED CARD OF 'spillwaylaw8.ExprCaps'. -/
def exprCapsCard : Claim7 := { stood := { row := exprCapsRow, standIns := [], harness := (true, "de27a6e6fe403ccb34f493b4989840ed7712091a63239ac79da314bb4edb8d8c"), looks := true }, kinds := [], alts := [], laidByText := true, laidKinds := [.data, .data, .data, .data, .sentinel, .sentinel, .pinned], laidTests := true, laidLooks := .later }
def ExprCapsCardSaid : Prop := Claim7.holds Tryz.pinned (.plain (OpenSpec.ofChange exprCapsSpec)) exprCapsCard

/-- THE TIED CARD OF 'spillwaylaw8.ExprTokens'. -/
def exprTokensCard : Claim7 := { stood := { row := exprTokensRow, standIns := [], harness := (true, "de27a6e6fe403ccb34f493b4989840ed7712091a63239ac79da314bb4edb8d8c"), looks := true }, kinds := [], alts := [], laidByText := true, laidKinds := [.data, .data, .data, .data, .sentinel, .sentinel, .pinned], laidTests := true, laidLooks := .later }
def ExprTokensCardSaid : Prop := Claim7.holds Tryz.pinned (.plain (OpenSpec.ofChange exprTokensSpec)) exprTokensCard

/-- THE TIED CARD OF 'spillwaylaw8.ExprBrackets'. -/
def exprBracketsCard : Claim7 := { stood := { row := exprBracketsRow, standIns := [], harness := (true, "de27a6e6fe403ccb34f493b4989840ed7712091a63239ac79da314bb4edb8d8c"), looks := true }, kinds := [], alts := [], laidByText := true, laidKinds := [.data, .data, .data, .data, .sentinel, .sentinel, .pinned], laidTests := true, laidLooks := .later }
def ExprBracketsCardSaid : Prop := Claim7.holds Tryz.pinned (.plain (OpenSpec.ofChange exprBracketsSpec)) exprBracketsCard

/-- THE TIED CARD OF 'spillwaylaw8.ExprMetrics'. -/
def exprMetricsCard : Claim7 := { stood := { row := exprMetricsRow, standIns := [], harness := (true, "de27a6e6fe403ccb34f493b4989840ed7712091a63239ac79da314bb4edb8d8c"), looks := true }, kinds := [], alts := [], laidByText := true, laidKinds := [.data, .data, .data, .data, .sentinel, .sentinel, .pinned], laidTests := true, laidLooks := .later }
def ExprMetricsCardSaid : Prop := Claim7.holds Tryz.pinned (.plain (OpenSpec.ofChange exprMetricsSpec)) exprMetricsCard

/-- THE SECOND FORM's CARD OF 'spillwaylaw8.ExprCaps'. -/
def exprCapsUptoCard : Claim7 := { stood := { row := exprCapsUptoRow, standIns := [], harness := (true, "de27a6e6fe403ccb34f493b4989840ed7712091a63239ac79da314bb4edb8d8c"), looks := true }, kinds := [], alts := [], laidByText := true, laidKinds := [.data, .data, .data, .data, .sentinel, .sentinel, .pinned], laidTests := true, laidLooks := .later }
def ExprCapsUptoCardSaid : Prop := Claim7.holds Tryz.pinned (.plain (OpenSpec.upto exprCapsSpec)) exprCapsUptoCard

/-- THE SECOND FORM's CARD OF 'spillwaylaw8.ExprTokens'. -/
def exprTokensUptoCard : Claim7 := { stood := { row := exprTokensUptoRow, standIns := [], harness := (true, "de27a6e6fe403ccb34f493b4989840ed7712091a63239ac79da314bb4edb8d8c"), looks := true }, kinds := [], alts := [], laidByText := true, laidKinds := [.data, .data, .data, .data, .sentinel, .sentinel, .pinned], laidTests := true, laidLooks := .later }
def ExprTokensUptoCardSaid : Prop := Claim7.holds Tryz.pinned (.plain (OpenSpec.upto exprTokensSpec)) exprTokensUptoCard

/-- THE SECOND FORM's CARD OF 'spillwaylaw8.ExprBrackets'. -/
def exprBracketsUptoCard : Claim7 := { stood := { row := exprBracketsUptoRow, standIns := [], harness := (true, "de27a6e6fe403ccb34f493b4989840ed7712091a63239ac79da314bb4edb8d8c"), looks := true }, kinds := [], alts := [], laidByText := true, laidKinds := [.data, .data, .data, .data, .sentinel, .sentinel, .pinned], laidTests := true, laidLooks := .later }
def ExprBracketsUptoCardSaid : Prop := Claim7.holds Tryz.pinned (.plain (OpenSpec.upto exprBracketsSpec)) exprBracketsUptoCard

/-- THE SECOND FORM's CARD OF 'spillwaylaw8.ExprMetrics'. -/
def exprMetricsUptoCard : Claim7 := { stood := { row := exprMetricsUptoRow, standIns := [], harness := (true, "de27a6e6fe403ccb34f493b4989840ed7712091a63239ac79da314bb4edb8d8c"), looks := true }, kinds := [], alts := [], laidByText := true, laidKinds := [.data, .data, .data, .data, .sentinel, .sentinel, .pinned], laidTests := true, laidLooks := .later }
def ExprMetricsUptoCardSaid : Prop := Claim7.holds Tryz.pinned (.plain (OpenSpec.upto exprMetricsSpec)) exprMetricsUptoCard
end Rows
end Go.Proofs.YtkppcgimhnocdabGreatDoor
