/-
  DERIVED. GIVEN WITH THE SEED: THE CARDS: each row of YtkppcgimhnocdaaGreatDoorRows.lean that lists a variable, with what it lists TIED to the program's text (the seventh form; the later family's looks); each row that meets fmt, with fmt's text TOLD by the authors' own Lean function (tested against real Go, not proved from fmt's source: count such statements apart). THE CARD IS WHAT COUNTS. Prove the row's statement (the work); the ties are given (YtkppcgimhnocdaaGreatDoorTie.lean); close each card by the builder's one call (the guide's Derived/Test/ToyasCard.lean, 'card_holds'). Laid BY PROGRAM, IN A SANDBOX (cutbox-door.mjs). By AI agents, Wed Nov 11 2026. No macro, syntax, notation, axiom, sorry.
-/
import Derived.Test.YtkppcgimhnocdaaGreatDoorRows
import GoSem.ClaimSeven
namespace Go.Proofs.YtkppcgimhnocdaaGreatDoor
namespace Rows

/-- THE TIED CARD OF 'spillwaylaw8.ExprTells'. -/
def exprTellsCard : Claim7 := { stood := { row := exprTellsRow, standIns := [], harness := (true, "c1cea7cbe15cbc77f432ea533c39a2743800b6a3c2a517e17a640eef7bc342ac"), looks := true }, kinds := [], alts := [], laidByText := true, laidKinds := [.data, .data, .data, .data, .sentinel, .sentinel, .pinned], laidTests := true, laidLooks := .later }
def ExprTellsCardSaid : Prop := Claim7.holds Tryz.pinned (.plain (OpenSpec.ofChange exprTellsSpec)) exprTellsCard

/-- THE TIED CARD OF 'spillwaylaw8.ExprReads'. -/
def exprReadsCard : Claim7 := { stood := { row := exprReadsRow, standIns := [], harness := (true, "c1cea7cbe15cbc77f432ea533c39a2743800b6a3c2a517e17a640eef7bc342ac"), looks := true }, kinds := [], alts := [], laidByText := true, laidKinds := [.data, .data, .data, .data, .sentinel, .sentinel, .pinned], laidTests := true, laidLooks := .later }
def ExprReadsCardSaid : Prop := Claim7.holds Tryz.pinned (.plain (OpenSpec.ofChange exprReadsSpec)) exprReadsCard

/-- THE TIED CARD OF 'spillwaylaw8.ExprTrees'. -/
def exprTreesCard : Claim7 := { stood := { row := exprTreesRow, standIns := [], harness := (true, "c1cea7cbe15cbc77f432ea533c39a2743800b6a3c2a517e17a640eef7bc342ac"), looks := true }, kinds := [], alts := [], laidByText := true, laidKinds := [.data, .data, .data, .data, .sentinel, .sentinel, .pinned], laidTests := true, laidLooks := .later }
def ExprTreesCardSaid : Prop := Claim7.holds Tryz.pinned (.plain (OpenSpec.ofChange exprTreesSpec)) exprTreesCard

/-- THE TIED CARD OF 'spillwaylaw8.ExprBack'. -/
def exprBackCard : Claim7 := { stood := { row := exprBackRow, standIns := [], harness := (true, "c1cea7cbe15cbc77f432ea533c39a2743800b6a3c2a517e17a640eef7bc342ac"), looks := true }, kinds := [], alts := [], laidByText := true, laidKinds := [.data, .data, .data, .data, .sentinel, .sentinel, .pinned], laidTests := true, laidLooks := .later }
def ExprBackCardSaid : Prop := Claim7.holds Tryz.pinned (.plain (OpenSpec.ofChange exprBackSpec)) exprBackCard

/-- THE TIED CARD OF 'spillwaylaw8.ExprNests'. -/
def exprNestsCard : Claim7 := { stood := { row := exprNestsRow, standIns := [], harness := (true, "c1cea7cbe15cbc77f432ea533c39a2743800b6a3c2a517e17a640eef7bc342ac"), looks := true }, kinds := [], alts := [], laidByText := true, laidKinds := [.data, .data, .data, .data, .sentinel, .sentinel, .pinned], laidTests := true, laidLooks := .later }
def ExprNestsCardSaid : Prop := Claim7.holds Tryz.pinned (.plain (OpenSpec.ofChange exprNestsSpec)) exprNestsCard

/-- THE TIED CARD OF 'spillwaylaw8.ExprBinds'. -/
def exprBindsCard : Claim7 := { stood := { row := exprBindsRow, standIns := [], harness := (true, "c1cea7cbe15cbc77f432ea533c39a2743800b6a3c2a517e17a640eef7bc342ac"), looks := true }, kinds := [], alts := [], laidByText := true, laidKinds := [.data, .data, .data, .data, .sentinel, .sentinel, .pinned], laidTests := true, laidLooks := .later }
def ExprBindsCardSaid : Prop := Claim7.holds Tryz.pinned (.plain (OpenSpec.ofChange exprBindsSpec)) exprBindsCard

/-- THE SECOND FORM's CARD OF 'spillwaylaw8.ExprTells'. -/
def exprTellsUptoCard : Claim7 := { stood := { row := exprTellsUptoRow, standIns := [], harness := (true, "c1cea7cbe15cbc77f432ea533c39a2743800b6a3c2a517e17a640eef7bc342ac"), looks := true }, kinds := [], alts := [], laidByText := true, laidKinds := [.data, .data, .data, .data, .sentinel, .sentinel, .pinned], laidTests := true, laidLooks := .later }
def ExprTellsUptoCardSaid : Prop := Claim7.holds Tryz.pinned (.plain (OpenSpec.upto exprTellsSpec)) exprTellsUptoCard

/-- THE SECOND FORM's CARD OF 'spillwaylaw8.ExprReads'. -/
def exprReadsUptoCard : Claim7 := { stood := { row := exprReadsUptoRow, standIns := [], harness := (true, "c1cea7cbe15cbc77f432ea533c39a2743800b6a3c2a517e17a640eef7bc342ac"), looks := true }, kinds := [], alts := [], laidByText := true, laidKinds := [.data, .data, .data, .data, .sentinel, .sentinel, .pinned], laidTests := true, laidLooks := .later }
def ExprReadsUptoCardSaid : Prop := Claim7.holds Tryz.pinned (.plain (OpenSpec.upto exprReadsSpec)) exprReadsUptoCard

/-- THE SECOND FORM's CARD OF 'spillwaylaw8.ExprTrees'. -/
def exprTreesUptoCard : Claim7 := { stood := { row := exprTreesUptoRow, standIns := [], harness := (true, "c1cea7cbe15cbc77f432ea533c39a2743800b6a3c2a517e17a640eef7bc342ac"), looks := true }, kinds := [], alts := [], laidByText := true, laidKinds := [.data, .data, .data, .data, .sentinel, .sentinel, .pinned], laidTests := true, laidLooks := .later }
def ExprTreesUptoCardSaid : Prop := Claim7.holds Tryz.pinned (.plain (OpenSpec.upto exprTreesSpec)) exprTreesUptoCard

/-- THE SECOND FORM's CARD OF 'spillwaylaw8.ExprBack'. -/
def exprBackUptoCard : Claim7 := { stood := { row := exprBackUptoRow, standIns := [], harness := (true, "c1cea7cbe15cbc77f432ea533c39a2743800b6a3c2a517e17a640eef7bc342ac"), looks := true }, kinds := [], alts := [], laidByText := true, laidKinds := [.data, .data, .data, .data, .sentinel, .sentinel, .pinned], laidTests := true, laidLooks := .later }
def ExprBackUptoCardSaid : Prop := Claim7.holds Tryz.pinned (.plain (OpenSpec.upto exprBackSpec)) exprBackUptoCard

/-- THE SECOND FORM's CARD OF 'spillwaylaw8.ExprNests'. -/
def exprNestsUptoCard : Claim7 := { stood := { row := exprNestsUptoRow, standIns := [], harness := (true, "c1cea7cbe15cbc77f432ea533c39a2743800b6a3c2a517e17a640eef7bc342ac"), looks := true }, kinds := [], alts := [], laidByText := true, laidKinds := [.data, .data, .data, .data, .sentinel, .sentinel, .pinned], laidTests := true, laidLooks := .later }
def ExprNestsUptoCardSaid : Prop := Claim7.holds Tryz.pinned (.plain (OpenSpec.upto exprNestsSpec)) exprNestsUptoCard

/-- THE SECOND FORM's CARD OF 'spillwaylaw8.ExprBinds'. -/
def exprBindsUptoCard : Claim7 := { stood := { row := exprBindsUptoRow, standIns := [], harness := (true, "c1cea7cbe15cbc77f432ea533c39a2743800b6a3c2a517e17a640eef7bc342ac"), looks := true }, kinds := [], alts := [], laidByText := true, laidKinds := [.data, .data, .data, .data, .sentinel, .sentinel, .pinned], laidTests := true, laidLooks := .later }
def ExprBindsUptoCardSaid : Prop := Claim7.holds Tryz.pinned (.plain (OpenSpec.upto exprBindsSpec)) exprBindsUptoCard
end Rows
end Go.Proofs.YtkppcgimhnocdaaGreatDoor
