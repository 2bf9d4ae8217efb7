/-
  DERIVED. GIVEN WITH THE SEED: THE CARDS: each row of YteankdaegdhfiaaGreatDoorRows.lean that lists a variable, with what it lists TIED to the program's text (the seventh form; the later family's looks); each row that meets fmt, with fmt's text TOLD by the authors' own Lean function (tested against real Go, not proved from fmt's source: count such statements apart). THE CARD IS WHAT COUNTS. Prove the row's statement (the work); the ties are given (YteankdaegdhfiaaGreatDoorTie.lean); close each card by the builder's one call (the guide's Derived/Test/ToyasCard.lean, 'card_holds'). Laid BY PROGRAM, IN A SANDBOX (cutbox-door.mjs). By AI agents, Wed Nov 11 2026. No macro, syntax, notation, axiom, sorry.
-/
import Derived.Test.YteankdaegdhfiaaGreatDoorRows
import GoSem.ClaimSeven
namespace Go.Proofs.YteankdaegdhfiaaGreatDoor
namespace Rows

/-- THE TIED CARD OF 'spillwaylaw8.ExprTells'. -/
def exprTellsCard : Claim7 := { stood := { row := exprTellsRow, standIns := [], harness := (true, "fc8e6130e7cffdc4306bfdd31a4c3f023174449f413e0b6ecd463494529c6174"), looks := true }, kinds := [], alts := [], laidByText := true, laidKinds := [.data, .data, .data, .data, .sentinel, .sentinel, .pinned], laidTests := true, laidLooks := .later }
def ExprTellsCardSaid : Prop := Claim7.holds Tryz.pinned (.plain (OpenSpec.ofChange exprTellsSpec)) exprTellsCard

/-- THE TIED CARD OF 'spillwaylaw8.ExprReads'. -/
def exprReadsCard : Claim7 := { stood := { row := exprReadsRow, standIns := [], harness := (true, "fc8e6130e7cffdc4306bfdd31a4c3f023174449f413e0b6ecd463494529c6174"), looks := true }, kinds := [], alts := [], laidByText := true, laidKinds := [.data, .data, .data, .data, .sentinel, .sentinel, .pinned], laidTests := true, laidLooks := .later }
def ExprReadsCardSaid : Prop := Claim7.holds Tryz.pinned (.plain (OpenSpec.ofChange exprReadsSpec)) exprReadsCard

/-- THE TIED CARD OF 'spillwaylaw8.ExprTrees'. -/
def exprTreesCard : Claim7 := { stood := { row := exprTreesRow, standIns := [], harness := (true, "fc8e6130e7cffdc4306bfdd31a4c3f023174449f413e0b6ecd463494529c6174"), looks := true }, kinds := [], alts := [], laidByText := true, laidKinds := [.data, .data, .data, .data, .sentinel, .sentinel, .pinned], laidTests := true, laidLooks := .later }
def ExprTreesCardSaid : Prop := Claim7.holds Tryz.pinned (.plain (OpenSpec.ofChange exprTreesSpec)) exprTreesCard

/-- THE TIED CARD OF 'spillwaylaw9.TypesTell'. -/
def typesTellCard : Claim7 := { stood := { row := typesTellRow, standIns := [], harness := (true, "fc8e6130e7cffdc4306bfdd31a4c3f023174449f413e0b6ecd463494529c6174"), looks := true }, kinds := [], alts := [], laidByText := true, laidKinds := [.data, .data, .data, .data, .handle, .sentinel, .sentinel, .pinned], laidTests := true, laidLooks := .later }
def TypesTellCardSaid : Prop := Claim7.holds Tryz.pinned (.plain (OpenSpec.ofChange typesTellSpec)) typesTellCard

/-- THE TIED CARD OF 'spillwaylaw9.TypesTexts'. -/
def typesTextsCard : Claim7 := { stood := { row := typesTextsRow, standIns := [], harness := (true, "fc8e6130e7cffdc4306bfdd31a4c3f023174449f413e0b6ecd463494529c6174"), looks := true }, kinds := [], alts := [], laidByText := true, laidKinds := [.data, .data, .data, .data, .handle, .sentinel, .sentinel, .pinned], laidTests := true, laidLooks := .later }
def TypesTextsCardSaid : Prop := Claim7.holds Tryz.pinned (.plain (OpenSpec.ofChange typesTextsSpec)) typesTextsCard

/-- THE TIED CARD OF 'spillwaylaw9.TypesKids'. -/
def typesKidsCard : Claim7 := { stood := { row := typesKidsRow, standIns := [], harness := (true, "fc8e6130e7cffdc4306bfdd31a4c3f023174449f413e0b6ecd463494529c6174"), looks := true }, kinds := [], alts := [], laidByText := true, laidKinds := [.data, .data, .data, .data, .handle, .sentinel, .sentinel, .pinned], laidTests := true, laidLooks := .later }
def TypesKidsCardSaid : Prop := Claim7.holds Tryz.pinned (.plain (OpenSpec.ofChange typesKidsSpec)) typesKidsCard

/-- THE TIED CARD OF 'spillwaylaw9.TypesWraps'. -/
def typesWrapsCard : Claim7 := { stood := { row := typesWrapsRow, standIns := [], harness := (true, "fc8e6130e7cffdc4306bfdd31a4c3f023174449f413e0b6ecd463494529c6174"), looks := true }, kinds := [], alts := [], laidByText := true, laidKinds := [.data, .data, .data, .data, .handle, .sentinel, .sentinel, .pinned], laidTests := true, laidLooks := .later }
def TypesWrapsCardSaid : Prop := Claim7.holds Tryz.pinned (.plain (OpenSpec.ofChange typesWrapsSpec)) typesWrapsCard

/-- THE TIED CARD OF 'spillwaylaw9.TypesHorizons'. -/
def typesHorizonsCard : Claim7 := { stood := { row := typesHorizonsRow, standIns := [], harness := (true, "fc8e6130e7cffdc4306bfdd31a4c3f023174449f413e0b6ecd463494529c6174"), looks := true }, kinds := [], alts := [], laidByText := true, laidKinds := [.data, .data, .data, .data, .handle, .sentinel, .sentinel, .pinned], laidTests := true, laidLooks := .later }
def TypesHorizonsCardSaid : Prop := Claim7.holds Tryz.pinned (.plain (OpenSpec.ofChange typesHorizonsSpec)) typesHorizonsCard

/-- THE TIED CARD OF 'spillwaylaw9.TypesRanged'. -/
def typesRangedCard : Claim7 := { stood := { row := typesRangedRow, standIns := [], harness := (true, "fc8e6130e7cffdc4306bfdd31a4c3f023174449f413e0b6ecd463494529c6174"), looks := true }, kinds := [], alts := [], laidByText := true, laidKinds := [.data, .data, .data, .data, .handle, .sentinel, .sentinel, .pinned], laidTests := true, laidLooks := .later }
def TypesRangedCardSaid : Prop := Claim7.holds Tryz.pinned (.plain (OpenSpec.ofChange typesRangedSpec)) typesRangedCard

/-- THE SECOND FORM's CARD OF 'spillwaylaw8.ExprTells'. -/
def exprTellsUptoCard : Claim7 := { stood := { row := exprTellsUptoRow, standIns := [], harness := (true, "fc8e6130e7cffdc4306bfdd31a4c3f023174449f413e0b6ecd463494529c6174"), looks := true }, kinds := [], alts := [], laidByText := true, laidKinds := [.data, .data, .data, .data, .sentinel, .sentinel, .pinned], laidTests := true, laidLooks := .later }
def ExprTellsUptoCardSaid : Prop := Claim7.holds Tryz.pinned (.plain (OpenSpec.upto exprTellsSpec)) exprTellsUptoCard

/-- THE SECOND FORM's CARD OF 'spillwaylaw8.ExprReads'. -/
def exprReadsUptoCard : Claim7 := { stood := { row := exprReadsUptoRow, standIns := [], harness := (true, "fc8e6130e7cffdc4306bfdd31a4c3f023174449f413e0b6ecd463494529c6174"), looks := true }, kinds := [], alts := [], laidByText := true, laidKinds := [.data, .data, .data, .data, .sentinel, .sentinel, .pinned], laidTests := true, laidLooks := .later }
def ExprReadsUptoCardSaid : Prop := Claim7.holds Tryz.pinned (.plain (OpenSpec.upto exprReadsSpec)) exprReadsUptoCard

/-- THE SECOND FORM's CARD OF 'spillwaylaw8.ExprTrees'. -/
def exprTreesUptoCard : Claim7 := { stood := { row := exprTreesUptoRow, standIns := [], harness := (true, "fc8e6130e7cffdc4306bfdd31a4c3f023174449f413e0b6ecd463494529c6174"), looks := true }, kinds := [], alts := [], laidByText := true, laidKinds := [.data, .data, .data, .data, .sentinel, .sentinel, .pinned], laidTests := true, laidLooks := .later }
def ExprTreesUptoCardSaid : Prop := Claim7.holds Tryz.pinned (.plain (OpenSpec.upto exprTreesSpec)) exprTreesUptoCard

/-- THE SECOND FORM's CARD OF 'spillwaylaw9.TypesTell'. -/
def typesTellUptoCard : Claim7 := { stood := { row := typesTellUptoRow, standIns := [], harness := (true, "fc8e6130e7cffdc4306bfdd31a4c3f023174449f413e0b6ecd463494529c6174"), looks := true }, kinds := [], alts := [], laidByText := true, laidKinds := [.data, .data, .data, .data, .handle, .sentinel, .sentinel, .pinned], laidTests := true, laidLooks := .later }
def TypesTellUptoCardSaid : Prop := Claim7.holds Tryz.pinned (.plain (OpenSpec.upto typesTellSpec)) typesTellUptoCard

/-- THE SECOND FORM's CARD OF 'spillwaylaw9.TypesTexts'. -/
def typesTextsUptoCard : Claim7 := { stood := { row := typesTextsUptoRow, standIns := [], harness := (true, "fc8e6130e7cffdc4306bfdd31a4c3f023174449f413e0b6ecd463494529c6174"), looks := true }, kinds := [], alts := [], laidByText := true, laidKinds := [.data, .data, .data, .data, .handle, .sentinel, .sentinel, .pinned], laidTests := true, laidLooks := .later }
def TypesTextsUptoCardSaid : Prop := Claim7.holds Tryz.pinned (.plain (OpenSpec.upto typesTextsSpec)) typesTextsUptoCard

/-- THE SECOND FORM's CARD OF 'spillwaylaw9.TypesKids'. -/
def typesKidsUptoCard : Claim7 := { stood := { row := typesKidsUptoRow, standIns := [], harness := (true, "fc8e6130e7cffdc4306bfdd31a4c3f023174449f413e0b6ecd463494529c6174"), looks := true }, kinds := [], alts := [], laidByText := true, laidKinds := [.data, .data, .data, .data, .handle, .sentinel, .sentinel, .pinned], laidTests := true, laidLooks := .later }
def TypesKidsUptoCardSaid : Prop := Claim7.holds Tryz.pinned (.plain (OpenSpec.upto typesKidsSpec)) typesKidsUptoCard

/-- THE SECOND FORM's CARD OF 'spillwaylaw9.TypesWraps'. -/
def typesWrapsUptoCard : Claim7 := { stood := { row := typesWrapsUptoRow, standIns := [], harness := (true, "fc8e6130e7cffdc4306bfdd31a4c3f023174449f413e0b6ecd463494529c6174"), looks := true }, kinds := [], alts := [], laidByText := true, laidKinds := [.data, .data, .data, .data, .handle, .sentinel, .sentinel, .pinned], laidTests := true, laidLooks := .later }
def TypesWrapsUptoCardSaid : Prop := Claim7.holds Tryz.pinned (.plain (OpenSpec.upto typesWrapsSpec)) typesWrapsUptoCard

/-- THE SECOND FORM's CARD OF 'spillwaylaw9.TypesHorizons'. -/
def typesHorizonsUptoCard : Claim7 := { stood := { row := typesHorizonsUptoRow, standIns := [], harness := (true, "fc8e6130e7cffdc4306bfdd31a4c3f023174449f413e0b6ecd463494529c6174"), looks := true }, kinds := [], alts := [], laidByText := true, laidKinds := [.data, .data, .data, .data, .handle, .sentinel, .sentinel, .pinned], laidTests := true, laidLooks := .later }
def TypesHorizonsUptoCardSaid : Prop := Claim7.holds Tryz.pinned (.plain (OpenSpec.upto typesHorizonsSpec)) typesHorizonsUptoCard

/-- THE SECOND FORM's CARD OF 'spillwaylaw9.TypesRanged'. -/
def typesRangedUptoCard : Claim7 := { stood := { row := typesRangedUptoRow, standIns := [], harness := (true, "fc8e6130e7cffdc4306bfdd31a4c3f023174449f413e0b6ecd463494529c6174"), looks := true }, kinds := [], alts := [], laidByText := true, laidKinds := [.data, .data, .data, .data, .handle, .sentinel, .sentinel, .pinned], laidTests := true, laidLooks := .later }
def TypesRangedUptoCardSaid : Prop := Claim7.holds Tryz.pinned (.plain (OpenSpec.upto typesRangedSpec)) typesRangedUptoCard
end Rows
end Go.Proofs.YteankdaegdhfiaaGreatDoor
