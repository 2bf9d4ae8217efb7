/-
  DERIVED. GIVEN WITH THE SEED: THE CARDS: each row of YtjlaihekocjggaaGreatDoorRows.lean that lists a variable, with what it lists TIED to the program's text (the seventh form; the later family's looks); each row that meets fmt, with fmt's text TOLD by the authors' own Lean function (tested against real Go, not proved from fmt's source: count such statements apart). THE CARD IS WHAT COUNTS. Prove the row's statement (the work); the ties are given (YtjlaihekocjggaaGreatDoorTie.lean); close each card by the builder's one call (the guide's Derived/Test/ToyasCard.lean, 'card_holds'). Laid BY PROGRAM, IN A SANDBOX (cutbox-door.mjs). By AI agents, Wed Nov 11 2026. No macro, syntax, notation, axiom, sorry.
-/
import Derived.Test.YtjlaihekocjggaaGreatDoorRows
import GoSem.ClaimSeven
namespace Go.Proofs.YtjlaihekocjggaaGreatDoor
namespace Rows

/-- THE TIED CARD OF 'spillwaylaw8.ExprTrees'. -/
def exprTreesCard : Claim7 := { stood := { row := exprTreesRow, standIns := [], harness := (true, "c2f8f3a120d21fc72ee5bbdb816f253da4ca57c64ac4b420b709a232c53e2224"), looks := true }, kinds := [], alts := [], laidByText := true, laidKinds := [.data, .data, .data, .data, .sentinel, .sentinel, .pinned], laidTests := true, laidLooks := .later }
def ExprTreesCardSaid : Prop := Claim7.holds Tryz.pinned (.plain (OpenSpec.ofChange exprTreesSpec)) exprTreesCard

/-- THE TIED CARD OF 'spillwaylaw10.RulesTell'. -/
def rulesTellCard : Claim7 := { stood := { row := rulesTellRow, standIns := [], harness := (true, "c2f8f3a120d21fc72ee5bbdb816f253da4ca57c64ac4b420b709a232c53e2224"), looks := true }, kinds := [], alts := [], laidByText := true, laidKinds := [.data, .data, .data, .data, .handle, .sentinel, .sentinel, .pinned], laidTests := true, laidLooks := .later }
def RulesTellCardSaid : Prop := Claim7.holds Tryz.pinned (.plain (OpenSpec.ofChange rulesTellSpec)) rulesTellCard

/-- THE TIED CARD OF 'spillwaylaw10.RulesTrees'. -/
def rulesTreesCard : Claim7 := { stood := { row := rulesTreesRow, standIns := [], harness := (true, "c2f8f3a120d21fc72ee5bbdb816f253da4ca57c64ac4b420b709a232c53e2224"), looks := true }, kinds := [], alts := [], laidByText := true, laidKinds := [.data, .data, .data, .data, .handle, .sentinel, .sentinel, .pinned], laidTests := true, laidLooks := .later }
def RulesTreesCardSaid : Prop := Claim7.holds Tryz.pinned (.plain (OpenSpec.ofChange rulesTreesSpec)) rulesTreesCard

/-- THE TIED CARD OF 'spillwaylaw10.RulesBack'. -/
def rulesBackCard : Claim7 := { stood := { row := rulesBackRow, standIns := [], harness := (true, "c2f8f3a120d21fc72ee5bbdb816f253da4ca57c64ac4b420b709a232c53e2224"), looks := true }, kinds := [], alts := [], laidByText := true, laidKinds := [.data, .data, .data, .data, .handle, .sentinel, .sentinel, .pinned], laidTests := true, laidLooks := .later }
def RulesBackCardSaid : Prop := Claim7.holds Tryz.pinned (.plain (OpenSpec.ofChange rulesBackSpec)) rulesBackCard

/-- THE TIED CARD OF 'spillwaylaw10.RulesBounds'. -/
def rulesBoundsCard : Claim7 := { stood := { row := rulesBoundsRow, standIns := [], harness := (true, "c2f8f3a120d21fc72ee5bbdb816f253da4ca57c64ac4b420b709a232c53e2224"), looks := true }, kinds := [], alts := [], laidByText := true, laidKinds := [.data, .data, .data, .data, .handle, .sentinel, .sentinel, .pinned], laidTests := true, laidLooks := .later }
def RulesBoundsCardSaid : Prop := Claim7.holds Tryz.pinned (.plain (OpenSpec.ofChange rulesBoundsSpec)) rulesBoundsCard

/-- THE TIED CARD OF 'spillwaylaw10.RulesPlaces'. -/
def rulesPlacesCard : Claim7 := { stood := { row := rulesPlacesRow, standIns := [], harness := (true, "c2f8f3a120d21fc72ee5bbdb816f253da4ca57c64ac4b420b709a232c53e2224"), looks := true }, kinds := [], alts := [], laidByText := true, laidKinds := [.data, .data, .data, .data, .handle, .sentinel, .sentinel, .pinned], laidTests := true, laidLooks := .later }
def RulesPlacesCardSaid : Prop := Claim7.holds Tryz.pinned (.plain (OpenSpec.ofChange rulesPlacesSpec)) rulesPlacesCard

/-- THE TIED CARD OF 'spillwaylaw10.RulesBuilt'. -/
def rulesBuiltCard : Claim7 := { stood := { row := rulesBuiltRow, standIns := [], harness := (true, "c2f8f3a120d21fc72ee5bbdb816f253da4ca57c64ac4b420b709a232c53e2224"), looks := true }, kinds := [], alts := [], laidByText := true, laidKinds := [.data, .data, .data, .data, .handle, .sentinel, .sentinel, .pinned], laidTests := true, laidLooks := .later }
def RulesBuiltCardSaid : Prop := Claim7.holds Tryz.pinned (.plain (OpenSpec.ofChange rulesBuiltSpec)) rulesBuiltCard

/-- THE TIED CARD OF 'spillwaylaw10.RulesLast'. -/
def rulesLastCard : Claim7 := { stood := { row := rulesLastRow, standIns := [], harness := (true, "c2f8f3a120d21fc72ee5bbdb816f253da4ca57c64ac4b420b709a232c53e2224"), looks := true }, kinds := [], alts := [], laidByText := true, laidKinds := [.data, .data, .data, .data, .handle, .sentinel, .sentinel, .pinned], laidTests := true, laidLooks := .later }
def RulesLastCardSaid : Prop := Claim7.holds Tryz.pinned (.plain (OpenSpec.ofChange rulesLastSpec)) rulesLastCard

/-- THE TIED CARD OF 'spillwaylaw10.RulesGroups'. -/
def rulesGroupsCard : Claim7 := { stood := { row := rulesGroupsRow, standIns := [], harness := (true, "c2f8f3a120d21fc72ee5bbdb816f253da4ca57c64ac4b420b709a232c53e2224"), looks := true }, kinds := [], alts := [], laidByText := true, laidKinds := [.data, .data, .data, .data, .handle, .sentinel, .sentinel, .pinned], laidTests := true, laidLooks := .later }
def RulesGroupsCardSaid : Prop := Claim7.holds Tryz.pinned (.plain (OpenSpec.ofChange rulesGroupsSpec)) rulesGroupsCard

/-- THE SECOND FORM's CARD OF 'spillwaylaw8.ExprTrees'. -/
def exprTreesUptoCard : Claim7 := { stood := { row := exprTreesUptoRow, standIns := [], harness := (true, "c2f8f3a120d21fc72ee5bbdb816f253da4ca57c64ac4b420b709a232c53e2224"), looks := true }, kinds := [], alts := [], laidByText := true, laidKinds := [.data, .data, .data, .data, .sentinel, .sentinel, .pinned], laidTests := true, laidLooks := .later }
def ExprTreesUptoCardSaid : Prop := Claim7.holds Tryz.pinned (.plain (OpenSpec.upto exprTreesSpec)) exprTreesUptoCard

/-- THE SECOND FORM's CARD OF 'spillwaylaw10.RulesTell'. -/
def rulesTellUptoCard : Claim7 := { stood := { row := rulesTellUptoRow, standIns := [], harness := (true, "c2f8f3a120d21fc72ee5bbdb816f253da4ca57c64ac4b420b709a232c53e2224"), looks := true }, kinds := [], alts := [], laidByText := true, laidKinds := [.data, .data, .data, .data, .handle, .sentinel, .sentinel, .pinned], laidTests := true, laidLooks := .later }
def RulesTellUptoCardSaid : Prop := Claim7.holds Tryz.pinned (.plain (OpenSpec.upto rulesTellSpec)) rulesTellUptoCard

/-- THE SECOND FORM's CARD OF 'spillwaylaw10.RulesTrees'. -/
def rulesTreesUptoCard : Claim7 := { stood := { row := rulesTreesUptoRow, standIns := [], harness := (true, "c2f8f3a120d21fc72ee5bbdb816f253da4ca57c64ac4b420b709a232c53e2224"), looks := true }, kinds := [], alts := [], laidByText := true, laidKinds := [.data, .data, .data, .data, .handle, .sentinel, .sentinel, .pinned], laidTests := true, laidLooks := .later }
def RulesTreesUptoCardSaid : Prop := Claim7.holds Tryz.pinned (.plain (OpenSpec.upto rulesTreesSpec)) rulesTreesUptoCard

/-- THE SECOND FORM's CARD OF 'spillwaylaw10.RulesBack'. -/
def rulesBackUptoCard : Claim7 := { stood := { row := rulesBackUptoRow, standIns := [], harness := (true, "c2f8f3a120d21fc72ee5bbdb816f253da4ca57c64ac4b420b709a232c53e2224"), looks := true }, kinds := [], alts := [], laidByText := true, laidKinds := [.data, .data, .data, .data, .handle, .sentinel, .sentinel, .pinned], laidTests := true, laidLooks := .later }
def RulesBackUptoCardSaid : Prop := Claim7.holds Tryz.pinned (.plain (OpenSpec.upto rulesBackSpec)) rulesBackUptoCard

/-- THE SECOND FORM's CARD OF 'spillwaylaw10.RulesBounds'. -/
def rulesBoundsUptoCard : Claim7 := { stood := { row := rulesBoundsUptoRow, standIns := [], harness := (true, "c2f8f3a120d21fc72ee5bbdb816f253da4ca57c64ac4b420b709a232c53e2224"), looks := true }, kinds := [], alts := [], laidByText := true, laidKinds := [.data, .data, .data, .data, .handle, .sentinel, .sentinel, .pinned], laidTests := true, laidLooks := .later }
def RulesBoundsUptoCardSaid : Prop := Claim7.holds Tryz.pinned (.plain (OpenSpec.upto rulesBoundsSpec)) rulesBoundsUptoCard

/-- THE SECOND FORM's CARD OF 'spillwaylaw10.RulesPlaces'. -/
def rulesPlacesUptoCard : Claim7 := { stood := { row := rulesPlacesUptoRow, standIns := [], harness := (true, "c2f8f3a120d21fc72ee5bbdb816f253da4ca57c64ac4b420b709a232c53e2224"), looks := true }, kinds := [], alts := [], laidByText := true, laidKinds := [.data, .data, .data, .data, .handle, .sentinel, .sentinel, .pinned], laidTests := true, laidLooks := .later }
def RulesPlacesUptoCardSaid : Prop := Claim7.holds Tryz.pinned (.plain (OpenSpec.upto rulesPlacesSpec)) rulesPlacesUptoCard

/-- THE SECOND FORM's CARD OF 'spillwaylaw10.RulesBuilt'. -/
def rulesBuiltUptoCard : Claim7 := { stood := { row := rulesBuiltUptoRow, standIns := [], harness := (true, "c2f8f3a120d21fc72ee5bbdb816f253da4ca57c64ac4b420b709a232c53e2224"), looks := true }, kinds := [], alts := [], laidByText := true, laidKinds := [.data, .data, .data, .data, .handle, .sentinel, .sentinel, .pinned], laidTests := true, laidLooks := .later }
def RulesBuiltUptoCardSaid : Prop := Claim7.holds Tryz.pinned (.plain (OpenSpec.upto rulesBuiltSpec)) rulesBuiltUptoCard

/-- THE SECOND FORM's CARD OF 'spillwaylaw10.RulesLast'. -/
def rulesLastUptoCard : Claim7 := { stood := { row := rulesLastUptoRow, standIns := [], harness := (true, "c2f8f3a120d21fc72ee5bbdb816f253da4ca57c64ac4b420b709a232c53e2224"), looks := true }, kinds := [], alts := [], laidByText := true, laidKinds := [.data, .data, .data, .data, .handle, .sentinel, .sentinel, .pinned], laidTests := true, laidLooks := .later }
def RulesLastUptoCardSaid : Prop := Claim7.holds Tryz.pinned (.plain (OpenSpec.upto rulesLastSpec)) rulesLastUptoCard

/-- THE SECOND FORM's CARD OF 'spillwaylaw10.RulesGroups'. -/
def rulesGroupsUptoCard : Claim7 := { stood := { row := rulesGroupsUptoRow, standIns := [], harness := (true, "c2f8f3a120d21fc72ee5bbdb816f253da4ca57c64ac4b420b709a232c53e2224"), looks := true }, kinds := [], alts := [], laidByText := true, laidKinds := [.data, .data, .data, .data, .handle, .sentinel, .sentinel, .pinned], laidTests := true, laidLooks := .later }
def RulesGroupsUptoCardSaid : Prop := Claim7.holds Tryz.pinned (.plain (OpenSpec.upto rulesGroupsSpec)) rulesGroupsUptoCard
end Rows
end Go.Proofs.YtjlaihekocjggaaGreatDoor
