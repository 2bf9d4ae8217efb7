/-
  DERIVED. GIVEN WITH THE SEED: THE CARDS: each row of YtibdlcegmepbcaaDoorRows.lean that lists a variable, with what it lists TIED to the program's text (the seventh form; the later family's looks); each row that meets fmt, with fmt's text TOLD by the authors' own Lean function (tested against real Go, not proved from fmt's source: count such statements apart). THE CARD IS WHAT COUNTS. Prove the row's statement (the work); the ties are given (YtibdlcegmepbcaaDoorTie.lean); close each card by the builder's one call (the guide's Derived/Test/ToyasCard.lean, 'card_holds'). Laid BY PROGRAM, IN A SANDBOX (cutbox-door.mjs). By AI agents, Wed Nov 11 2026. No macro, syntax, notation, axiom, sorry.
-/
import Derived.Test.YtibdlcegmepbcaaDoorRows
import GoSem.ClaimSeven
namespace Go.Proofs.YtibdlcegmepbcaaDoor
namespace Rows

/-- THE TIED CARD OF 'spillwaylaw2.FixTells'. -/
def fixTellsCard : Claim7 := { stood := { row := fixTellsRow, standIns := [], harness := (true, "7b70303796e48090eaaf6ba861b49a17b686cbaecea1f68e68351b82d411824a"), looks := false }, kinds := [], alts := [], laidByText := true, laidKinds := [.data, .data, .data, .data, .pinned], laidTests := true, laidLooks := .later }
def FixTellsCardSaid : Prop := Claim7.holds Tryd.pinned (.plain (OpenSpec.ofChange fixTellsSpec)) fixTellsCard

/-- THE TIED CARD OF 'spillwaylaw2.FixSums'. -/
def fixSumsCard : Claim7 := { stood := { row := fixSumsRow, standIns := [], harness := (true, "7b70303796e48090eaaf6ba861b49a17b686cbaecea1f68e68351b82d411824a"), looks := false }, kinds := [], alts := [], laidByText := true, laidKinds := [.data, .data, .data, .data, .pinned], laidTests := true, laidLooks := .later }
def FixSumsCardSaid : Prop := Claim7.holds Tryd.pinned (.plain (OpenSpec.ofChange fixSumsSpec)) fixSumsCard

/-- THE TIED CARD OF 'spillwaylaw2.FixReads'. -/
def fixReadsCard : Claim7 := { stood := { row := fixReadsRow, standIns := [], harness := (true, "7b70303796e48090eaaf6ba861b49a17b686cbaecea1f68e68351b82d411824a"), looks := false }, kinds := [], alts := [], laidByText := true, laidKinds := [.data, .data, .data, .data, .pinned], laidTests := true, laidLooks := .later }
def FixReadsCardSaid : Prop := Claim7.holds Tryd.pinned (.plain (OpenSpec.ofChange fixReadsSpec)) fixReadsCard

/-- THE TIED CARD OF 'spillwaylaw2.FixLaws'. -/
def fixLawsCard : Claim7 := { stood := { row := fixLawsRow, standIns := [], harness := (true, "7b70303796e48090eaaf6ba861b49a17b686cbaecea1f68e68351b82d411824a"), looks := false }, kinds := [], alts := [], laidByText := true, laidKinds := [.data, .data, .data, .data, .pinned], laidTests := true, laidLooks := .later }
def FixLawsCardSaid : Prop := Claim7.holds Tryd.pinned (.plain (OpenSpec.ofChange fixLawsSpec)) fixLawsCard

/-- THE TIED CARD OF 'spillwaylaw2.FixOrder'. -/
def fixOrderCard : Claim7 := { stood := { row := fixOrderRow, standIns := [], harness := (true, "7b70303796e48090eaaf6ba861b49a17b686cbaecea1f68e68351b82d411824a"), looks := false }, kinds := [], alts := [], laidByText := true, laidKinds := [.data, .data, .data, .data, .pinned], laidTests := true, laidLooks := .later }
def FixOrderCardSaid : Prop := Claim7.holds Tryd.pinned (.plain (OpenSpec.ofChange fixOrderSpec)) fixOrderCard

/-- THE TIED CARD OF 'spillwaylaw2.FixCuts'. -/
def fixCutsCard : Claim7 := { stood := { row := fixCutsRow, standIns := [], harness := (true, "7b70303796e48090eaaf6ba861b49a17b686cbaecea1f68e68351b82d411824a"), looks := false }, kinds := [], alts := [], laidByText := true, laidKinds := [.data, .data, .data, .data, .pinned], laidTests := true, laidLooks := .later }
def FixCutsCardSaid : Prop := Claim7.holds Tryd.pinned (.plain (OpenSpec.ofChange fixCutsSpec)) fixCutsCard

/-- THE SECOND FORM's CARD OF 'spillwaylaw2.FixTells'. -/
def fixTellsUptoCard : Claim7 := { stood := { row := fixTellsUptoRow, standIns := [], harness := (true, "7b70303796e48090eaaf6ba861b49a17b686cbaecea1f68e68351b82d411824a"), looks := false }, kinds := [], alts := [], laidByText := true, laidKinds := [.data, .data, .data, .data, .pinned], laidTests := true, laidLooks := .later }
def FixTellsUptoCardSaid : Prop := Claim7.holds Tryd.pinned (.plain (OpenSpec.upto fixTellsSpec)) fixTellsUptoCard

/-- THE SECOND FORM's CARD OF 'spillwaylaw2.FixSums'. -/
def fixSumsUptoCard : Claim7 := { stood := { row := fixSumsUptoRow, standIns := [], harness := (true, "7b70303796e48090eaaf6ba861b49a17b686cbaecea1f68e68351b82d411824a"), looks := false }, kinds := [], alts := [], laidByText := true, laidKinds := [.data, .data, .data, .data, .pinned], laidTests := true, laidLooks := .later }
def FixSumsUptoCardSaid : Prop := Claim7.holds Tryd.pinned (.plain (OpenSpec.upto fixSumsSpec)) fixSumsUptoCard

/-- THE SECOND FORM's CARD OF 'spillwaylaw2.FixReads'. -/
def fixReadsUptoCard : Claim7 := { stood := { row := fixReadsUptoRow, standIns := [], harness := (true, "7b70303796e48090eaaf6ba861b49a17b686cbaecea1f68e68351b82d411824a"), looks := false }, kinds := [], alts := [], laidByText := true, laidKinds := [.data, .data, .data, .data, .pinned], laidTests := true, laidLooks := .later }
def FixReadsUptoCardSaid : Prop := Claim7.holds Tryd.pinned (.plain (OpenSpec.upto fixReadsSpec)) fixReadsUptoCard

/-- THE SECOND FORM's CARD OF 'spillwaylaw2.FixLaws'. -/
def fixLawsUptoCard : Claim7 := { stood := { row := fixLawsUptoRow, standIns := [], harness := (true, "7b70303796e48090eaaf6ba861b49a17b686cbaecea1f68e68351b82d411824a"), looks := false }, kinds := [], alts := [], laidByText := true, laidKinds := [.data, .data, .data, .data, .pinned], laidTests := true, laidLooks := .later }
def FixLawsUptoCardSaid : Prop := Claim7.holds Tryd.pinned (.plain (OpenSpec.upto fixLawsSpec)) fixLawsUptoCard

/-- THE SECOND FORM's CARD OF 'spillwaylaw2.FixOrder'. -/
def fixOrderUptoCard : Claim7 := { stood := { row := fixOrderUptoRow, standIns := [], harness := (true, "7b70303796e48090eaaf6ba861b49a17b686cbaecea1f68e68351b82d411824a"), looks := false }, kinds := [], alts := [], laidByText := true, laidKinds := [.data, .data, .data, .data, .pinned], laidTests := true, laidLooks := .later }
def FixOrderUptoCardSaid : Prop := Claim7.holds Tryd.pinned (.plain (OpenSpec.upto fixOrderSpec)) fixOrderUptoCard

/-- THE SECOND FORM's CARD OF 'spillwaylaw2.FixCuts'. -/
def fixCutsUptoCard : Claim7 := { stood := { row := fixCutsUptoRow, standIns := [], harness := (true, "7b70303796e48090eaaf6ba861b49a17b686cbaecea1f68e68351b82d411824a"), looks := false }, kinds := [], alts := [], laidByText := true, laidKinds := [.data, .data, .data, .data, .pinned], laidTests := true, laidLooks := .later }
def FixCutsUptoCardSaid : Prop := Claim7.holds Tryd.pinned (.plain (OpenSpec.upto fixCutsSpec)) fixCutsUptoCard
end Rows
end Go.Proofs.YtibdlcegmepbcaaDoor
