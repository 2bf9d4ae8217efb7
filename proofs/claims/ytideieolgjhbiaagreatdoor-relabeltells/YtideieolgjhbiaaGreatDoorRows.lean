/-
  NARROWER THAN 'FOR EVERY INPUT', by the rows' own cells (each row's printed sentence says how): RelabelTells: laid · RelabelSteps: laid · RelabelKeeps: laid · RelabelDrops: laid · RelabelFills: laid.
  DERIVED. THE GIVEN ROWS OF THIS SEAT. 5 by the template 'for every input the law returns true; each argument reads behind the call as it read before'; 0 by the template 'total and deterministic' (their statements: YtideieolgjhbiaaGreatDoorTotals.lean).
  GIVEN WITH THE SEED: the statements are not yours to turn. If you find one false, say at which input.
  Laid BY PROGRAM, IN A SANDBOX (cutbox-rows.mjs): the forced cells as the released guide's own fill.sh prints them over the translation fe76c2aee13434c8… (all of the seat's roots in one cut). By AI agents, Wed Nov 11 2026. No macro, syntax, notation, axiom, sorry.
-/
import Derived.Test.YtideieolgjhbiaaGreatDoorChecked
import GoSem.PinnedTables
import GoSem.Claim
import GoSem.ClaimJoined
import GoSem.ClaimMapViews
import Derived.JoinedTies
import Derived.KernelRfl
namespace Go.Proofs.YtideieolgjhbiaaGreatDoor
/- THE CELL 'sum', in the pinned program and in every row, IS THE sha256 OF THE DUMP (.gsa) THAT YtideieolgjhbiaaGreatDoorProg.lean LOADS. Nothing in Lean hashes anything: it is a label: what it is worth is what the hold of that sum in a sandbox is worth. -/
noncomputable def Tryz.pinned : Pinned := { name := "ytideieolgjhbiaagreatdoor", sum := "fe76c2aee13434c82408f17f55400813238c8e15210518a1555eef3de6dfc399", checked := Tryz.checked }
namespace Rows
def none {H : Type} : Left H := { results := [], args := [] }

/- WHAT THE LISTED PACKAGE-LEVEL VARIABLES READ AS WHEN THE CALL BEGINS. Each datum BY PROGRAM (the guide's laid-datum.mjs) off the statement by which the dump's own 'gosem.cut.vars' lays the variable. In a bare row this is a premise. The card (YtideieolgjhbiaaGreatDoorCards.lean) ties it to the program's text. -/
def laid_unicode_utf8_acceptRanges {H : Type} : DataW H := .agg [.agg [.lit (.int .u8 128), .lit (.int .u8 191)], .agg [.lit (.int .u8 160), .lit (.int .u8 191)], .agg [.lit (.int .u8 128), .lit (.int .u8 159)], .agg [.lit (.int .u8 144), .lit (.int .u8 191)], .agg [.lit (.int .u8 128), .lit (.int .u8 143)], .agg [.lit (.int .u8 0), .lit (.int .u8 0)], .agg [.lit (.int .u8 0), .lit (.int .u8 0)], .agg [.lit (.int .u8 0), .lit (.int .u8 0)], .agg [.lit (.int .u8 0), .lit (.int .u8 0)], .agg [.lit (.int .u8 0), .lit (.int .u8 0)], .agg [.lit (.int .u8 0), .lit (.int .u8 0)], .agg [.lit (.int .u8 0), .lit (.int .u8 0)], .agg [.lit (.int .u8 0), .lit (.int .u8 0)], .agg [.lit (.int .u8 0), .lit (.int .u8 0)], .agg [.lit (.int .u8 0), .lit (.int .u8 0)], .agg [.lit (.int .u8 0), .lit (.int .u8 0)]]
/-- One of Go's own tables, pinned by name: the form's constant. -/
def laid_unicode_utf8_first : DataW Unit := Go.Pinned.utf8First

/-- 'spillwaylaw5.RelabelTells': WHATEVER THE INPUT: true; the input reads as it did. -/
def relabelTellsSpec : ChangeSpec := { name := "relabelTells", fn := fun _ => fun
  | [d1, d2] => { results := [.lit (.bool true)], args := [d1, d2] }
  | _ => none }
def relabelTellsRow : OpenClaim := { program := "ytideieolgjhbiaagreatdoor", sum := "fe76c2aee13434c82408f17f55400813238c8e15210518a1555eef3de6dfc399", func := "spillway/spillwaylaw5.RelabelTells", spec := "relabelTells", inPlace := ["internal/bytealg.IndexByteString", "internal/bytealg.IndexString", "internal/bytealg.abigen_runtime_cmpstring", "internal/bytealg.CountString", "internal/abi.NoEscape", "internal/bytealg.MakeNoZero"], unfollowed := true, recurses := true, named := ["internal/bytealg.MaxLen", "unicode/utf8.first", "unicode/utf8.acceptRanges"], apart := false, laid := [("unicode/utf8.acceptRanges", laid_unicode_utf8_acceptRanges), ("unicode/utf8.first", laid_unicode_utf8_first)] }
def RelabelTellsSaid : Prop := relabelTellsRow.holds Tryz.pinned (OpenSpec.ofChange relabelTellsSpec)

/-- ITS FALSE NEIGHBOUR: 'it returns false'. Refute it at one input. -/
def relabelTellsWrong : ChangeSpec := { name := "relabelTells", fn := fun _ => fun
  | [d1, d2] => { results := [.lit (.bool false)], args := [d1, d2] }
  | _ => none }
def RelabelTellsWrongFalsely : Prop := relabelTellsRow.holds Tryz.pinned (OpenSpec.ofChange relabelTellsWrong)

/-- 'spillwaylaw5.RelabelSteps': WHATEVER THE INPUT: true; the input reads as it did. -/
def relabelStepsSpec : ChangeSpec := { name := "relabelSteps", fn := fun _ => fun
  | [d1, d2, d3] => { results := [.lit (.bool true)], args := [d1, d2, d3] }
  | _ => none }
def relabelStepsRow : OpenClaim := { program := "ytideieolgjhbiaagreatdoor", sum := "fe76c2aee13434c82408f17f55400813238c8e15210518a1555eef3de6dfc399", func := "spillway/spillwaylaw5.RelabelSteps", spec := "relabelSteps", inPlace := ["internal/bytealg.IndexByteString", "internal/bytealg.IndexString", "internal/bytealg.abigen_runtime_cmpstring", "internal/bytealg.CountString", "internal/abi.NoEscape", "internal/bytealg.MakeNoZero"], unfollowed := true, recurses := true, named := ["internal/bytealg.MaxLen", "unicode/utf8.first", "unicode/utf8.acceptRanges"], apart := false, laid := [("unicode/utf8.acceptRanges", laid_unicode_utf8_acceptRanges), ("unicode/utf8.first", laid_unicode_utf8_first)] }
def RelabelStepsSaid : Prop := relabelStepsRow.holds Tryz.pinned (OpenSpec.ofChange relabelStepsSpec)

/-- ITS FALSE NEIGHBOUR: 'it returns false'. Refute it at one input. -/
def relabelStepsWrong : ChangeSpec := { name := "relabelSteps", fn := fun _ => fun
  | [d1, d2, d3] => { results := [.lit (.bool false)], args := [d1, d2, d3] }
  | _ => none }
def RelabelStepsWrongFalsely : Prop := relabelStepsRow.holds Tryz.pinned (OpenSpec.ofChange relabelStepsWrong)

/-- 'spillwaylaw5.RelabelKeeps': WHATEVER THE INPUT: true; the input reads as it did. -/
def relabelKeepsSpec : ChangeSpec := { name := "relabelKeeps", fn := fun _ => fun
  | [d1, d2] => { results := [.lit (.bool true)], args := [d1, d2] }
  | _ => none }
def relabelKeepsRow : OpenClaim := { program := "ytideieolgjhbiaagreatdoor", sum := "fe76c2aee13434c82408f17f55400813238c8e15210518a1555eef3de6dfc399", func := "spillway/spillwaylaw5.RelabelKeeps", spec := "relabelKeeps", inPlace := ["internal/bytealg.IndexByteString", "internal/bytealg.IndexString", "internal/bytealg.abigen_runtime_cmpstring", "internal/bytealg.CountString", "internal/abi.NoEscape", "internal/bytealg.MakeNoZero"], unfollowed := true, recurses := true, named := ["internal/bytealg.MaxLen", "unicode/utf8.first", "unicode/utf8.acceptRanges"], apart := false, laid := [("unicode/utf8.acceptRanges", laid_unicode_utf8_acceptRanges), ("unicode/utf8.first", laid_unicode_utf8_first)] }
def RelabelKeepsSaid : Prop := relabelKeepsRow.holds Tryz.pinned (OpenSpec.ofChange relabelKeepsSpec)

/-- ITS FALSE NEIGHBOUR: 'it returns false'. Refute it at one input. -/
def relabelKeepsWrong : ChangeSpec := { name := "relabelKeeps", fn := fun _ => fun
  | [d1, d2] => { results := [.lit (.bool false)], args := [d1, d2] }
  | _ => none }
def RelabelKeepsWrongFalsely : Prop := relabelKeepsRow.holds Tryz.pinned (OpenSpec.ofChange relabelKeepsWrong)

/-- 'spillwaylaw5.RelabelDrops': WHATEVER THE INPUT: true; the input reads as it did. -/
def relabelDropsSpec : ChangeSpec := { name := "relabelDrops", fn := fun _ => fun
  | [d1, d2] => { results := [.lit (.bool true)], args := [d1, d2] }
  | _ => none }
def relabelDropsRow : OpenClaim := { program := "ytideieolgjhbiaagreatdoor", sum := "fe76c2aee13434c82408f17f55400813238c8e15210518a1555eef3de6dfc399", func := "spillway/spillwaylaw5.RelabelDrops", spec := "relabelDrops", inPlace := ["internal/bytealg.IndexByteString", "internal/bytealg.IndexString", "internal/bytealg.abigen_runtime_cmpstring", "internal/bytealg.CountString", "internal/abi.NoEscape", "internal/bytealg.MakeNoZero"], unfollowed := true, recurses := true, named := ["internal/bytealg.MaxLen", "unicode/utf8.first", "unicode/utf8.acceptRanges"], apart := false, laid := [("unicode/utf8.acceptRanges", laid_unicode_utf8_acceptRanges), ("unicode/utf8.first", laid_unicode_utf8_first)] }
def RelabelDropsSaid : Prop := relabelDropsRow.holds Tryz.pinned (OpenSpec.ofChange relabelDropsSpec)

/-- ITS FALSE NEIGHBOUR: 'it returns false'. Refute it at one input. -/
def relabelDropsWrong : ChangeSpec := { name := "relabelDrops", fn := fun _ => fun
  | [d1, d2] => { results := [.lit (.bool false)], args := [d1, d2] }
  | _ => none }
def RelabelDropsWrongFalsely : Prop := relabelDropsRow.holds Tryz.pinned (OpenSpec.ofChange relabelDropsWrong)

/-- 'spillwaylaw5.RelabelFills': WHATEVER THE INPUT: true; the input reads as it did. -/
def relabelFillsSpec : ChangeSpec := { name := "relabelFills", fn := fun _ => fun
  | [d1, d2, d3] => { results := [.lit (.bool true)], args := [d1, d2, d3] }
  | _ => none }
def relabelFillsRow : OpenClaim := { program := "ytideieolgjhbiaagreatdoor", sum := "fe76c2aee13434c82408f17f55400813238c8e15210518a1555eef3de6dfc399", func := "spillway/spillwaylaw5.RelabelFills", spec := "relabelFills", inPlace := ["internal/bytealg.IndexByteString", "internal/bytealg.IndexString", "internal/bytealg.abigen_runtime_cmpstring", "internal/bytealg.CountString", "internal/abi.NoEscape", "internal/bytealg.MakeNoZero"], unfollowed := true, recurses := true, named := ["internal/bytealg.MaxLen", "unicode/utf8.first", "unicode/utf8.acceptRanges"], apart := false, laid := [("unicode/utf8.acceptRanges", laid_unicode_utf8_acceptRanges), ("unicode/utf8.first", laid_unicode_utf8_first)] }
def RelabelFillsSaid : Prop := relabelFillsRow.holds Tryz.pinned (OpenSpec.ofChange relabelFillsSpec)

/-- ITS FALSE NEIGHBOUR: 'it returns false'. Refute it at one input. -/
def relabelFillsWrong : ChangeSpec := { name := "relabelFills", fn := fun _ => fun
  | [d1, d2, d3] => { results := [.lit (.bool false)], args := [d1, d2, d3] }
  | _ => none }
def RelabelFillsWrongFalsely : Prop := relabelFillsRow.holds Tryz.pinned (OpenSpec.ofChange relabelFillsWrong)

/- THE SECOND FORM. 'bulk': how many values and letters a reading holds, each counted each time it is reached (what is shared counts as often as it is met; a slice's spare places count too). A statement '..UptoSaid' is the law's where the arguments, and the package variables that the reading takes, are together of bulk at most 1048576: NARROWER than '..Said'. Prove '..Said' where nothing that the law and all that it calls make is longer than what came in: it says more and counts as full. Else prove '..UptoSaid'. A law counts once. -/
mutual
def uptoBulk {H : Type} : DataW H → Nat
  | .lit (.string bytes) => bytes.length + 1
  | .lit _ => 1
  | .nil => 1
  | .ptr d => uptoBulk d + 1
  | .slice elems spare => uptoBulkAll elems + uptoBulkAll spare + 1
  | .agg parts => uptoBulkAll parts + 1
  | .iface _ d => uptoBulk d + 1
  | .map entries => uptoBulkEntries entries + 1
  | .held _ => 1
def uptoBulkAll {H : Type} : List (DataW H) → Nat
  | [] => 0
  | d :: r => uptoBulk d + uptoBulkAll r
def uptoBulkEntries {H : Type} : List (Lit × DataW H) → Nat
  | [] => 0
  | x :: r => uptoBulkEntry x + uptoBulkEntries r
def uptoBulkEntry {H : Type} : Lit × DataW H → Nat
  | (.string bytes, d) => bytes.length + uptoBulk d + 1
  | (_, d) => uptoBulk d + 1
 end
def uptoSmall : (H : Type) → List (DataW H) → Bool := fun _ ds => decide (uptoBulkAll ds ≤ 1048576)
def OpenSpec.upto (s : _root_.Go.ChangeSpec) : _root_.Go.OpenSpec := { _root_.Go.OpenSpec.ofChange s with cond := some uptoSmall }

/-- 'spillwaylaw5.RelabelTells', WHERE WHAT IT READS IS OF BULK AT MOST 1048576: true; the input reads as it did. -/
def relabelTellsUptoRow : OpenClaim := { program := "ytideieolgjhbiaagreatdoor", sum := "fe76c2aee13434c82408f17f55400813238c8e15210518a1555eef3de6dfc399", func := "spillway/spillwaylaw5.RelabelTells", spec := "relabelTells", inPlace := ["internal/bytealg.IndexByteString", "internal/bytealg.IndexString", "internal/bytealg.abigen_runtime_cmpstring", "internal/bytealg.CountString", "internal/abi.NoEscape", "internal/bytealg.MakeNoZero"], unfollowed := true, recurses := true, named := ["internal/bytealg.MaxLen", "unicode/utf8.first", "unicode/utf8.acceptRanges"], apart := false, laid := [("unicode/utf8.acceptRanges", laid_unicode_utf8_acceptRanges), ("unicode/utf8.first", laid_unicode_utf8_first)], narrowed := true }
def RelabelTellsUptoSaid : Prop := relabelTellsUptoRow.holds Tryz.pinned (OpenSpec.upto relabelTellsSpec)

/-- 'spillwaylaw5.RelabelSteps', WHERE WHAT IT READS IS OF BULK AT MOST 1048576: true; the input reads as it did. -/
def relabelStepsUptoRow : OpenClaim := { program := "ytideieolgjhbiaagreatdoor", sum := "fe76c2aee13434c82408f17f55400813238c8e15210518a1555eef3de6dfc399", func := "spillway/spillwaylaw5.RelabelSteps", spec := "relabelSteps", inPlace := ["internal/bytealg.IndexByteString", "internal/bytealg.IndexString", "internal/bytealg.abigen_runtime_cmpstring", "internal/bytealg.CountString", "internal/abi.NoEscape", "internal/bytealg.MakeNoZero"], unfollowed := true, recurses := true, named := ["internal/bytealg.MaxLen", "unicode/utf8.first", "unicode/utf8.acceptRanges"], apart := false, laid := [("unicode/utf8.acceptRanges", laid_unicode_utf8_acceptRanges), ("unicode/utf8.first", laid_unicode_utf8_first)], narrowed := true }
def RelabelStepsUptoSaid : Prop := relabelStepsUptoRow.holds Tryz.pinned (OpenSpec.upto relabelStepsSpec)

/-- 'spillwaylaw5.RelabelKeeps', WHERE WHAT IT READS IS OF BULK AT MOST 1048576: true; the input reads as it did. -/
def relabelKeepsUptoRow : OpenClaim := { program := "ytideieolgjhbiaagreatdoor", sum := "fe76c2aee13434c82408f17f55400813238c8e15210518a1555eef3de6dfc399", func := "spillway/spillwaylaw5.RelabelKeeps", spec := "relabelKeeps", inPlace := ["internal/bytealg.IndexByteString", "internal/bytealg.IndexString", "internal/bytealg.abigen_runtime_cmpstring", "internal/bytealg.CountString", "internal/abi.NoEscape", "internal/bytealg.MakeNoZero"], unfollowed := true, recurses := true, named := ["internal/bytealg.MaxLen", "unicode/utf8.first", "unicode/utf8.acceptRanges"], apart := false, laid := [("unicode/utf8.acceptRanges", laid_unicode_utf8_acceptRanges), ("unicode/utf8.first", laid_unicode_utf8_first)], narrowed := true }
def RelabelKeepsUptoSaid : Prop := relabelKeepsUptoRow.holds Tryz.pinned (OpenSpec.upto relabelKeepsSpec)

/-- 'spillwaylaw5.RelabelDrops', WHERE WHAT IT READS IS OF BULK AT MOST 1048576: true; the input reads as it did. -/
def relabelDropsUptoRow : OpenClaim := { program := "ytideieolgjhbiaagreatdoor", sum := "fe76c2aee13434c82408f17f55400813238c8e15210518a1555eef3de6dfc399", func := "spillway/spillwaylaw5.RelabelDrops", spec := "relabelDrops", inPlace := ["internal/bytealg.IndexByteString", "internal/bytealg.IndexString", "internal/bytealg.abigen_runtime_cmpstring", "internal/bytealg.CountString", "internal/abi.NoEscape", "internal/bytealg.MakeNoZero"], unfollowed := true, recurses := true, named := ["internal/bytealg.MaxLen", "unicode/utf8.first", "unicode/utf8.acceptRanges"], apart := false, laid := [("unicode/utf8.acceptRanges", laid_unicode_utf8_acceptRanges), ("unicode/utf8.first", laid_unicode_utf8_first)], narrowed := true }
def RelabelDropsUptoSaid : Prop := relabelDropsUptoRow.holds Tryz.pinned (OpenSpec.upto relabelDropsSpec)

/-- 'spillwaylaw5.RelabelFills', WHERE WHAT IT READS IS OF BULK AT MOST 1048576: true; the input reads as it did. -/
def relabelFillsUptoRow : OpenClaim := { program := "ytideieolgjhbiaagreatdoor", sum := "fe76c2aee13434c82408f17f55400813238c8e15210518a1555eef3de6dfc399", func := "spillway/spillwaylaw5.RelabelFills", spec := "relabelFills", inPlace := ["internal/bytealg.IndexByteString", "internal/bytealg.IndexString", "internal/bytealg.abigen_runtime_cmpstring", "internal/bytealg.CountString", "internal/abi.NoEscape", "internal/bytealg.MakeNoZero"], unfollowed := true, recurses := true, named := ["internal/bytealg.MaxLen", "unicode/utf8.first", "unicode/utf8.acceptRanges"], apart := false, laid := [("unicode/utf8.acceptRanges", laid_unicode_utf8_acceptRanges), ("unicode/utf8.first", laid_unicode_utf8_first)], narrowed := true }
def RelabelFillsUptoSaid : Prop := relabelFillsUptoRow.holds Tryz.pinned (OpenSpec.upto relabelFillsSpec)

end Rows
end Go.Proofs.YtideieolgjhbiaaGreatDoor
