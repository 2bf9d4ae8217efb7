/-
  NARROWER THAN 'FOR EVERY INPUT', by the rows' own cells (each row's printed sentence says how): SeriesPlays: laid · SeriesCap: laid · SeriesOver: laid · SeriesApart: laid · SeriesMatch: laid · SeriesAgain: laid.
  DERIVED. THE GIVEN ROWS OF THIS SEAT. 6 by the template 'for every input the law returns true; each argument reads behind the call as it read before'; 0 by the template 'total and deterministic' (their statements: YtjgckfcocmhnhaaGreatDoorTotals.lean).
  GIVEN WITH THE SEED: the statements are not yours to turn. If you find one false, say at which input.
  Laid BY PROGRAM, IN A SANDBOX (cutbox-rows.mjs): the forced cells as the released guide's own fill.sh prints them over the translation 3cc7274e2c1e233a… (all of the seat's roots in one cut). By AI agents, Wed Nov 11 2026. No macro, syntax, notation, axiom, sorry.
-/
import Derived.Test.YtjgckfcocmhnhaaGreatDoorChecked
import GoSem.PinnedTables
import GoSem.Claim
import GoSem.ClaimJoined
import GoSem.ClaimMapViews
import Derived.JoinedTies
import Derived.KernelRfl
namespace Go.Proofs.YtjgckfcocmhnhaaGreatDoor
/- THE CELL 'sum', in the pinned program and in every row, IS THE sha256 OF THE DUMP (.gsa) THAT YtjgckfcocmhnhaaGreatDoorProg.lean LOADS. Nothing in Lean hashes anything: it is a label: what it is worth is what the hold of that sum in a sandbox is worth. -/
noncomputable def Tryz.pinned : Pinned := { name := "ytjgckfcocmhnhaagreatdoor", sum := "3cc7274e2c1e233a6abaf0498fc3d7cc786663c486eb0c7ddfe296a68d8194a1", checked := Tryz.checked }
namespace Rows
def none {H : Type} : Left H := { results := [], args := [] }

/- WHAT THE LISTED PACKAGE-LEVEL VARIABLES READ AS WHEN THE CALL BEGINS. Each datum BY PROGRAM (the guide's laid-datum.mjs) off the statement by which the dump's own 'gosem.cut.vars' lays the variable. In a bare row this is a premise. The card (YtjgckfcocmhnhaaGreatDoorCards.lean) ties it to the program's text. -/
def laid_unicode_utf8_acceptRanges {H : Type} : DataW H := .agg [.agg [.lit (.int .u8 128), .lit (.int .u8 191)], .agg [.lit (.int .u8 160), .lit (.int .u8 191)], .agg [.lit (.int .u8 128), .lit (.int .u8 159)], .agg [.lit (.int .u8 144), .lit (.int .u8 191)], .agg [.lit (.int .u8 128), .lit (.int .u8 143)], .agg [.lit (.int .u8 0), .lit (.int .u8 0)], .agg [.lit (.int .u8 0), .lit (.int .u8 0)], .agg [.lit (.int .u8 0), .lit (.int .u8 0)], .agg [.lit (.int .u8 0), .lit (.int .u8 0)], .agg [.lit (.int .u8 0), .lit (.int .u8 0)], .agg [.lit (.int .u8 0), .lit (.int .u8 0)], .agg [.lit (.int .u8 0), .lit (.int .u8 0)], .agg [.lit (.int .u8 0), .lit (.int .u8 0)], .agg [.lit (.int .u8 0), .lit (.int .u8 0)], .agg [.lit (.int .u8 0), .lit (.int .u8 0)], .agg [.lit (.int .u8 0), .lit (.int .u8 0)]]
/-- One of Go's own tables, pinned by name: the form's constant. -/
def laid_unicode_utf8_first : DataW Unit := Go.Pinned.utf8First

/-- 'spillwaylaw15.SeriesPlays': WHATEVER THE INPUT: true; the input reads as it did. -/
def seriesPlaysSpec : ChangeSpec := { name := "seriesPlays", fn := fun _ => fun
  | [d1, d2, d3] => { results := [.lit (.bool true)], args := [d1, d2, d3] }
  | _ => none }
def seriesPlaysRow : OpenClaim := { program := "ytjgckfcocmhnhaagreatdoor", sum := "3cc7274e2c1e233a6abaf0498fc3d7cc786663c486eb0c7ddfe296a68d8194a1", func := "spillway/spillwaylaw15.SeriesPlays", spec := "seriesPlays", inPlace := ["internal/bytealg.IndexByteString", "internal/bytealg.IndexString", "internal/bytealg.abigen_runtime_cmpstring", "slices.overlaps[spillway/series.one]", "math/bits.Add64"], unfollowed := true, recurses := true, named := ["math/bits.divideError", "math/bits.overflowError", "internal/bytealg.MaxLen", "unicode/utf8.first", "unicode/utf8.acceptRanges"], apart := false, laid := [("unicode/utf8.acceptRanges", laid_unicode_utf8_acceptRanges), ("unicode/utf8.first", laid_unicode_utf8_first)] }
def SeriesPlaysSaid : Prop := seriesPlaysRow.holds Tryz.pinned (OpenSpec.ofChange seriesPlaysSpec)

/-- ITS FALSE NEIGHBOUR: 'it returns false'. Refute it at one input. -/
def seriesPlaysWrong : ChangeSpec := { name := "seriesPlays", fn := fun _ => fun
  | [d1, d2, d3] => { results := [.lit (.bool false)], args := [d1, d2, d3] }
  | _ => none }
def SeriesPlaysWrongFalsely : Prop := seriesPlaysRow.holds Tryz.pinned (OpenSpec.ofChange seriesPlaysWrong)

/-- 'spillwaylaw15.SeriesCap': WHATEVER THE INPUT: true; the input reads as it did. -/
def seriesCapSpec : ChangeSpec := { name := "seriesCap", fn := fun _ => fun
  | [d1, d2] => { results := [.lit (.bool true)], args := [d1, d2] }
  | _ => none }
def seriesCapRow : OpenClaim := { program := "ytjgckfcocmhnhaagreatdoor", sum := "3cc7274e2c1e233a6abaf0498fc3d7cc786663c486eb0c7ddfe296a68d8194a1", func := "spillway/spillwaylaw15.SeriesCap", spec := "seriesCap", inPlace := ["internal/bytealg.IndexByteString", "internal/bytealg.IndexString", "internal/bytealg.abigen_runtime_cmpstring", "slices.overlaps[spillway/series.one]", "math/bits.Add64"], unfollowed := true, recurses := true, named := ["math/bits.divideError", "math/bits.overflowError", "internal/bytealg.MaxLen", "unicode/utf8.first", "unicode/utf8.acceptRanges"], apart := false, laid := [("unicode/utf8.acceptRanges", laid_unicode_utf8_acceptRanges), ("unicode/utf8.first", laid_unicode_utf8_first)] }
def SeriesCapSaid : Prop := seriesCapRow.holds Tryz.pinned (OpenSpec.ofChange seriesCapSpec)

/-- ITS FALSE NEIGHBOUR: 'it returns false'. Refute it at one input. -/
def seriesCapWrong : ChangeSpec := { name := "seriesCap", fn := fun _ => fun
  | [d1, d2] => { results := [.lit (.bool false)], args := [d1, d2] }
  | _ => none }
def SeriesCapWrongFalsely : Prop := seriesCapRow.holds Tryz.pinned (OpenSpec.ofChange seriesCapWrong)

/-- 'spillwaylaw15.SeriesOver': WHATEVER THE INPUT: true; the input reads as it did. -/
def seriesOverSpec : ChangeSpec := { name := "seriesOver", fn := fun _ => fun
  | [d1, d2, d3] => { results := [.lit (.bool true)], args := [d1, d2, d3] }
  | _ => none }
def seriesOverRow : OpenClaim := { program := "ytjgckfcocmhnhaagreatdoor", sum := "3cc7274e2c1e233a6abaf0498fc3d7cc786663c486eb0c7ddfe296a68d8194a1", func := "spillway/spillwaylaw15.SeriesOver", spec := "seriesOver", inPlace := ["internal/bytealg.IndexByteString", "internal/bytealg.IndexString", "internal/bytealg.abigen_runtime_cmpstring", "slices.overlaps[spillway/series.one]", "math/bits.Add64"], unfollowed := true, recurses := true, named := ["math/bits.divideError", "math/bits.overflowError", "internal/bytealg.MaxLen", "unicode/utf8.first", "unicode/utf8.acceptRanges"], apart := false, laid := [("unicode/utf8.acceptRanges", laid_unicode_utf8_acceptRanges), ("unicode/utf8.first", laid_unicode_utf8_first)] }
def SeriesOverSaid : Prop := seriesOverRow.holds Tryz.pinned (OpenSpec.ofChange seriesOverSpec)

/-- ITS FALSE NEIGHBOUR: 'it returns false'. Refute it at one input. -/
def seriesOverWrong : ChangeSpec := { name := "seriesOver", fn := fun _ => fun
  | [d1, d2, d3] => { results := [.lit (.bool false)], args := [d1, d2, d3] }
  | _ => none }
def SeriesOverWrongFalsely : Prop := seriesOverRow.holds Tryz.pinned (OpenSpec.ofChange seriesOverWrong)

/-- 'spillwaylaw15.SeriesApart': WHATEVER THE INPUT: true; the input reads as it did. -/
def seriesApartSpec : ChangeSpec := { name := "seriesApart", fn := fun _ => fun
  | [d] => { results := [.lit (.bool true)], args := [d] }
  | _ => none }
def seriesApartRow : OpenClaim := { program := "ytjgckfcocmhnhaagreatdoor", sum := "3cc7274e2c1e233a6abaf0498fc3d7cc786663c486eb0c7ddfe296a68d8194a1", func := "spillway/spillwaylaw15.SeriesApart", spec := "seriesApart", inPlace := ["internal/bytealg.IndexByteString", "internal/bytealg.IndexString", "internal/bytealg.abigen_runtime_cmpstring", "slices.overlaps[spillway/series.one]", "math/bits.Add64"], unfollowed := true, recurses := true, named := ["math/bits.divideError", "math/bits.overflowError", "internal/bytealg.MaxLen", "unicode/utf8.first", "unicode/utf8.acceptRanges"], apart := false, laid := [("unicode/utf8.acceptRanges", laid_unicode_utf8_acceptRanges), ("unicode/utf8.first", laid_unicode_utf8_first)] }
def SeriesApartSaid : Prop := seriesApartRow.holds Tryz.pinned (OpenSpec.ofChange seriesApartSpec)

/-- ITS FALSE NEIGHBOUR: 'it returns false'. Refute it at one input. -/
def seriesApartWrong : ChangeSpec := { name := "seriesApart", fn := fun _ => fun
  | [d] => { results := [.lit (.bool false)], args := [d] }
  | _ => none }
def SeriesApartWrongFalsely : Prop := seriesApartRow.holds Tryz.pinned (OpenSpec.ofChange seriesApartWrong)

/-- 'spillwaylaw15.SeriesMatch': WHATEVER THE INPUT: true; the input reads as it did. -/
def seriesMatchSpec : ChangeSpec := { name := "seriesMatch", fn := fun _ => fun
  | [d1, d2, d3] => { results := [.lit (.bool true)], args := [d1, d2, d3] }
  | _ => none }
def seriesMatchRow : OpenClaim := { program := "ytjgckfcocmhnhaagreatdoor", sum := "3cc7274e2c1e233a6abaf0498fc3d7cc786663c486eb0c7ddfe296a68d8194a1", func := "spillway/spillwaylaw15.SeriesMatch", spec := "seriesMatch", inPlace := ["internal/bytealg.IndexByteString", "internal/bytealg.IndexString", "internal/bytealg.abigen_runtime_cmpstring", "slices.overlaps[spillway/series.one]", "math/bits.Add64"], unfollowed := true, recurses := true, named := ["math/bits.divideError", "math/bits.overflowError", "internal/bytealg.MaxLen", "unicode/utf8.first", "unicode/utf8.acceptRanges"], apart := false, laid := [("unicode/utf8.acceptRanges", laid_unicode_utf8_acceptRanges), ("unicode/utf8.first", laid_unicode_utf8_first)] }
def SeriesMatchSaid : Prop := seriesMatchRow.holds Tryz.pinned (OpenSpec.ofChange seriesMatchSpec)

/-- ITS FALSE NEIGHBOUR: 'it returns false'. Refute it at one input. -/
def seriesMatchWrong : ChangeSpec := { name := "seriesMatch", fn := fun _ => fun
  | [d1, d2, d3] => { results := [.lit (.bool false)], args := [d1, d2, d3] }
  | _ => none }
def SeriesMatchWrongFalsely : Prop := seriesMatchRow.holds Tryz.pinned (OpenSpec.ofChange seriesMatchWrong)

/-- 'spillwaylaw15.SeriesAgain': WHATEVER THE INPUT: true; the input reads as it did. -/
def seriesAgainSpec : ChangeSpec := { name := "seriesAgain", fn := fun _ => fun
  | [d1, d2] => { results := [.lit (.bool true)], args := [d1, d2] }
  | _ => none }
def seriesAgainRow : OpenClaim := { program := "ytjgckfcocmhnhaagreatdoor", sum := "3cc7274e2c1e233a6abaf0498fc3d7cc786663c486eb0c7ddfe296a68d8194a1", func := "spillway/spillwaylaw15.SeriesAgain", spec := "seriesAgain", inPlace := ["internal/bytealg.IndexByteString", "internal/bytealg.IndexString", "internal/bytealg.abigen_runtime_cmpstring", "slices.overlaps[spillway/series.one]", "math/bits.Add64"], unfollowed := true, recurses := true, named := ["math/bits.divideError", "math/bits.overflowError", "internal/bytealg.MaxLen", "unicode/utf8.first", "unicode/utf8.acceptRanges"], apart := false, laid := [("unicode/utf8.acceptRanges", laid_unicode_utf8_acceptRanges), ("unicode/utf8.first", laid_unicode_utf8_first)] }
def SeriesAgainSaid : Prop := seriesAgainRow.holds Tryz.pinned (OpenSpec.ofChange seriesAgainSpec)

/-- ITS FALSE NEIGHBOUR: 'it returns false'. Refute it at one input. -/
def seriesAgainWrong : ChangeSpec := { name := "seriesAgain", fn := fun _ => fun
  | [d1, d2] => { results := [.lit (.bool false)], args := [d1, d2] }
  | _ => none }
def SeriesAgainWrongFalsely : Prop := seriesAgainRow.holds Tryz.pinned (OpenSpec.ofChange seriesAgainWrong)

/- THE SECOND FORM. 'bulk': how many values and letters a reading holds, each counted each time it is reached (what is shared counts as often as it is met; a slice's spare places count too). A statement '..UptoSaid' is the law's where the arguments, and the package variables that the reading takes, are together of bulk at most 1048576: NARROWER than '..Said'. Prove '..Said' where nothing that the law and all that it calls make is longer than what came in: it says more and counts as full. Else prove '..UptoSaid'. A law counts once. -/
mutual
def uptoBulk {H : Type} : DataW H → Nat
  | .lit (.string bytes) => bytes.length + 1
  | .lit _ => 1
  | .nil => 1
  | .ptr d => uptoBulk d + 1
  | .slice elems spare => uptoBulkAll elems + uptoBulkAll spare + 1
  | .agg parts => uptoBulkAll parts + 1
  | .iface _ d => uptoBulk d + 1
  | .map entries => uptoBulkEntries entries + 1
  | .held _ => 1
def uptoBulkAll {H : Type} : List (DataW H) → Nat
  | [] => 0
  | d :: r => uptoBulk d + uptoBulkAll r
def uptoBulkEntries {H : Type} : List (Lit × DataW H) → Nat
  | [] => 0
  | x :: r => uptoBulkEntry x + uptoBulkEntries r
def uptoBulkEntry {H : Type} : Lit × DataW H → Nat
  | (.string bytes, d) => bytes.length + uptoBulk d + 1
  | (_, d) => uptoBulk d + 1
 end
def uptoSmall : (H : Type) → List (DataW H) → Bool := fun _ ds => decide (uptoBulkAll ds ≤ 1048576)
def OpenSpec.upto (s : _root_.Go.ChangeSpec) : _root_.Go.OpenSpec := { _root_.Go.OpenSpec.ofChange s with cond := some uptoSmall }

/-- 'spillwaylaw15.SeriesPlays', WHERE WHAT IT READS IS OF BULK AT MOST 1048576: true; the input reads as it did. -/
def seriesPlaysUptoRow : OpenClaim := { program := "ytjgckfcocmhnhaagreatdoor", sum := "3cc7274e2c1e233a6abaf0498fc3d7cc786663c486eb0c7ddfe296a68d8194a1", func := "spillway/spillwaylaw15.SeriesPlays", spec := "seriesPlays", inPlace := ["internal/bytealg.IndexByteString", "internal/bytealg.IndexString", "internal/bytealg.abigen_runtime_cmpstring", "slices.overlaps[spillway/series.one]", "math/bits.Add64"], unfollowed := true, recurses := true, named := ["math/bits.divideError", "math/bits.overflowError", "internal/bytealg.MaxLen", "unicode/utf8.first", "unicode/utf8.acceptRanges"], apart := false, laid := [("unicode/utf8.acceptRanges", laid_unicode_utf8_acceptRanges), ("unicode/utf8.first", laid_unicode_utf8_first)], narrowed := true }
def SeriesPlaysUptoSaid : Prop := seriesPlaysUptoRow.holds Tryz.pinned (OpenSpec.upto seriesPlaysSpec)

/-- 'spillwaylaw15.SeriesCap', WHERE WHAT IT READS IS OF BULK AT MOST 1048576: true; the input reads as it did. -/
def seriesCapUptoRow : OpenClaim := { program := "ytjgckfcocmhnhaagreatdoor", sum := "3cc7274e2c1e233a6abaf0498fc3d7cc786663c486eb0c7ddfe296a68d8194a1", func := "spillway/spillwaylaw15.SeriesCap", spec := "seriesCap", inPlace := ["internal/bytealg.IndexByteString", "internal/bytealg.IndexString", "internal/bytealg.abigen_runtime_cmpstring", "slices.overlaps[spillway/series.one]", "math/bits.Add64"], unfollowed := true, recurses := true, named := ["math/bits.divideError", "math/bits.overflowError", "internal/bytealg.MaxLen", "unicode/utf8.first", "unicode/utf8.acceptRanges"], apart := false, laid := [("unicode/utf8.acceptRanges", laid_unicode_utf8_acceptRanges), ("unicode/utf8.first", laid_unicode_utf8_first)], narrowed := true }
def SeriesCapUptoSaid : Prop := seriesCapUptoRow.holds Tryz.pinned (OpenSpec.upto seriesCapSpec)

/-- 'spillwaylaw15.SeriesOver', WHERE WHAT IT READS IS OF BULK AT MOST 1048576: true; the input reads as it did. -/
def seriesOverUptoRow : OpenClaim := { program := "ytjgckfcocmhnhaagreatdoor", sum := "3cc7274e2c1e233a6abaf0498fc3d7cc786663c486eb0c7ddfe296a68d8194a1", func := "spillway/spillwaylaw15.SeriesOver", spec := "seriesOver", inPlace := ["internal/bytealg.IndexByteString", "internal/bytealg.IndexString", "internal/bytealg.abigen_runtime_cmpstring", "slices.overlaps[spillway/series.one]", "math/bits.Add64"], unfollowed := true, recurses := true, named := ["math/bits.divideError", "math/bits.overflowError", "internal/bytealg.MaxLen", "unicode/utf8.first", "unicode/utf8.acceptRanges"], apart := false, laid := [("unicode/utf8.acceptRanges", laid_unicode_utf8_acceptRanges), ("unicode/utf8.first", laid_unicode_utf8_first)], narrowed := true }
def SeriesOverUptoSaid : Prop := seriesOverUptoRow.holds Tryz.pinned (OpenSpec.upto seriesOverSpec)

/-- 'spillwaylaw15.SeriesApart', WHERE WHAT IT READS IS OF BULK AT MOST 1048576: true; the input reads as it did. -/
def seriesApartUptoRow : OpenClaim := { program := "ytjgckfcocmhnhaagreatdoor", sum := "3cc7274e2c1e233a6abaf0498fc3d7cc786663c486eb0c7ddfe296a68d8194a1", func := "spillway/spillwaylaw15.SeriesApart", spec := "seriesApart", inPlace := ["internal/bytealg.IndexByteString", "internal/bytealg.IndexString", "internal/bytealg.abigen_runtime_cmpstring", "slices.overlaps[spillway/series.one]", "math/bits.Add64"], unfollowed := true, recurses := true, named := ["math/bits.divideError", "math/bits.overflowError", "internal/bytealg.MaxLen", "unicode/utf8.first", "unicode/utf8.acceptRanges"], apart := false, laid := [("unicode/utf8.acceptRanges", laid_unicode_utf8_acceptRanges), ("unicode/utf8.first", laid_unicode_utf8_first)], narrowed := true }
def SeriesApartUptoSaid : Prop := seriesApartUptoRow.holds Tryz.pinned (OpenSpec.upto seriesApartSpec)

/-- 'spillwaylaw15.SeriesMatch', WHERE WHAT IT READS IS OF BULK AT MOST 1048576: true; the input reads as it did. -/
def seriesMatchUptoRow : OpenClaim := { program := "ytjgckfcocmhnhaagreatdoor", sum := "3cc7274e2c1e233a6abaf0498fc3d7cc786663c486eb0c7ddfe296a68d8194a1", func := "spillway/spillwaylaw15.SeriesMatch", spec := "seriesMatch", inPlace := ["internal/bytealg.IndexByteString", "internal/bytealg.IndexString", "internal/bytealg.abigen_runtime_cmpstring", "slices.overlaps[spillway/series.one]", "math/bits.Add64"], unfollowed := true, recurses := true, named := ["math/bits.divideError", "math/bits.overflowError", "internal/bytealg.MaxLen", "unicode/utf8.first", "unicode/utf8.acceptRanges"], apart := false, laid := [("unicode/utf8.acceptRanges", laid_unicode_utf8_acceptRanges), ("unicode/utf8.first", laid_unicode_utf8_first)], narrowed := true }
def SeriesMatchUptoSaid : Prop := seriesMatchUptoRow.holds Tryz.pinned (OpenSpec.upto seriesMatchSpec)

/-- 'spillwaylaw15.SeriesAgain', WHERE WHAT IT READS IS OF BULK AT MOST 1048576: true; the input reads as it did. -/
def seriesAgainUptoRow : OpenClaim := { program := "ytjgckfcocmhnhaagreatdoor", sum := "3cc7274e2c1e233a6abaf0498fc3d7cc786663c486eb0c7ddfe296a68d8194a1", func := "spillway/spillwaylaw15.SeriesAgain", spec := "seriesAgain", inPlace := ["internal/bytealg.IndexByteString", "internal/bytealg.IndexString", "internal/bytealg.abigen_runtime_cmpstring", "slices.overlaps[spillway/series.one]", "math/bits.Add64"], unfollowed := true, recurses := true, named := ["math/bits.divideError", "math/bits.overflowError", "internal/bytealg.MaxLen", "unicode/utf8.first", "unicode/utf8.acceptRanges"], apart := false, laid := [("unicode/utf8.acceptRanges", laid_unicode_utf8_acceptRanges), ("unicode/utf8.first", laid_unicode_utf8_first)], narrowed := true }
def SeriesAgainUptoSaid : Prop := seriesAgainUptoRow.holds Tryz.pinned (OpenSpec.upto seriesAgainSpec)

end Rows
end Go.Proofs.YtjgckfcocmhnhaaGreatDoor
