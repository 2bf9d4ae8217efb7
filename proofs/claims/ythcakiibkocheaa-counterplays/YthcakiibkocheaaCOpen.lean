/- What the rows lean on. -/
import Derived.Test.YthcakiibkocheaaCRow
import Derived.ProofKit
import Derived.OpenShut
import Derived.JoinedOf
import Derived.JoinedAt
import Derived.Deep.SlicePairs
import Derived.Laws.IdiomArrays
namespace Go.Proofs.Ythcakiibkocheaa
open Go.ChangeShapes Go.WideShapes Go.ChangeAt Go.RowKit Go.Deep

theorem laidOut : laidOutB Try.prog = true := by kernel_rfl
end Go.Proofs.Ythcakiibkocheaa
