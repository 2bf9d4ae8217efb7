/- RulesLast: facts of the row, the rest -/
import Derived.Test.YtjlaihekocjggaaGreatDoorKRGo
import Derived.Test.YtjlaihekocjggaaGreatDoorKMU
import Derived.Test.YtjlaihekocjggaaGreatDoorTie
import Derived.Test.YtjlaihekocjggaaGreatDoorCards
namespace Go.Proofs.YtjlaihekocjggaaGreatDoor.rulesLastRow
open Go.ChangeShapes Go.WideShapes Go.ChangeAt Go.RowKit Go.Joins Go.ChangeMaps
theorem goes:false = Rows.rulesLastRow.goesBy Tryz.prog:=(goes_at goes_all _ _).symm
theorem text:Rows.rulesLastRow.wfByText (OpenSpec.ofChange Rows.rulesLastSpec) = true:=by kernel_rfl
theorem looks:true = Tryz.prog.looks []:=by kernel_rfl
end Go.Proofs.YtjlaihekocjggaaGreatDoor.rulesLastRow
