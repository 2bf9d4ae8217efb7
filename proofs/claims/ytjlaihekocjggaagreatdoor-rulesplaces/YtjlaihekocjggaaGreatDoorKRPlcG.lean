/- Texts that the others lean on. -/
import Derived.Test.YtjlaihekocjggaaGreatDoorTie
import Derived.Test.YtjlaihekocjggaaGreatDoorCards
import Derived.Test.YtjlaihekocjggaaGreatDoorKRGo
import Derived.Test.YtjlaihekocjggaaGreatDoorKMU
namespace Go.Proofs.YtjlaihekocjggaaGreatDoor.rulesPlacesRow
open Go.ChangeShapes Go.WideShapes Go.ChangeAt Go.RowKit Go.Joins Go.ChangeMaps
theorem goes:false = Rows.rulesPlacesRow.goesBy Tryz.prog:=(goes_at goes_all _ _).symm
theorem text:Rows.rulesPlacesRow.wfByText (OpenSpec.ofChange Rows.rulesPlacesSpec) = true:=by kernel_rfl
theorem looks:true = Tryz.prog.looks []:=by kernel_rfl
end Go.Proofs.YtjlaihekocjggaaGreatDoor.rulesPlacesRow
