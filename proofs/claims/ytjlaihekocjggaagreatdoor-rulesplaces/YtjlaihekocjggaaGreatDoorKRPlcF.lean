/- Texts that the others lean on. -/
import Derived.Test.YtjlaihekocjggaaGreatDoorTie
import Derived.Test.YtjlaihekocjggaaGreatDoorCards
import Derived.Test.YtjlaihekocjggaaGreatDoorKMU
namespace Go.Proofs.YtjlaihekocjggaaGreatDoor.rulesPlacesRow
open Go.ChangeShapes Go.WideShapes Go.ChangeAt Go.RowKit Go.Joins Go.ChangeMaps
theorem c1:Rows.rulesPlacesRow.inPlace = Tryz.prog.inPlace 8:=by kernel_rfl
theorem c2:Rows.rulesPlacesRow.unfollowed = Tryz.prog.unfollowed 8:=by kernel_rfl
theorem c3:Rows.rulesPlacesRow.recurses = Tryz.prog.recurses 8:=by kernel_rfl
theorem c4:Rows.rulesPlacesRow.named = Tryz.prog.varsNamed 8:=by kernel_rfl
theorem facts:joinedFacts Tryz.prog 8 Tryz.f8 Rows.rulesPlacesSpec Rows.rulesPlacesRow = true:=by
 unfold joinedFacts
 rw [← c1,← c2,← c3,← c4]
 kernel_rfl
theorem wraps:Tryz.f8.isWrapper Tryz.prog Rows.rulesPlacesRow.wrapper Rows.rulesPlacesRow.mainSum:=by unfold Func.isWrapper;first | (rw [if_pos (by decide +kernel)];kernel_rfl) | (rw [if_neg (by decide +kernel)];exact ⟨rfl,rfl⟩)
theorem inst:Tryz.f8.isInstance Tryz.prog Rows.rulesPlacesRow.origin Rows.rulesPlacesRow.targs:=of_decide_eq_true (by kernel_rfl)
end Go.Proofs.YtjlaihekocjggaaGreatDoor.rulesPlacesRow
