/- RulesGroups: facts of the row -/
import Derived.Test.YtjlaihekocjggaaGreatDoorKMU
import Derived.Test.YtjlaihekocjggaaGreatDoorTie
import Derived.Test.YtjlaihekocjggaaGreatDoorCards
namespace Go.Proofs.YtjlaihekocjggaaGreatDoor.rulesGroupsRow
open Go.ChangeShapes Go.WideShapes Go.ChangeAt Go.RowKit Go.Joins Go.ChangeMaps
theorem c1:Rows.rulesGroupsRow.inPlace = Tryz.prog.inPlace 11:=by kernel_rfl
theorem c2:Rows.rulesGroupsRow.unfollowed = Tryz.prog.unfollowed 11:=by kernel_rfl
theorem c3:Rows.rulesGroupsRow.recurses = Tryz.prog.recurses 11:=by kernel_rfl
theorem c4:Rows.rulesGroupsRow.named = Tryz.prog.varsNamed 11:=by kernel_rfl
theorem facts:joinedFacts Tryz.prog 11 Tryz.f11 Rows.rulesGroupsSpec Rows.rulesGroupsRow = true:=by
 unfold joinedFacts
 rw [← c1,← c2,← c3,← c4]
 kernel_rfl
theorem wraps:Tryz.f11.isWrapper Tryz.prog Rows.rulesGroupsRow.wrapper Rows.rulesGroupsRow.mainSum:=by unfold Func.isWrapper;first | (rw [if_pos (by decide +kernel)];kernel_rfl) | (rw [if_neg (by decide +kernel)];exact ⟨rfl,rfl⟩)
theorem inst:Tryz.f11.isInstance Tryz.prog Rows.rulesGroupsRow.origin Rows.rulesGroupsRow.targs:=of_decide_eq_true (by kernel_rfl)
end Go.Proofs.YtjlaihekocjggaaGreatDoor.rulesGroupsRow
