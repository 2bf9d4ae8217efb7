/- RulesBounds: facts of the row -/
import Derived.Test.YtjlaihekocjggaaGreatDoorKMU
import Derived.Test.YtjlaihekocjggaaGreatDoorTie
import Derived.Test.YtjlaihekocjggaaGreatDoorCards
namespace Go.Proofs.YtjlaihekocjggaaGreatDoor.rulesBoundsRow
open Go.ChangeShapes Go.WideShapes Go.ChangeAt Go.RowKit Go.Joins Go.ChangeMaps
theorem c1:Rows.rulesBoundsRow.inPlace = Tryz.prog.inPlace 7:=by kernel_rfl
theorem c2:Rows.rulesBoundsRow.unfollowed = Tryz.prog.unfollowed 7:=by kernel_rfl
theorem c3:Rows.rulesBoundsRow.recurses = Tryz.prog.recurses 7:=by kernel_rfl
theorem c4:Rows.rulesBoundsRow.named = Tryz.prog.varsNamed 7:=by kernel_rfl
theorem facts:joinedFacts Tryz.prog 7 Tryz.f7 Rows.rulesBoundsSpec Rows.rulesBoundsRow = true:=by
 unfold joinedFacts
 rw [← c1,← c2,← c3,← c4]
 kernel_rfl
theorem wraps:Tryz.f7.isWrapper Tryz.prog Rows.rulesBoundsRow.wrapper Rows.rulesBoundsRow.mainSum:=by unfold Func.isWrapper;first | (rw [if_pos (by decide +kernel)];kernel_rfl) | (rw [if_neg (by decide +kernel)];exact ⟨rfl,rfl⟩)
theorem inst:Tryz.f7.isInstance Tryz.prog Rows.rulesBoundsRow.origin Rows.rulesBoundsRow.targs:=of_decide_eq_true (by kernel_rfl)
end Go.Proofs.YtjlaihekocjggaaGreatDoor.rulesBoundsRow
