/- RulesLast: facts of the row -/
import Derived.Test.YtjlaihekocjggaaGreatDoorKMU
import Derived.Test.YtjlaihekocjggaaGreatDoorTie
import Derived.Test.YtjlaihekocjggaaGreatDoorCards
namespace Go.Proofs.YtjlaihekocjggaaGreatDoor.rulesLastRow
open Go.ChangeShapes Go.WideShapes Go.ChangeAt Go.RowKit Go.Joins Go.ChangeMaps
theorem c1:Rows.rulesLastRow.inPlace = Tryz.prog.inPlace 10:=by kernel_rfl
theorem c2:Rows.rulesLastRow.unfollowed = Tryz.prog.unfollowed 10:=by kernel_rfl
theorem c3:Rows.rulesLastRow.recurses = Tryz.prog.recurses 10:=by kernel_rfl
theorem c4:Rows.rulesLastRow.named = Tryz.prog.varsNamed 10:=by kernel_rfl
theorem facts:joinedFacts Tryz.prog 10 Tryz.f10 Rows.rulesLastSpec Rows.rulesLastRow = true:=by
 unfold joinedFacts
 rw [← c1,← c2,← c3,← c4]
 kernel_rfl
theorem wraps:Tryz.f10.isWrapper Tryz.prog Rows.rulesLastRow.wrapper Rows.rulesLastRow.mainSum:=by unfold Func.isWrapper;first | (rw [if_pos (by decide +kernel)];kernel_rfl) | (rw [if_neg (by decide +kernel)];exact ⟨rfl,rfl⟩)
theorem inst:Tryz.f10.isInstance Tryz.prog Rows.rulesLastRow.origin Rows.rulesLastRow.targs:=of_decide_eq_true (by kernel_rfl)
end Go.Proofs.YtjlaihekocjggaaGreatDoor.rulesLastRow
