/- RulesBuilt: facts of the row. -/
import Derived.Test.YtjlaihekocjggaaGreatDoorKMU
import Derived.Test.YtjlaihekocjggaaGreatDoorTie
import Derived.Test.YtjlaihekocjggaaGreatDoorCards
import Derived.Test.YtjlaihekocjggaaGreatDoorKRGo
set_option maxHeartbeats 16000000
namespace Go.Proofs.YtjlaihekocjggaaGreatDoor.rulesBuiltRow
open Go.ChangeShapes Go.WideShapes Go.ChangeAt Go.RowKit Go.Joins Go.ChangeMaps
theorem c1:Rows.rulesBuiltRow.inPlace = Tryz.prog.inPlace 9:=by kernel_rfl
theorem c2:Rows.rulesBuiltRow.unfollowed = Tryz.prog.unfollowed 9:=by kernel_rfl
theorem c3:Rows.rulesBuiltRow.recurses = Tryz.prog.recurses 9:=by kernel_rfl
theorem c4:Rows.rulesBuiltRow.named = Tryz.prog.varsNamed 9:=by kernel_rfl
theorem facts:joinedFacts Tryz.prog 9 Tryz.f9 Rows.rulesBuiltSpec Rows.rulesBuiltRow = true:=by
 unfold joinedFacts
 rw [← c1,← c2,← c3,← c4]
 kernel_rfl
theorem wraps:Tryz.f9.isWrapper Tryz.prog Rows.rulesBuiltRow.wrapper Rows.rulesBuiltRow.mainSum:=by unfold Func.isWrapper;first | (rw [if_pos (by decide +kernel)];kernel_rfl) | (rw [if_neg (by decide +kernel)];exact ⟨rfl,rfl⟩)
theorem inst:Tryz.f9.isInstance Tryz.prog Rows.rulesBuiltRow.origin Rows.rulesBuiltRow.targs:=of_decide_eq_true (by kernel_rfl)
theorem goes:false = Rows.rulesBuiltRow.goesBy Tryz.prog:=(goes_at goes_all _ _).symm
theorem text:Rows.rulesBuiltRow.wfByText (OpenSpec.ofChange Rows.rulesBuiltSpec) = true:=by kernel_rfl
theorem looks:true = Tryz.prog.looks []:=by kernel_rfl
end Go.Proofs.YtjlaihekocjggaaGreatDoor.rulesBuiltRow
