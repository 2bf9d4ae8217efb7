/- Regions that draw their order: other conditions, cuts; bytealg.MaxLen; texts one behind the other. -/
import Derived.Test.YtcbjhfnlhpallaaGreatDoorShelfTwo
import Derived.Test.YtcbjhfnlhpallaaGreatDoorText
import Derived.Test.YtcbjhfnlhpallaaGreatDoorTake
namespace Go.Proofs.YtcbjhfnlhpallaaGreatDoor
open Go.RowKit

/-- Another condition on the world, which gives the first. -/
theorem other_cond {P : Program} {ops : Array Oper} {Q : Exit → Act → World → Prop} {md : Region.Mode} (S S' : World → Prop) (hS : ∀ w, S' w → S w) : ∀ (fuel : Nat) (listed : Array Bool) (a : Act) (w : World), wpAnyH P md ops Q S' fuel listed a w → wpAnyH P md ops Q S fuel listed a w
  | 0, _, _, _, h => h
  | fuel + 1, _, _, _, h => ⟨h.1, fun i hi => wpOp_mono (fun a' w' h' => ⟨hS _ h'.1, other_cond S S' hS fuel _ a' w' h'.2⟩) (h.2 i hi)⟩
/-- A cut behind a piece of code. -/
theorem region_mid {P : Program} {c : Code} {K : Act → World → Prop} {Q : Exit → Act → World → Prop} {a : Act} {w : World} (R : Act → World → Prop) (h1 : c.wp P (Exit.then R Q) a w) (h2 : ∀ a' w', R a' w' → K a' w') : c.wp P (Exit.then K Q) a w := by
  refine Code.wp_mono ?_ h1
  intro e a' w' h
  cases e <;> first | exact h2 _ _ h | exact h

/-- bytealg.MaxLen is some number. -/
def Mx (w : World) : Prop := ∃ m : Int, w.cell? ⟨1, 0, none⟩ = some (.int .i64 m)
theorem Mx.later {w w' : World} (h : Mx w) (hb : Below w.heap.size w w') : Mx w' := by
  obtain ⟨m, h⟩ := h
  exact ⟨m, (hb.cell (p := ⟨1, 0, none⟩) (World.block_lt_of_cell? _ _ h)).trans h⟩
theorem Mx.drewN {w : World} (h : Mx w) (k : Nat) : Mx (w.drewN k) := h

/-! ### Texts one behind the other -/
theorem add_tx (P : Program) (a b : Str) (h : a.length + b.length ≤ 8388608) (w : World) : (Op.stringOp .add ⟨a.toArray⟩ ⟨b.toArray⟩).run P w = .ok (tx (a ++ b)) w := by
  rw [run_string_add_sum]
  · rw [show ((⟨a.toArray⟩ : ByteArray) ++ ⟨b.toArray⟩) = ⟨(a ++ b).toArray⟩ by
      apply ByteArray.ext
      simp]
  · rw [ba_size, ba_size]; omega

end Go.Proofs.YtcbjhfnlhpallaaGreatDoor
