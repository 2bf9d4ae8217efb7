/- Pairs just made: rows of one and of two. -/
import Derived.Test.YtcbjhfnlhpallaaGreatDoorKeep
namespace Go.Proofs.YtcbjhfnlhpallaaGreatDoor
open Go.RowKit

theorem Ps.two (w : World) (p q : Pr) : Ps (w.alloc (.cells #[tx p.1, tx p.2, tx q.1, tx q.2] 58)) (some ⟨w.heap.size, 0, none⟩) 2 [p, q] := by
  refine ⟨rfl, fun _ => ⟨_, 0, rfl, fun j hj => ?_⟩⟩
  have : j = 0 ∨ j = 1 := by omega
  rcases this with rfl | rfl <;> constructor <;> simp [go_sem]
theorem Ps.one (w : World) (p : Pr) : Ps (w.alloc (.cells #[tx p.1, tx p.2] 58)) (some ⟨w.heap.size, 0, none⟩) 1 [p] := by
  refine ⟨rfl, fun _ => ⟨_, 0, rfl, fun j hj => ?_⟩⟩
  obtain rfl : j = 0 := by omega
  constructor <;> simp [go_sem]
theorem Fit.small {l : List Pr} (h : ∀ p ∈ l, p.1.length ≤ 1000 ∧ p.2.length ≤ 1000) : Fit l := fun p hp => by have := h p hp; omega
theorem Own.fitN {w : World} {b : Nat} {v : Value} {l : List Pr} (h : Own w b v l) : ∃ ao cap, v = .slice ao l.length cap ∧ Ps w ao l.length l := by
  obtain ⟨ao, cap, e, hp, _⟩ := h.slice
  exact ⟨ao, cap, e, hp⟩
end Go.Proofs.YtcbjhfnlhpallaaGreatDoor
