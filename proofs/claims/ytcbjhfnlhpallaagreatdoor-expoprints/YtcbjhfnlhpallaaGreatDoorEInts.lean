/- Slices of numbers that grow. -/
import Derived.Test.YtcbjhfnlhpallaaGreatDoorEView
namespace Go.Proofs.YtcbjhfnlhpallaaGreatDoor
open Go.RowKit

theorem info3 : (Tryz.prog.info? 3).map (fun i => (i.zero, i.size, i.bytes)) = some (some (.int .i64 0), 1, 8) := by kernel_rfl
theorem info_parts3 : ∃ i, Tryz.prog.info? 3 = some i ∧ i.zero = some (.int .i64 0) ∧ i.size = 1 ∧ i.bytes = 8 := by
  have h := info3
  cases hi : Tryz.prog.info? 3 with
  | none => rw [hi] at h; cases h
  | some i =>
    rw [hi] at h
    simp only [Option.map_some, Option.some.injEq, Prod.mk.injEq] at h
    exact ⟨i, rfl, h.1, h.2.1, h.2.2⟩
abbrev iv (x : Int) : Value := .int .i64 x
def OwnI (w : World) (base : Nat) (v : Value) (l : List Int) : Prop := w.ownsRow base 3 1 v l.length (l.map iv)
theorem OwnI.none (w : World) (base : Nat) : OwnI w base (.slice Option.none 0 0) [] := World.ownsRow_nil _ _ _ _
theorem OwnI.kept {w w' : World} {row : Option Nat} {base : Nat} {v : Value} {l : List Int} (h : OwnI w base v l) (hg : w.grownBy w' row) (hne : ∀ b, v.ownBlock = some b → some b ≠ row) : OwnI w' base v l := by
  refine World.ownsRow.kept h hg ?_
  cases e : v.ownBlock with
  | none => exact Or.inl rfl
  | some b => exact Or.inr (hne b e)
theorem OwnI.later {w w' : World} {base : Nat} {v : Value} {l : List Int} (h : OwnI w base v l) (hb : Below w.heap.size w w') : OwnI w' base v l := h.kept (grown_below hb Option.none) (by simp)
theorem OwnI.snoc {w : World} {base : Nat} {v : Value} {l : List Int} {x : Int} (h : w.ownsRow base 3 1 v (l.length + 1) (l.map iv ++ [iv x])) : OwnI w base v (l ++ [x]) := by
  unfold OwnI
  rw [List.map_append, List.length_append]
  exact h
def Ints (w : World) (ao : Option Addr) (n : Nat) (l : List Int) : Prop := l.length = n ∧ (0 < n → ∃ b off, ao = some ⟨b, off, Option.none⟩ ∧ ∀ j, j < n → w.cell? ⟨b, off + j, Option.none⟩ = some (iv (l.getD j 0)))
theorem Ints.later {w w' : World} {ao : Option Addr} {n : Nat} {l : List Int} (h : Ints w ao n l) (hb : Below w.heap.size w w') : Ints w' ao n l := by
  obtain ⟨h1, h2⟩ := h
  refine ⟨h1, fun hp => ?_⟩
  obtain ⟨b, off, e, hc⟩ := h2 hp
  exact ⟨b, off, e, fun j hj => cell_later' (hc j hj) hb⟩
theorem OwnI.view {w : World} {base : Nat} {v : Value} {l : List Int} (h : OwnI w base v l) : ∃ ao cap, v = .slice ao l.length cap ∧ Ints w ao l.length l := by
  obtain ⟨ao, cap, e, hc⟩ := row_at h
  refine ⟨ao, cap, e, rfl, fun hp => ?_⟩
  obtain ⟨g, ea, _, _, hcell⟩ := hc hp
  refine ⟨g, 0, ea, fun j hj => ?_⟩
  rw [Nat.zero_add, hcell j (by omega), List.getElem?_map, List.getElem?_eq_getElem hj]
  simp [List.getD, List.getElem?_eq_getElem hj]
end Go.Proofs.YtcbjhfnlhpallaaGreatDoor
