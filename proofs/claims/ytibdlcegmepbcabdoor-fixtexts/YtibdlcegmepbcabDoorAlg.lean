/- The laws of the numbers: nothing of the program. -/
import Derived.Test.YtibdlcegmepbcabDoorMul
namespace Go.Proofs.YtibdlcegmepbcabDoor
open Go.RowKit

theorem add_comm' (x y : Option Int) : fAdd x y = fAdd y x := by
  cases x <;> cases y <;> simp [fAdd]
  rw [Int.add_comm]
theorem mul_comm' (x y : Option Int) : fMul x y = fMul y x := by
  cases x <;> cases y <;> simp [fMul]
  rw [Int.mul_comm]
theorem neg_neg' (x : Option Int) : fNeg (fNeg x) = x := by
  cases x <;> simp [fNeg]
theorem norm_V {n : Int} (h : V (some n)) : norm n = some n := by
  have h1 : -9223372036854775807 ≤ n := h.1
  have h2 : n ≤ 9223372036854775807 := h.2
  unfold norm
  rw [if_pos ⟨h1, h2⟩]
theorem mul_one' {x : Option Int} (h : V x) : fMul x (fOf 1) = x := by
  have e : fOf 1 = some 1000000 := by decide +kernel
  rw [e]
  cases x with
  | none => rfl
  | some n =>
    show norm _ = _
    rw [Int.mul_tdiv_cancel _ (by decide)]
    exact norm_V h
theorem div_one' {x : Option Int} (h : V x) : fDiv x (fOf 1) = x := by
  have e : fOf 1 = some 1000000 := by decide +kernel
  rw [e]
  cases x with
  | none => rfl
  | some n =>
    show (if (1000000 : Int) = 0 then none else norm _) = _
    rw [if_neg (by decide), Int.mul_tdiv_cancel _ (by decide)]
    exact norm_V h
theorem add_zero' {x : Option Int} (h : V x) : fAdd x (some 0) = x := by
  cases x with
  | none => rfl
  | some n =>
    show norm _ = _
    rw [Int.add_zero]
    exact norm_V h
/-- A sum less what was added is what it was, or overflow. -/
theorem add_sub' {x y : Option Int} (h : V x) : ov (fAdd (fAdd x y) (fNeg y)) = true ∨ fAdd (fAdd x y) (fNeg y) = x := by
  cases x with
  | none => exact Or.inl rfl
  | some n =>
    cases y with
    | none => exact Or.inl rfl
    | some m =>
      show ov (fAdd (norm (n + m)) (some (-m))) = true ∨ fAdd (norm (n + m)) (some (-m)) = some n
      unfold norm
      split
      · right
        show norm _ = _
        have e : n + m + -m = n := by omega
        rw [e]
        exact norm_V h
      · exact Or.inl rfl
theorem norm_neg (x : Int) : norm (-x) = fNeg (norm x) := by
  unfold norm
  by_cases h : -9223372036854775807 ≤ x ∧ x ≤ 9223372036854775807
  · rw [if_pos h, if_pos (by omega)]
    rfl
  · rw [if_neg h, if_neg (by omega)]
    rfl
theorem neg_mul' (x y : Option Int) : fMul (fNeg x) y = fNeg (fMul x y) := by
  cases x with
  | none => cases y <;> rfl
  | some n =>
    cases y with
    | none => rfl
    | some m =>
      show norm _ = fNeg (norm _)
      rw [Int.neg_mul, Int.neg_tdiv, norm_neg]
theorem sum_turn (x y z : Option Int) : fSum [x, y, z] = fSum [z, x, y] := by
  have e : sumL [x, y, z] = sumL [z, x, y] := by
    cases x <;> cases y <;> cases z <;> simp [sumL, oadd]
    omega
  unfold fSum
  rw [e]
/-- A slice of numbers, wherever the heap has grown. -/
theorem Ns.later {w w' : World} {ao : Option Addr} {n : Nat} {l : List (Bool × Int)} (h : Ns w ao n l) (hb : Below w.heap.size w w') : Ns w' ao n l := by
  refine ⟨h.1, fun hp => ?_⟩
  obtain ⟨b, off, e, hc⟩ := h.2 hp
  refine ⟨b, off, e, fun j hj => ?_⟩
  obtain ⟨c0, c1⟩ := hc j hj
  exact ⟨(hb.cell (World.block_lt_of_cell? _ _ c0)).trans c0, (hb.cell (World.block_lt_of_cell? _ _ c1)).trans c1⟩
end Go.Proofs.YtibdlcegmepbcabDoor
