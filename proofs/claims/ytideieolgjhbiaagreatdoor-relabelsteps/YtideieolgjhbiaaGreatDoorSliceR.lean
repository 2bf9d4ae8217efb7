/- Parts of a slice of rules. -/
import Derived.Test.YtideieolgjhbiaaGreatDoorBoxR
namespace Go.Proofs.YtideieolgjhbiaaGreatDoor
open Go.RowKit

/-- Where a part of a slice begins. -/
def cutA (ao : Option Addr) (cap k : Nat) : Option Addr := if cap = k then ao else ao.map (·.add (k * 6))
theorem getR_drop (l : List Rl) (lo hi j : Nat) (h : lo + j < hi) : ((l.take hi).drop lo).getD j rl0 = l.getD (lo + j) rl0 := by
  simp only [List.getD, List.getElem?_drop, List.getElem?_take]
  rw [if_pos h]
theorem Rs.cut {w : World} {ao : Option Addr} {n cap : Nat} {l : List Rl} (h : Rs w ao n l) (hc : n ≤ cap) (lo hi : Nat) (h1 : lo ≤ hi) (h2 : hi ≤ n) : Rs w (cutA ao cap lo) (hi - lo) ((l.take hi).drop lo) := by
  obtain ⟨e1, e4⟩ := h
  refine ⟨by simp; omega, fun hp => ?_⟩
  obtain ⟨b, off, rfl, hcell⟩ := e4 (by omega)
  refine ⟨b, off + lo * 6, ?_, fun j hj => ?_⟩
  · unfold cutA
    rw [if_neg (by omega)]
    simp [Addr.add_lit]
  · have := hcell (lo + j) (by omega)
    have e : off + (lo + j) * 6 = off + lo * 6 + j * 6 := by omega
    rw [e] at this
    rw [getR_drop l lo hi j (by omega)]
    exact this
theorem Rs.head {w : World} {ao : Option Addr} {n cap : Nat} {l : List Rl} (h : Rs w ao n l) (hc : n ≤ cap) (k : Nat) (h2 : k ≤ n) : Rs w (cutA ao cap 0) k (l.take k) := by
  have := h.cut hc 0 k (Nat.zero_le _) h2
  simpa using this
theorem Rs.tail {w : World} {ao : Option Addr} {n cap : Nat} {l : List Rl} (h : Rs w ao n l) (hc : n ≤ cap) (k : Nat) (h2 : k ≤ n) : Rs w (cutA ao cap k) (n - k) (l.drop k) := by
  have := h.cut hc k n h2 (Nat.le_refl _)
  rwa [List.take_of_length_le (by rw [h.1]; exact Nat.le_refl _)] at this
theorem sizeElem (w : World) : (sizeOf (Tryz.prog.elem 23)).run Tryz.prog w = .ok 6 w := by kernel_rfl
theorem sliceElem : Tryz.prog.underlying 23 = some (.slice (Tryz.prog.elem 23)) := by kernel_rfl
theorem cut_front (ao : Option Addr) (n cap k : Nat) (h : k ≤ cap) (w : World) : (Instr.slice 23 (.slice ao n cap) none (some (.int .i64 k)) none).run Tryz.prog w = .ok (.slice (cutA ao cap 0) k cap) w := by
  rw [run_slice_h w 23 ao n cap sliceElem .i64 (k : Int) (by omega) (by omega), sizeElem]
  simp [sliced, cutA, Result.andThen]
theorem cut_back (ao : Option Addr) (n cap k : Nat) (h : k ≤ n) (w : World) : (Instr.slice 23 (.slice ao n cap) (some (.int .i64 k)) none none).run Tryz.prog w = .ok (.slice (cutA ao cap k) (n - k) (cap - k)) w := by
  rw [run_slice_l w 23 ao n cap sliceElem .i64 (k : Int) (by omega) (by omega), sizeElem]
  simp [sliced, cutA, Result.andThen]
end Go.Proofs.YtideieolgjhbiaaGreatDoor
