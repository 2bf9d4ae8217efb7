/- Parts of a slice of pairs; its cells. -/
import Derived.Test.YtmhpmlfpflkgbabDoorKnown
namespace Go.Proofs.YtmhpmlfpflkgbabDoor
open Go.RowKit

/-- Where a part of a slice begins. -/
def cutA (ao : Option Addr) (cap k : Nat) : Option Addr := if cap = k then ao else ao.map (·.add (k * 2))
theorem getD_drop (l : List Pr) (lo hi j : Nat) (h : lo + j < hi) : ((l.take hi).drop lo).getD j ([], []) = l.getD (lo + j) ([], []) := by
  simp only [List.getD, List.getElem?_drop, List.getElem?_take]
  rw [if_pos h]
theorem Ps.cut {w : World} {ao : Option Addr} {n cap : Nat} {l : List Pr} (h : Ps w ao n l) (hc : n ≤ cap) (lo hi : Nat) (h1 : lo ≤ hi) (h2 : hi ≤ n) : Ps w (cutA ao cap lo) (hi - lo) ((l.take hi).drop lo) := by
  obtain ⟨e1, e4⟩ := h
  refine ⟨by simp; omega, fun hp => ?_⟩
  obtain ⟨b, off, rfl, hcell⟩ := e4 (by omega)
  refine ⟨b, off + lo * 2, ?_, fun j hj => ?_⟩
  · unfold cutA
    rw [if_neg (by omega)]
    simp [Addr.add_lit]
  · have := hcell (lo + j) (by omega)
    have e : off + (lo + j) * 2 = off + lo * 2 + j * 2 := by omega
    rw [e] at this
    rw [getD_drop l lo hi j (by omega)]
    exact this
theorem Ps.head {w : World} {ao : Option Addr} {n cap : Nat} {l : List Pr} (h : Ps w ao n l) (hc : n ≤ cap) (k : Nat) (h2 : k ≤ n) : Ps w (cutA ao cap 0) k (l.take k) := by
  have := h.cut hc 0 k (Nat.zero_le _) h2
  simpa using this
theorem Ps.tail {w : World} {ao : Option Addr} {n cap : Nat} {l : List Pr} (h : Ps w ao n l) (hc : n ≤ cap) (k : Nat) (h2 : k ≤ n) : Ps w (cutA ao cap k) (n - k) (l.drop k) := by
  have := h.cut hc k n h2 (Nat.le_refl _)
  rwa [List.take_of_length_le (by rw [h.1]; exact Nat.le_refl _)] at this
theorem sizeElem (w : World) : (sizeOf (Tryd.prog.elem 22)).run Tryd.prog w = .ok 2 w := by kernel_rfl
theorem sliceElem : Tryd.prog.underlying 22 = some (.slice (Tryd.prog.elem 22)) := by kernel_rfl
theorem cut_front (ao : Option Addr) (n cap k : Nat) (h : k ≤ cap) (w : World) : (Instr.slice 22 (.slice ao n cap) none (some (.int .i64 k)) none).run Tryd.prog w = .ok (.slice (cutA ao cap 0) k cap) w := by
  rw [run_slice_h w 22 ao n cap sliceElem .i64 (k : Int) (by omega) (by omega), sizeElem]
  simp [sliced, cutA, Result.andThen]
theorem cut_back (ao : Option Addr) (n cap k : Nat) (h : k ≤ n) (w : World) : (Instr.slice 22 (.slice ao n cap) (some (.int .i64 k)) none none).run Tryd.prog w = .ok (.slice (cutA ao cap k) (n - k) (cap - k)) w := by
  rw [run_slice_l w 22 ao n cap sliceElem .i64 (k : Int) (by omega) (by omega), sizeElem]
  simp [sliced, cutA, Result.andThen]
theorem Ps.cells {w : World} {ad : Addr} {n : Nat} {l : List Pr} (h : Ps w (some ad) n l) : ∀ j u, (cellsP l)[j]? = some u → w.cell? (ad.add j) = some u := by
  intro j u hu
  have hlen := h.1
  have hj : j < l.length * 2 := by
    by_cases hj : j < l.length * 2
    · exact hj
    · rw [List.getElem?_eq_none (by rw [cellsP_length]; omega)] at hu; cases hu
  obtain ⟨b, off, e, h4⟩ := h.2 (by omega)
  cases e
  rw [Addr.add_lit]
  have hjd : j / 2 < l.length := by omega
  obtain ⟨g1, g2⟩ := cellsP_get hjd
  obtain ⟨k1, k2⟩ := h4 (j / 2) (by omega)
  rcases Nat.mod_two_eq_zero_or_one j with hm | hm
  · have e : j / 2 * 2 = j := by omega
    rw [e] at g1 k1
    rw [k1, ← hu, g1]
  · have e : j / 2 * 2 + 1 = j := by omega
    rw [Nat.add_assoc, e] at k2
    rw [e] at g2
    rw [k2, ← hu, g2]
end Go.Proofs.YtmhpmlfpflkgbabDoor
