/- CounterShifts, plainly. -/
import Derived.Test.YthcakiibkocheaaCAlg
import Derived.Test.YthcakiibkocheaaCIs
namespace Go.Proofs.Ythcakiibkocheaa
open Go.RowKit

/-- The samples that the law lays. -/
def smL (m c : Nat) (u : List Nat) (j : Nat) : List Smp := (List.range j).map fun i => (((i * m : Nat) : Int), false, ((psum u (i + 1) + c : Nat) : Int) * 1000000)
theorem smL_len (m c : Nat) (u : List Nat) (j : Nat) : (smL m c u j).length = j := by simp [smL]
theorem smL_snoc (m c : Nat) (u : List Nat) (j : Nat) : smL m c u (j + 1) = smL m c u j ++ [(((j * m : Nat) : Int), false, ((psum u (j + 1) + c : Nat) : Int) * 1000000)] := by simp [smL, List.range_succ]
theorem smL_get (m c : Nat) (u : List Nat) {j i : Nat} (h : i < j) : (smL m c u j).getD i s0 = (((i * m : Nat) : Int), false, ((psum u (i + 1) + c : Nat) : Int) * 1000000) := by
  simp [smL, List.getD, h]
theorem smL_r64 (m c : Nat) {u : List Nat} (hu : ∀ x ∈ u, x ≤ 255) (hc : c ≤ 65535) {j : Nat} (hj : j ≤ 60) : ∀ s ∈ smL m c u j, R64 s.2.2 := by
  intro s hs
  obtain ⟨i, hi, rfl⟩ := List.mem_map.1 hs
  have hi := List.mem_range.1 hi
  have := psum_le hu (i + 1)
  have : (i + 1) * 255 ≤ 60 * 255 := Nat.mul_le_mul_right _ (by omega)
  show -9223372036854775808 ≤ ((psum u (i + 1) + c : Nat) : Int) * 1000000 ∧ ((psum u (i + 1) + c : Nat) : Int) * 1000000 ≤ 9223372036854775807
  omega
theorem smL_inc (m c : Nat) {u : List Nat} (hu : ∀ x ∈ u, x ≤ 255) (hc : c ≤ 65535) {p : Nat} (hp : p + 1 ≤ 60) : incP (smL m c u (p + 1)) = some (((psum u (p + 1) : Nat) : Int) * 1000000 - ((psum u 1 : Nat) : Int) * 1000000) := by
  have hb : ∀ j, j ≤ p → 0 ≤ ((psum u (j + 1) + c : Nat) : Int) * 1000000 ∧ ((psum u (j + 1) + c : Nat) : Int) * 1000000 ≤ 10000000000000 := fun j hj => by
    have := psum_le hu (j + 1)
    have : (j + 1) * 255 ≤ 60 * 255 := Nat.mul_le_mul_right _ (by omega)
    omega
  rw [inc_gs _ (fun i => ((psum u (i + 1) + c : Nat) : Int) * 1000000) p (by rw [smL_len]) (by omega) (fun j hj => by rw [smL_get m c u (by omega)]) hb, gs_mono _ _ (fun j hj => by
    have := psum_mono u (j + 1)
    show ((psum u (j + 1) + c : Nat) : Int) * 1000000 ≤ ((psum u (j + 1 + 1) + c : Nat) : Int) * 1000000
    omega)]
  have e : ((psum u (p + 1) + c : Nat) : Int) * 1000000 - ((psum u (0 + 1) + c : Nat) : Int) * 1000000 = ((psum u (p + 1) : Nat) : Int) * 1000000 - ((psum u 1 : Nat) : Int) * 1000000 := by
    rw [Nat.zero_add]
    omega
  exact congrArg some e
theorem wNat (a : Nat) (h : a ≤ 1000000000) : wrap64 (a : Int) = (a : Int) := wf64 (by omega) (by omega)
theorem wAdd (a b c : Nat) (h : c = a + b) (hb : c ≤ 1000000000) : wrap64 ((a : Int) + b) = (c : Int) := (wf64 (by omega) (by omega)).trans (by omega)
theorem wMul3 (a : Nat) (h : a ≤ 1000) : wrap64 ((a : Int) * 3) = ((a * 3 : Nat) : Int) := (wf64 (by omega) (by omega)).trans (by omega)
theorem fOf_nat (a : Nat) (h : a ≤ 100000) : fOf (a : Int) = some ((a : Int) * 1000000) := fOf_small _ (by omega) (by omega)
theorem r64_nat (a : Nat) (h : a ≤ 100000) : R64 (a : Int) := by unfold R64; omega
end Go.Proofs.Ythcakiibkocheaa
