/- Slices of small whole numbers that are handed in. -/
import Derived.Test.YthcakiibkocheaaCRow
namespace Go.Proofs.Ythcakiibkocheaa
open Go.RowKit

/-- A slice that reads as these. -/
def Ik (w : World) (K : IntKind) (ao : Option Addr) (n : Nat) (u : List Nat) : Prop :=
  u.length = n ∧ (0 < n → ∃ b off, ao = some ⟨b, off, none⟩ ∧ ∀ j, j < n → w.cell? ⟨b, off + j, none⟩ = some (.int K ((u.getD j 0 : Nat) : Int)))
theorem Ik.read {w : World} {K : IntKind} {ao : Option Addr} {n : Nat} {u : List Nat} (h : Ik w K ao n u) (hp : 0 < n) : ∃ b off, ao = some ⟨b, off, none⟩ ∧ ∀ W, Below w.heap.size w W → ∀ j, j < n → W.cell? ⟨b, off + j, none⟩ = some (.int K ((u.getD j 0 : Nat) : Int)) := by
  obtain ⟨b, off, e, hc⟩ := h.2 hp
  exact ⟨b, off, e, fun W hW j hj => (hW.cell (World.block_lt_of_cell? _ _ (hc j hj))).trans (hc j hj)⟩
theorem getD_le {u : List Nat} {M : Nat} (h : ∀ x ∈ u, x ≤ M) (j : Nat) : u.getD j 0 ≤ M := by
  rw [List.getD_eq_getElem?_getD]
  cases e : u[j]? with
  | none => exact Nat.zero_le _
  | some x => exact h x (List.mem_of_getElem? e)
/-- What the first of them come to. -/
def psum (u : List Nat) : Nat → Nat
  | 0 => 0
  | j + 1 => psum u j + u.getD j 0
theorem psum_le {u : List Nat} {M : Nat} (h : ∀ x ∈ u, x ≤ M) : ∀ j, psum u j ≤ j * M
  | 0 => Nat.zero_le _
  | j + 1 => by
    have a := psum_le h j
    have b := getD_le h j
    unfold psum
    have e : (j + 1) * M = j * M + M := by rw [Nat.add_mul, Nat.one_mul]
    omega
theorem psum_mono (u : List Nat) (j : Nat) : psum u j ≤ psum u (j + 1) := Nat.le_add_right _ _
end Go.Proofs.Ythcakiibkocheaa
