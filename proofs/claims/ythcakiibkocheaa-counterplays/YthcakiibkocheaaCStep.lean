/- Steps: a slice of four-cell elements that is handed in. -/
import Derived.Test.YthcakiibkocheaaCMl
namespace Go.Proofs.Ythcakiibkocheaa
open Go.RowKit

/-- A step: whether time goes on, a time, a number's two cells. -/
abbrev Stp := Bool × Int × Bool × Int
def st0 : Stp := (false, 0, false, 0)
def Ss (w : World) (ao : Option Addr) (n : Nat) (l : List Stp) : Prop :=
  l.length = n ∧ (0 < n → ∃ b off, ao = some ⟨b, off, none⟩ ∧ ∀ j, j < n → w.cell? ⟨b, off + j * 4, none⟩ = some (.bool (l.getD j st0).1) ∧ w.cell? ⟨b, off + j * 4 + 1, none⟩ = some (.int .i64 (l.getD j st0).2.1) ∧ w.cell? ⟨b, off + j * 4 + 2, none⟩ = some (.bool (l.getD j st0).2.2.1) ∧ w.cell? ⟨b, off + j * 4 + 3, none⟩ = some (.int .i64 (l.getD j st0).2.2.2))
def FitS (l : List Stp) : Prop := ∀ s ∈ l, R64 s.2.1 ∧ R64 s.2.2.2
theorem getD_memT {l : List Stp} {j : Nat} (h : j < l.length) : l.getD j st0 ∈ l := by
  rw [List.getD_eq_getElem?_getD, List.getElem?_eq_getElem h]
  exact List.getElem_mem h
end Go.Proofs.Ythcakiibkocheaa
