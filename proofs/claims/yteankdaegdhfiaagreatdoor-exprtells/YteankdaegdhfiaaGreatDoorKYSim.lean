/- Texts that the others lean on. -/
import Derived.Test.YteankdaegdhfiaaGreatDoorKMO
import Derived.Test.YteankdaegdhfiaaGreatDoorKMX
namespace Go.Proofs.YteankdaegdhfiaaGreatDoor
open Go.RowKit
/-! ### Without places -/
/-! ### Two rows of signs that are read alike -/
/-- The same signs, at other places; then the one ends, and in the other a bracket is closed. -/
def Rl (Z l1 l2 : List Tk) : Prop := ∃ T1 T2 R1 R2, l1 = T1 ++ R1 ∧ l2 = T2 ++ R2 ∧ T1.map (Tk.put · 0) = T2.map (Tk.put · 0) ∧ (∀ x ∈ T1, x.k ≠ 0) ∧ (R1 = [] ∨ ∃ E, R1 = [E] ∧ E.k = 0) ∧ R2 = Z ∧ ∃ c R, R2 = c :: R ∧ c.k = 5 ∧ c.t = [41]
variable {Z : List Tk}
def Ot {α : Type} (Z : List Tk) (n : Nat) (R : α → α → Prop) (a b : Rs α) : Prop := ∀ e1 r1, a = .inr (e1, r1) → (r1.length ≤ n ∧ ∃ e2 r2, b = .inr (e2, r2) ∧ R e1 e2 ∧ Rl Z r1 r2) ∨ ∃ p, b = .inl (p, 72)
/-! ### The reader's parts, one by one -/
end Go.Proofs.YteankdaegdhfiaaGreatDoor
