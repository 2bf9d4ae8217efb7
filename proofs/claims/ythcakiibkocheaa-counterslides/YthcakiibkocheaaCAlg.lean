/- What a counter's small numbers come to, plainly. -/
import Derived.Test.YthcakiibkocheaaCIncV
namespace Go.Proofs.Ythcakiibkocheaa
open Go.RowKit

theorem cnt_small {a : Int} (h : 0 ≤ a) : cnt false a = some a := by
  unfold cnt
  rw [if_neg (by intro e; rcases e with e | e; cases e; omega)]
theorem norm_small {a : Int} (h0 : -1000000000000000 ≤ a) (h1 : a ≤ 1000000000000000) : norm a = some a := by
  unfold norm
  rw [if_pos (by omega)]
/-- What the values of these come to, begun anew wherever one is below the one ahead of it. -/
def gs (f : Nat → Int) : Nat → Int
  | 0 => 0
  | j + 1 => gs f j + (if f (j + 1) < f j then f (j + 1) else f (j + 1) - f j)
theorem gs_range (f : Nat → Int) (M : Int) : ∀ p : Nat, (∀ j, j ≤ p → 0 ≤ f j ∧ f j ≤ M) → 0 ≤ gs f p ∧ gs f p ≤ p * M
  | 0, _ => by
    show (0 : Int) ≤ 0 ∧ (0 : Int) ≤ ((0 : Nat) : Int) * M
    simp
  | p + 1, h => by
    obtain ⟨h0, h1⟩ := gs_range f M p (fun j hj => h j (by omega))
    have a := h p (by omega)
    have b := h (p + 1) (by omega)
    have e : ((p + 1 : Nat) : Int) * M = p * M + M := by rw [Int.natCast_add, Int.add_mul]; simp
    rw [e]
    unfold gs
    split <;> omega
theorem gs_mono (f : Nat → Int) : ∀ p : Nat, (∀ j, j < p → f j ≤ f (j + 1)) → gs f p = f p - f 0
  | 0, _ => by show (0 : Int) = _; omega
  | p + 1, h => by
    have ih := gs_mono f p (fun j hj => h j (by omega))
    have a := h p (by omega)
    unfold gs
    rw [if_neg (by omega), ih]
    omega
theorem gs_congr (f g : Nat → Int) : ∀ p : Nat, (∀ j, j ≤ p → f j = g j) → gs f p = gs g p
  | 0, _ => rfl
  | p + 1, h => by
    unfold gs
    rw [gs_congr f g p (fun j hj => h j (by omega)), h p (by omega), h (p + 1) (by omega)]
theorem inc_small {a b : Int} (ha : 0 ≤ a ∧ a ≤ 100000000000000) (hb : 0 ≤ b ∧ b ≤ 100000000000000) : incO (false, a) (false, b) = some (if b < a then b else b - a) := by
  unfold incO
  rw [cnt_small ha.1, cnt_small hb.1]
  by_cases h : b < a
  · rw [if_pos h]
    have hc : fCmp (some b) (some a) < 0 := by
      show (if b = a then (0 : Int) else if a < b then 1 else -1) < 0
      rw [if_neg (by omega), if_neg (by omega)]; decide
    rw [if_pos hc]
  · rw [if_neg h]
    have hc : ¬ fCmp (some b) (some a) < 0 := by
      show ¬ (if b = a then (0 : Int) else if a < b then 1 else -1) < 0
      by_cases e : b = a
      · rw [if_pos e]; decide
      · rw [if_neg e, if_pos (by omega)]; decide
    rw [if_neg hc]
    show norm (b + -a) = _
    rw [norm_small (by omega) (by omega)]
    rfl
theorem sum_dls (l : List Smp) (f : Nat → Int) : ∀ p : Nat, (∀ j, j ≤ p → (l.getD j s0).2 = (false, f j)) → (∀ j, j ≤ p → 0 ≤ f j ∧ f j ≤ 100000000000000) → sumL (cnts (dls l p)) = some (gs f p)
  | 0, _, _ => rfl
  | p + 1, h, hb => by
    have ih := sum_dls l f p (fun j hj => h j (by omega)) (fun j hj => hb j (by omega))
    have e : incO (l.getD p s0).2 (l.getD (p + 1) s0).2 = some (if f (p + 1) < f p then f (p + 1) else f (p + 1) - f p) := by
      rw [h p (by omega), h (p + 1) (by omega)]
      exact inc_small (hb p (by omega)) (hb (p + 1) (by omega))
    rw [dls_snoc]
    show sumL ((dls l p ++ [_]).map _) = _
    rw [List.map_append, sumL_append]
    have e1 : sumL ((dls l p).map fun x => cnt x.1 x.2) = some (gs f p) := ih
    rw [e1]
    have e2 : (incN (l.getD p s0).2 (l.getD (p + 1) s0).2) = (false, if f (p + 1) < f p then f (p + 1) else f (p + 1) - f p) := by
      unfold incN
      rw [e]
      rfl
    rw [e2]
    have a := hb p (by omega)
    have b := hb (p + 1) (by omega)
    have hpos : 0 ≤ (if f (p + 1) < f p then f (p + 1) else f (p + 1) - f p) := by split <;> omega
    show oadd (some (gs f p)) (oadd (cnt false (if f (p + 1) < f p then f (p + 1) else f (p + 1) - f p)) (some 0)) = some (gs f (p + 1))
    rw [cnt_small hpos]
    show some (gs f p + ((if f (p + 1) < f p then f (p + 1) else f (p + 1) - f p) + 0)) = some (gs f (p + 1))
    rw [Int.add_zero]
    rfl
/-- What samples of small numbers rose by. -/
theorem inc_gs (l : List Smp) (f : Nat → Int) (p : Nat) (hp : p + 1 = l.length) (hp1 : p ≤ 100) (h : ∀ j, j ≤ p → (l.getD j s0).2 = (false, f j)) (hb : ∀ j, j ≤ p → 0 ≤ f j ∧ f j ≤ 10000000000000) : incP l = some (gs f p) := by
  unfold incP
  rw [show l.length - 1 = p by omega]
  unfold fSum
  rw [sum_dls l f p h (fun j hj => by have := hb j hj; omega)]
  have hr := gs_range f 10000000000000 p hb
  exact norm_small (by omega) (by omega)
end Go.Proofs.Ythcakiibkocheaa
