/- Windows of a counter that rises by as much each tick, plainly. -/
import Derived.Test.YthcakiibkocheaaCRiP
import Derived.Test.YthcakiibkocheaaCRes
namespace Go.Proofs.Ythcakiibkocheaa
open Go.RowKit

/-- Samples at m ticks from a on, one at each, v's multiples of a million. -/
def sr (v : Nat → Int) (a : Nat) : Nat → List Smp
  | 0 => []
  | m + 1 => ((a : Int), false, v a * 1000000) :: sr v (a + 1) m
theorem sr_snoc (v : Nat → Int) : ∀ (m a : Nat), sr v a m ++ [(((a + m : Nat) : Int), false, v (a + m) * 1000000)] = sr v a (m + 1)
  | 0, a => rfl
  | m + 1, a => by
    have := sr_snoc v m (a + 1)
    rw [show a + 1 + m = a + (m + 1) by omega] at this
    show ((a : Int), false, v a * 1000000) :: (sr v (a + 1) m ++ _) = _
    rw [this]
    rfl
theorem sr_len (v : Nat → Int) : ∀ (m a : Nat), (sr v a m).length = m
  | 0, _ => rfl
  | m + 1, a => by rw [sr, List.length_cons, sr_len v m (a + 1)]
theorem sr_lst (v : Nat → Int) (m a : Nat) : lst (sr v a (m + 1)) = (((a + m : Nat) : Int), false, v (a + m) * 1000000) := by rw [← sr_snoc, lst_snoc]
theorem sr_fg_none (v : Nat → Int) (t : Int) : ∀ (m a : Nat), t < a → fg t (sr v a m) = sr v a m
  | 0, _, _ => rfl
  | m + 1, a, h => by
    show (if (a : Int) ≤ t then _ else _) = _
    rw [if_neg (by omega)]
    rfl
theorem sr_fg_one (v : Nat → Int) (a m : Nat) (t : Int) (h : t = a) : fg t (sr v a (m + 1)) = sr v (a + 1) m := by
  show (if (a : Int) ≤ t then fg t (sr v (a + 1) m) else _) = _
  rw [if_pos (by omega), sr_fg_none _ _ _ _ (by omega)]
theorem sr_mem (v : Nat → Int) : ∀ (m a : Nat) (x : Smp), x ∈ sr v a m → ∃ j, a ≤ j ∧ j < a + m ∧ x = ((j : Int), false, v j * 1000000)
  | 0, _, _, h => by cases h
  | m + 1, a, x, h => by
    rcases List.mem_cons.1 h with e | e
    · exact ⟨a, by omega, by omega, e⟩
    · obtain ⟨j, h1, h2, h3⟩ := sr_mem v m (a + 1) x e
      exact ⟨j, by omega, by omega, h3⟩
/-- What a window of k ticks holds behind i rounds. -/
def bl (v : Nat → Int) (k i : Nat) : List Smp := sr v (i - min i k) (min i k)
theorem bl_adv (v : Nat → Int) (k i : Nat) (hk : 1 ≤ k) : fg ((i : Int) - k) (bl v k i) = sr v (i - min i (k - 1)) (min i (k - 1)) := by
  unfold bl
  by_cases h : i < k
  · rw [Nat.min_eq_left (by omega), Nat.min_eq_left (by omega), sr_fg_none _ _ _ _ (by omega)]
  · obtain ⟨j, rfl⟩ : ∃ j, k = j + 1 := ⟨k - 1, by omega⟩
    rw [Nat.min_eq_right (by omega), Nat.min_eq_right (by omega), sr_fg_one _ _ _ _ (by omega), show i - (j + 1) + 1 = i - (j + 1 - 1) by omega]
    rfl
theorem bl_adE (v : Nat → Int) (k i : Nat) (hk : 1 ≤ k) : adE (sr v (i - min i (k - 1)) (min i (k - 1))) k i i = 0 := by
  unfold adE
  rw [if_neg (by omega), if_neg]
  rintro ⟨h1, h2⟩
  cases hm : min i (k - 1) with
  | zero => rw [hm] at h1; exact h1 rfl
  | succ m =>
    rw [hm, sr_lst] at h2
    have h3 : (i : Int) ≤ ((i - (m + 1) + m : Nat) : Int) := h2
    omega
theorem bl_adL (v : Nat → Int) (k i : Nat) (hk : 1 ≤ k) : adL (sr v (i - min i (k - 1)) (min i (k - 1))) k i (i, false, v i * 1000000) = bl v k (i + 1) := by
  unfold adL
  rw [if_pos (bl_adE v k i hk)]
  have e : ((i : Int), false, v i * 1000000) = (((i - min i (k - 1) + min i (k - 1) : Nat) : Int), false, v (i - min i (k - 1) + min i (k - 1)) * 1000000) := by
    rw [show i - min i (k - 1) + min i (k - 1) = i by omega]
  rw [e, sr_snoc]
  unfold bl
  rw [show min i (k - 1) + 1 = min (i + 1) k by omega, show i - min i (k - 1) = i + 1 - min (i + 1) k by omega]
theorem onw_up {a b : Int} (h : a ≤ b) (h1 : b ≤ 1000000) : onw a b = b := by unfold onw; omega
theorem sr_get (v : Nat → Int) : ∀ (m a j : Nat), j < m → (sr v a m).getD j s0 = (((a + j : Nat) : Int), false, v (a + j) * 1000000)
  | 0, _, _, h => absurd h (Nat.not_lt_zero _)
  | m + 1, a, 0, _ => rfl
  | m + 1, a, j + 1, h => by
    show (sr v (a + 1) m).getD j s0 = _
    rw [sr_get v m (a + 1) j (by omega), show a + 1 + j = a + (j + 1) by omega]
/-- A rising counter never begins anew. -/
theorem rsN_up (l : List Smp) (f : Nat → Int) : ∀ p : Nat, (∀ j, j ≤ p → (l.getD j s0).2 = (false, f j)) → (∀ j, j ≤ p → 0 ≤ f j) → (∀ j, j < p → f j ≤ f (j + 1)) → rsN l p = 0
  | 0, _, _, _ => rfl
  | p + 1, h, h0, hm => by
    have ih := rsN_up l f p (fun j hj => h j (by omega)) (fun j hj => h0 j (by omega)) (fun j hj => hm j (by omega))
    have e : rsb l p = false := by
      unfold rsb
      rw [h p (by omega), h (p + 1) (by omega)]
      show decide (fCmp (cnt false (f (p + 1))) (cnt false (f p)) < 0) = false
      rw [cnt_small (h0 p (by omega)), cnt_small (h0 (p + 1) (by omega))]
      have := hm p (by omega)
      refine decide_eq_false ?_
      show ¬ (if f (p + 1) = f p then (0 : Int) else if f p < f (p + 1) then 1 else -1) < 0
      by_cases e : f (p + 1) = f p
      · rw [if_pos e]; decide
      · rw [if_neg e, if_pos (by omega)]; decide
    show rsN l p + (if rsb l p = true then 1 else 0) = 0
    rw [ih, e]
    rfl
/-- The value at tick j, times a million. -/
def vb (B : Nat) (j : Nat) : Int := ((j * B : Nat) : Int)
/-- What is told of each window. -/
theorem sl_all (B k i m y : Nat) (hB : B ≤ 255) (hi : i ≤ 255) (hk : 2 ≤ k ∧ k ≤ 81) (hm : min i (k - 1) = m) (hy : m * B = y) :
    (bl (vb B) k (i + 1)).length = m + 1 ∧ incP (bl (vb B) k (i + 1)) = some ((y : Int) * 1000000) ∧ rsP (bl (vb B) k (i + 1)) = 0 := by
  obtain ⟨a, ha⟩ : ∃ a, i - m = a := ⟨_, rfl⟩
  have e : bl (vb B) k (i + 1) = sr (vb B) a (m + 1) := by unfold bl; rw [show min (i + 1) k = m + 1 by omega, show i + 1 - (m + 1) = a by omega]
  have hl := sr_len (vb B) (m + 1) a
  have hg : ∀ j, j ≤ m → ((sr (vb B) a (m + 1)).getD j s0).2 = (false, vb B (a + j) * 1000000) := fun j hj => by rw [sr_get _ _ _ _ (by omega)]
  have hbd : ∀ j, j ≤ m → 0 ≤ vb B (a + j) * 1000000 ∧ vb B (a + j) * 1000000 ≤ 10000000000000 := fun j hj => by
    have h1 : (a + j) * B ≤ 255 * 255 := Nat.mul_le_mul (by omega) hB
    unfold vb
    omega
  have hmo : ∀ j, j < m → vb B (a + j) * 1000000 ≤ vb B (a + (j + 1)) * 1000000 := fun j hj => by
    have h1 : (a + j) * B ≤ (a + (j + 1)) * B := Nat.mul_le_mul_right _ (by omega)
    unfold vb
    omega
  rw [e]
  refine ⟨hl, ?_, ?_⟩
  · rw [inc_gs _ (fun j => vb B (a + j) * 1000000) m (by rw [hl]) (by omega) hg hbd, gs_mono _ _ hmo]
    have e2 : (a + m) * B = a * B + y := by rw [Nat.add_mul, hy]
    have e3 : vb B (a + m) * 1000000 - vb B (a + 0) * 1000000 = (y : Int) * 1000000 := by
      unfold vb
      rw [e2, Nat.add_zero]
      omega
    exact congrArg some e3
  · unfold rsP
    rw [hl]
    exact rsN_up _ (fun j => vb B (a + j) * 1000000) m hg (fun j hj => (hbd j hj).1) hmo
theorem run_neq (ev : Operand → Value) (o : Oper) (x y : Operand) (b : Bool) (n : Int) (ho : o.op = Op.binOp BinOp.neq 28 x y 28) (h1 : ev x = .agg #[.bool b, .int .i64 n]) (h2 : ev y = .agg #[.bool b, .int .i64 n]) (w : World) :
    (execOp ev o).run Try.prog w = .ok (.value (.bool false)) w := by
  obtain ⟨d, op, t, p, a, g⟩ := o
  subst ho
  have hg : ∀ w, (eqGuard BinOp.neq 28 x y (.agg #[.bool b, .int .i64 n]) (.agg #[.bool b, .int .i64 n])).run Try.prog w = .ok () w := fun w => by go_simp
  have hn : ∀ w, (binOp .neq 28 (.agg #[.bool b, .int .i64 n]) (.agg #[.bool b, .int .i64 n])).run Try.prog w = .ok (.bool false) w := fun w => by go_simp
  unfold execOp
  go_simp
end Go.Proofs.Ythcakiibkocheaa
