/- Windows of rising, of falling values: plainly. -/
import Derived.Test.YtpemknkkignmcaaEKnown
namespace Go.Proofs.Ytpemknkkignmcaa
open Go.RowKit

/-- Samples at m ticks from a on, one at each, v's multiples of a million. -/
def sr (v : Nat → Int) (a : Nat) : Nat → List Smp
  | 0 => []
  | m + 1 => ((a : Int), false, v a * 1000000) :: sr v (a + 1) m
theorem sr_snoc (v : Nat → Int) : ∀ (m a : Nat), sr v a m ++ [(((a + m : Nat) : Int), false, v (a + m) * 1000000)] = sr v a (m + 1)
  | 0, a => rfl
  | m + 1, a => by
    have := sr_snoc v m (a + 1)
    rw [show a + 1 + m = a + (m + 1) by omega] at this
    show ((a : Int), false, v a * 1000000) :: (sr v (a + 1) m ++ _) = _
    rw [this]
    rfl
theorem sr_len (v : Nat → Int) : ∀ (m a : Nat), (sr v a m).length = m
  | 0, _ => rfl
  | m + 1, a => by rw [sr, List.length_cons, sr_len v m (a + 1)]
theorem sr_lst (v : Nat → Int) (m a : Nat) : lst (sr v a (m + 1)) = (((a + m : Nat) : Int), false, v (a + m) * 1000000) := by rw [← sr_snoc, lst_snoc]
theorem sr_fg_none (v : Nat → Int) (t : Int) : ∀ (m a : Nat), t < a → fg t (sr v a m) = sr v a m
  | 0, _, _ => rfl
  | m + 1, a, h => by
    show (if (a : Int) ≤ t then _ else _) = _
    rw [if_neg (by omega)]
    rfl
theorem sr_fg_one (v : Nat → Int) (a m : Nat) (t : Int) (h : t = a) : fg t (sr v a (m + 1)) = sr v (a + 1) m := by
  show (if (a : Int) ≤ t then fg t (sr v (a + 1) m) else _) = _
  rw [if_pos (by omega), sr_fg_none _ _ _ _ (by omega)]
theorem sr_mem (v : Nat → Int) : ∀ (m a : Nat) (x : Smp), x ∈ sr v a m → ∃ j, a ≤ j ∧ j < a + m ∧ x = ((j : Int), false, v j * 1000000)
  | 0, _, _, h => by cases h
  | m + 1, a, x, h => by
    rcases List.mem_cons.1 h with e | e
    · exact ⟨a, by omega, by omega, e⟩
    · obtain ⟨j, h1, h2, h3⟩ := sr_mem v m (a + 1) x e
      exact ⟨j, by omega, by omega, h3⟩
/-- What a window of k ticks holds behind i rounds. -/
def bl (v : Nat → Int) (k i : Nat) : List Smp := sr v (i - min i k) (min i k)
theorem bl_adv (v : Nat → Int) (k i : Nat) (hk : 1 ≤ k) : fg ((i : Int) - k) (bl v k i) = sr v (i - min i (k - 1)) (min i (k - 1)) := by
  unfold bl
  by_cases h : i < k
  · rw [Nat.min_eq_left (by omega), Nat.min_eq_left (by omega), sr_fg_none _ _ _ _ (by omega)]
  · obtain ⟨j, rfl⟩ : ∃ j, k = j + 1 := ⟨k - 1, by omega⟩
    rw [Nat.min_eq_right (by omega), Nat.min_eq_right (by omega), sr_fg_one _ _ _ _ (by omega), show i - (j + 1) + 1 = i - (j + 1 - 1) by omega]
    rfl
theorem bl_adE (v : Nat → Int) (k i : Nat) (hk : 1 ≤ k) : adE (sr v (i - min i (k - 1)) (min i (k - 1))) k i i = 0 := by
  unfold adE
  rw [if_neg (by omega), if_neg]
  rintro ⟨h1, h2⟩
  cases hm : min i (k - 1) with
  | zero => rw [hm] at h1; exact h1 rfl
  | succ m =>
    rw [hm, sr_lst] at h2
    have h3 : (i : Int) ≤ ((i - (m + 1) + m : Nat) : Int) := h2
    omega
theorem nrm_ex (t n : Int) (h : -9223372036854775807 ≤ n) : nrm (t, false, n) = (t, false, n) := by
  unfold nrm
  show (t, ov (cnt false n), nn (cnt false n)) = _
  unfold cnt
  rw [if_neg (by intro e; rcases e with e | e; cases e; omega)]
  rfl
theorem bl_adL (v : Nat → Int) (k i : Nat) (hk : 1 ≤ k) (hv : -1000000 ≤ v i) : adL (sr v (i - min i (k - 1)) (min i (k - 1))) k i (i, false, v i * 1000000) = bl v k (i + 1) := by
  unfold adL
  rw [if_pos (bl_adE v k i hk), nrm_ex _ _ (by omega)]
  have e : ((i : Int), false, v i * 1000000) = (((i - min i (k - 1) + min i (k - 1) : Nat) : Int), false, v (i - min i (k - 1) + min i (k - 1)) * 1000000) := by
    rw [show i - min i (k - 1) + min i (k - 1) = i by omega]
  rw [e, sr_snoc]
  unfold bl
  rw [show min i (k - 1) + 1 = min (i + 1) k by omega, show i - min i (k - 1) = i + 1 - min (i + 1) k by omega]
theorem onw_up {a b : Int} (h : a ≤ b) (h1 : b ≤ 1000000) : onw a b = b := by unfold onw; omega
theorem w64 {x : Int} (h0 : -9223372036854775808 ≤ x) (h1 : x ≤ 9223372036854775807) : wrap64 x = x := by unfold wrap64; omega
theorem bnum (i k c a : Nat) (hi : i ≤ 399) (hk : 1 ≤ k ∧ k ≤ 100) (hc : min (i + 1) k = c) (ha : i + 1 - c = a) :
    wrap64 ((i : Int) + 1) = (i : Int) + 1 ∧ min ((i : Int) + 1) k = (c : Int) ∧ wrap64 ((i : Int) - k) = (i : Int) - k ∧ wrap64 ((i : Int) - k + 1) = (i : Int) - k + 1 ∧ max (0 : Int) ((i : Int) - k + 1) = (a : Int) :=
  ⟨w64 (by omega) (by omega), by omega, w64 (by omega) (by omega), w64 (by omega) (by omega), by omega⟩

theorem thn_up {q : Smp → Int} {l : List Smp} {x : Smp} (h : ∀ y ∈ l, q y ≤ q x) : thn q (l ++ [x]) = [x] := by
  rw [thn_snoc, List.filter_eq_nil_iff.2 (fun y hy => by have := h y ((thn_sub q l).subset hy); simp; omega)]
  rfl
theorem thn_dn {q : Smp → Int} : ∀ {l : List Smp}, l.Pairwise (fun a b => q b < q a) → thn q l = l
  | [], _ => rfl
  | s :: r, h => by
    rw [List.pairwise_cons] at h
    rw [thn_cons, thn_dn h.2, if_neg]
    intro e
    obtain ⟨y, hy, hq⟩ := List.any_eq_true.1 e
    have := h.1 y hy
    simp at hq
    omega
theorem kg_ex (g : Bool) (t n : Int) (h : -9223372036854775807 ≤ n) : kg g (t, false, n) = if g = true then n else -n := by
  unfold kg
  have e : cnt false n = some n := by unfold cnt; rw [if_neg (by intro e; rcases e with e | e; cases e; omega)]
  show (if g = true then ky (cnt false n) else - ky (cnt false n)) = _
  rw [e]
  rfl
/-- The value at tick j. -/
def vv (fl : Bool) (j : Nat) : Int := if fl = true then -(j : Int) else j
theorem kg_vv (g fl : Bool) (t : Int) (j : Nat) (h : j ≤ 1000) : kg g (t, false, vv fl j * 1000000) = if (g == fl) = true then -((j : Int) * 1000000) else (j : Int) * 1000000 := by
  rw [kg_ex _ _ _ (by unfold vv; split <;> omega)]
  unfold vv
  cases g <;> cases fl <;> simp <;> omega
theorem sl_up (fl : Bool) (a m : Nat) (h : a + m ≤ 999) : thn (kg (!fl)) (sr (vv fl) a (m + 1)) = [(((a + m : Nat) : Int), false, vv fl (a + m) * 1000000)] := by
  rw [← sr_snoc]
  refine thn_up fun y hy => ?_
  obtain ⟨j, h1, h2, rfl⟩ := sr_mem _ _ _ _ hy
  rw [kg_vv _ _ _ _ (by omega), kg_vv _ _ _ _ (by omega)]
  have e : ((!fl) == fl) = false := by cases fl <;> rfl
  rw [e, if_neg (by decide), if_neg (by decide)]
  omega
theorem sr_pair (fl : Bool) : ∀ (m a : Nat), a + m ≤ 999 → (sr (vv fl) a m).Pairwise (fun x y => kg fl y < kg fl x)
  | 0, _, _ => List.Pairwise.nil
  | m + 1, a, h => by
    refine List.pairwise_cons.2 ⟨fun y hy => ?_, sr_pair fl m (a + 1) (by omega)⟩
    obtain ⟨j, h1, h2, rfl⟩ := sr_mem _ _ _ _ hy
    rw [kg_vv _ _ _ _ (by omega), kg_vv _ _ _ _ (by omega)]
    have e : (fl == fl) = true := by cases fl <;> rfl
    rw [e, if_pos rfl, if_pos rfl]
    omega
theorem sl_dn (fl : Bool) (a m : Nat) (h : a + m ≤ 999) : thn (kg fl) (sr (vv fl) a m) = sr (vv fl) a m := thn_dn (sr_pair fl m a h)
/-- What is told of each window. -/
theorem sl_all (fl : Bool) (k i c a : Nat) (hi : i ≤ 399) (hk : 1 ≤ k ∧ k ≤ 100) (hc : min (i + 1) k = c) (ha : i + 1 - c = a) :
    bst (!fl) (bl (vv fl) k (i + 1)) = ((i : Int), false, vv fl i * 1000000) ∧ (thn (kg (!fl)) (bl (vv fl) k (i + 1))).length = 1 ∧
    bst fl (bl (vv fl) k (i + 1)) = ((a : Int), false, vv fl a * 1000000) ∧ (thn (kg fl) (bl (vv fl) k (i + 1))).length = c ∧ (bl (vv fl) k (i + 1)).isEmpty = false := by
  have e : bl (vv fl) k (i + 1) = sr (vv fl) a c := by unfold bl; rw [hc, ha]
  obtain ⟨m, rfl⟩ : ∃ m, c = m + 1 := ⟨c - 1, by omega⟩
  rw [e]
  have u := sl_up fl a m (by omega)
  have d := sl_dn fl a (m + 1) (by omega)
  refine ⟨?_, ?_, ?_, ?_, rfl⟩
  · unfold bst
    rw [u, show a + m = i by omega]
    rfl
  · rw [u]; rfl
  · unfold bst
    rw [d]
    rfl
  · rw [d, sr_len]
theorem neg_of (n m : Int) (h : -n = m) (h0 : -9223372036854775807 ≤ n) (h1 : n ≤ 9223372036854775807) (w : World) : Calls Try.prog 17 #[.agg #[.bool false, .int .i64 n]] w fun e w' => e = .returned (.agg #[.bool false, .int .i64 m]) ∧ Below w.heap.size w w' := by
  have := neg_any false n w (by omega) h1
  have e : cnt false n = some n := by unfold cnt; rw [if_neg (by intro e; rcases e with e | e; cases e; omega)]
  rw [e] at this
  subst h
  exact this
theorem of_vv (fl : Bool) (j : Nat) (h : j ≤ 1000) (w : World) : Calls Try.prog 16 #[.int .i64 (vv fl j)] w fun e w' => e = .returned (.agg #[.bool false, .int .i64 (vv fl j * 1000000)]) ∧ Below w.heap.size w w' :=
  kn_of _ _ (by show norm _ = _; unfold norm; rw [if_pos (by unfold vv; split <;> omega)]) (by unfold vv R64; split <;> omega) w
theorem run_neq (ev : Operand → Value) (o : Oper) (x y : Operand) (b : Bool) (n : Int) (ho : o.op = Op.binOp BinOp.neq 28 x y 28) (h1 : ev x = .agg #[.bool b, .int .i64 n]) (h2 : ev y = .agg #[.bool b, .int .i64 n]) (w : World) :
    (execOp ev o).run Try.prog w = .ok (.value (.bool false)) w := by
  obtain ⟨d, op, t, p, a, g⟩ := o
  subst ho
  have hg : ∀ w, (eqGuard BinOp.neq 28 x y (.agg #[.bool b, .int .i64 n]) (.agg #[.bool b, .int .i64 n])).run Try.prog w = .ok () w := fun w => by go_simp
  have hn : ∀ w, (binOp .neq 28 (.agg #[.bool b, .int .i64 n]) (.agg #[.bool b, .int .i64 n])).run Try.prog w = .ok (.bool false) w := fun w => by go_simp
  unfold execOp
  go_simp
end Go.Proofs.Ytpemknkkignmcaa
