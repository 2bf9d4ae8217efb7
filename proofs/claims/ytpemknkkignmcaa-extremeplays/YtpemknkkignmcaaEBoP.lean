/- Windows of whatever values, one at each tick: plainly. -/
import Derived.Test.YtpemknkkignmcaaESlP
namespace Go.Proofs.Ytpemknkkignmcaa
open Go.RowKit

/-- Samples at m ticks from a on, one at each, f's values. -/
def sg (f : Nat → Bool × Int) (a : Nat) : Nat → List Smp
  | 0 => []
  | m + 1 => ((a : Int), f a) :: sg f (a + 1) m
theorem sg_snoc (f : Nat → Bool × Int) : ∀ (m a : Nat), sg f a m ++ [(((a + m : Nat) : Int), f (a + m))] = sg f a (m + 1)
  | 0, a => rfl
  | m + 1, a => by
    have := sg_snoc f m (a + 1)
    rw [show a + 1 + m = a + (m + 1) by omega] at this
    show ((a : Int), f a) :: (sg f (a + 1) m ++ _) = _
    rw [this]
    rfl
theorem sg_lst (f : Nat → Bool × Int) (m a : Nat) : lst (sg f a (m + 1)) = (((a + m : Nat) : Int), f (a + m)) := by rw [← sg_snoc, lst_snoc]
theorem sg_fg_none (f : Nat → Bool × Int) (t : Int) : ∀ (m a : Nat), t < a → fg t (sg f a m) = sg f a m
  | 0, _, _ => rfl
  | m + 1, a, h => by
    show (if (a : Int) ≤ t then _ else _) = _
    rw [if_neg (by omega)]
    rfl
theorem sg_fg_one (f : Nat → Bool × Int) (a m : Nat) (t : Int) (h : t = a) : fg t (sg f a (m + 1)) = sg f (a + 1) m := by
  show (if (a : Int) ≤ t then fg t (sg f (a + 1) m) else _) = _
  rw [if_pos (by omega), sg_fg_none _ _ _ _ (by omega)]
theorem sg_mem (f : Nat → Bool × Int) : ∀ (m a : Nat) (x : Smp), x ∈ sg f a m → ∃ j, a ≤ j ∧ j < a + m ∧ x = ((j : Int), f j)
  | 0, _, _, h => by cases h
  | m + 1, a, x, h => by
    rcases List.mem_cons.1 h with e | e
    · exact ⟨a, by omega, by omega, e⟩
    · obtain ⟨j, h1, h2, h3⟩ := sg_mem f m (a + 1) x e
      exact ⟨j, by omega, by omega, h3⟩
theorem sg_has (f : Nat → Bool × Int) : ∀ (m a j : Nat), a ≤ j → j < a + m → ((j : Int), f j) ∈ sg f a m
  | 0, _, _, h, h' => by omega
  | m + 1, a, j, h, h' => by
    by_cases e : j = a
    · subst e; exact List.mem_cons_self
    · exact List.mem_cons_of_mem _ (sg_has f m (a + 1) j (by omega) (by omega))
def bg (f : Nat → Bool × Int) (k i : Nat) : List Smp := sg f (i - min i k) (min i k)
theorem bg_adv (f : Nat → Bool × Int) (k i : Nat) (hk : 1 ≤ k) : fg ((i : Int) - k) (bg f k i) = sg f (i - min i (k - 1)) (min i (k - 1)) := by
  unfold bg
  by_cases h : i < k
  · rw [Nat.min_eq_left (by omega), Nat.min_eq_left (by omega), sg_fg_none _ _ _ _ (by omega)]
  · obtain ⟨j, rfl⟩ : ∃ j, k = j + 1 := ⟨k - 1, by omega⟩
    rw [Nat.min_eq_right (by omega), Nat.min_eq_right (by omega), sg_fg_one _ _ _ _ (by omega), show i - (j + 1) + 1 = i - (j + 1 - 1) by omega]
    rfl
theorem bg_adE (f : Nat → Bool × Int) (k i : Nat) (hk : 1 ≤ k) : adE (sg f (i - min i (k - 1)) (min i (k - 1))) k i i = 0 := by
  unfold adE
  rw [if_neg (by omega), if_neg]
  rintro ⟨h1, h2⟩
  cases hm : min i (k - 1) with
  | zero => rw [hm] at h1; exact h1 rfl
  | succ m =>
    rw [hm, sg_lst] at h2
    have h3 : (i : Int) ≤ ((i - (m + 1) + m : Nat) : Int) := h2
    omega
theorem bg_adL (f : Nat → Bool × Int) (k i : Nat) (hk : 1 ≤ k) (hv : nrm ((i : Int), f i) = ((i : Int), f i)) : adL (sg f (i - min i (k - 1)) (min i (k - 1))) k i ((i : Int), f i) = bg f k (i + 1) := by
  unfold adL
  rw [if_pos (bg_adE f k i hk), hv]
  have e : ((i : Int), f i) = (((i - min i (k - 1) + min i (k - 1) : Nat) : Int), f (i - min i (k - 1) + min i (k - 1))) := by
    rw [show i - min i (k - 1) + min i (k - 1) = i by omega]
  rw [e, sg_snoc]
  unfold bg
  rw [show min i (k - 1) + 1 = min (i + 1) k by omega, show i - min i (k - 1) = i + 1 - min (i + 1) k by omega]
theorem bg_is (f : Nat → Bool × Int) {k i c a : Nat} (hc : min (i + 1) k = c) (ha : i + 1 - c = a) : bg f k (i + 1) = sg f a c := by unfold bg; rw [hc, ha]

/-- A number's pair. -/
def pr (x : Option Int) : Bool × Int := (ov x, nn x)
theorem pr_cnt {x : Option Int} (h : V x) : cnt (pr x).1 (pr x).2 = x := cnt_val h
theorem nrm_pr (t : Int) {x : Option Int} (h : V x) : nrm (t, pr x) = (t, pr x) := by
  unfold nrm
  show (t, ov (cnt (pr x).1 (pr x).2), nn (cnt (pr x).1 (pr x).2)) = _
  rw [pr_cnt h]
  rfl
theorem pr_r64 {x : Option Int} (h : V x) : R64 (pr x).2 := ⟨by have := h.1; show _ ≤ nn x; omega, h.2⟩
theorem kg_pr (g : Bool) (t : Int) {x : Option Int} (h : V x) : kg g (t, pr x) = if g = true then ky x else - ky x := by
  unfold kg
  show (if g = true then ky (cnt (pr x).1 (pr x).2) else - ky (cnt (pr x).1 (pr x).2)) = _
  rw [pr_cnt h]
theorem ky_none {x : Option Int} (h : V x) (e : ky none ≤ ky x) : x = none := by
  cases x with
  | none => rfl
  | some n =>
    have h2 : n ≤ 9223372036854775807 := h.2
    exfalso
    simp only [ky] at e
    omega
theorem ky_inj {x y : Option Int} (hx : V x) (hy : V y) (e : ky x = ky y) : x = y := by
  cases x with
  | none => exact (ky_none hy (by rw [e]; exact Int.le_refl _)).symm
  | some n =>
    cases y with
    | none => exact ky_none hx (by rw [e]; exact Int.le_refl _)
    | some m => exact congrArg some e
theorem V_neg {x : Option Int} (h : V x) : V (fNeg x) := by
  cases x with
  | none => exact V.none
  | some n =>
    have h1 : -9223372036854775807 ≤ n := h.1
    have h2 : n ≤ 9223372036854775807 := h.2
    exact ⟨by show _ ≤ -n; omega, by show -n ≤ _; omega⟩
/-- How many of m values from a on are overflow. -/
def ovr (F : Nat → Option Int) (a : Nat) : Nat → Nat
  | 0 => 0
  | m + 1 => ovr F a m + (if ov (F (a + m)) = true then 1 else 0)
theorem ovr_le (F : Nat → Option Int) (a : Nat) : ∀ m, ovr F a m ≤ m
  | 0 => Nat.le_refl _
  | m + 1 => by have := ovr_le F a m; unfold ovr; split <;> omega
theorem ov_none {x : Option Int} (h : ov x = true) : x = none := by
  cases x with
  | none => rfl
  | some n => cases h
theorem ovr_pos (F : Nat → Option Int) (a : Nat) : ∀ m, 0 < ovr F a m → ∃ j, a ≤ j ∧ j < a + m ∧ F j = none
  | 0, h => absurd h (Nat.lt_irrefl _)
  | m + 1, h => by
    unfold ovr at h
    by_cases e : ov (F (a + m)) = true
    · exact ⟨a + m, by omega, by omega, ov_none e⟩
    · rw [if_neg e] at h
      obtain ⟨j, h1, h2, h3⟩ := ovr_pos F a m (by omega)
      exact ⟨j, h1, by omega, h3⟩
theorem ovr_zero (F : Nat → Option Int) (a : Nat) : ∀ m, ovr F a m = 0 → ∀ j, a ≤ j → j < a + m → F j ≠ none
  | 0, _, j, h1, h2 => by omega
  | m + 1, h, j, h1, h2 => by
    unfold ovr at h
    by_cases e : ov (F (a + m)) = true
    · rw [if_pos e] at h; omega
    · by_cases ej : j = a + m
      · subst ej; intro e2; rw [e2] at e; exact e rfl
      · rw [if_neg e] at h
        exact ovr_zero F a m (by omega) j h1 (by omega)
theorem ovr_all (F : Nat → Option Int) (a : Nat) : ∀ m, ovr F a m = m → ∀ j, a ≤ j → j < a + m → F j = none
  | 0, _, j, h1, h2 => by omega
  | m + 1, h, j, h1, h2 => by
    have hl := ovr_le F a m
    unfold ovr at h
    by_cases e : ov (F (a + m)) = true
    · rw [if_pos e] at h
      by_cases ej : j = a + m
      · subst ej; exact ov_none e
      · exact ovr_all F a m (by omega) j h1 (by omega)
    · rw [if_neg e] at h; omega
theorem ovr_not (F : Nat → Option Int) (a : Nat) : ∀ m, ovr F a m ≠ m → ∃ j, a ≤ j ∧ j < a + m ∧ F j ≠ none
  | 0, h => absurd rfl h
  | m + 1, h => by
    unfold ovr at h
    by_cases e : ov (F (a + m)) = true
    · rw [if_pos e] at h
      obtain ⟨j, h1, h2, h3⟩ := ovr_not F a m (by omega)
      exact ⟨j, h1, by omega, h3⟩
    · exact ⟨a + m, by omega, by omega, fun e2 => e (by rw [e2]; rfl)⟩
/-- Who is told of m values from a on. -/
theorem sg_best (g : Bool) (F : Nat → Option Int) (hF : ∀ j, V (F j)) (a m : Nat) (hm : 0 < m) : ∃ j, a ≤ j ∧ j < a + m ∧ (bst g (sg (fun j => pr (F j)) a m)).2 = pr (F j) ∧
    ∀ i, a ≤ i → i < a + m → (if g = true then ky (F i) ≤ ky (F j) else ky (F j) ≤ ky (F i)) := by
  obtain ⟨c, rfl⟩ : ∃ c, m = c + 1 := ⟨m - 1, by omega⟩
  obtain ⟨h1, h2⟩ := thn_best (kg g) (sg (fun j => pr (F j)) a (c + 1)) (by intro e; cases e)
  obtain ⟨j, j1, j2, j3⟩ := sg_mem _ _ _ _ h1
  refine ⟨j, j1, j2, by unfold bst; rw [j3], fun i i1 i2 => ?_⟩
  have := h2 _ (sg_has (fun j => pr (F j)) (c + 1) a i i1 i2)
  rw [j3, kg_pr _ _ (hF i), kg_pr _ _ (hF j)] at this
  cases g with
  | true => exact this
  | false =>
    rw [if_neg (by decide), if_neg (by decide)] at this
    rw [if_neg (by decide)]
    omega
/-- What the law asks of the three. -/
theorem both_all (F : Nat → Option Int) (hF : ∀ j, V (F j)) (a m : Nat) (hm : 0 < m) :
    ∃ x y z : Option Int, V x ∧ V y ∧ V z ∧ (bst false (sg (fun j => pr (F j)) a m)).2 = pr x ∧ (bst true (sg (fun j => pr (F j)) a m)).2 = pr y ∧ (bst true (sg (fun j => pr (fNeg (F j))) a m)).2 = pr z ∧
      ov y = decide ((0 : Int) < (ovr F a m : Int)) ∧ ov x = ((ovr F a m : Int) == (m : Int)) ∧ fCmp x y ≤ 0 ∧ (ovr F a m = 0 → x = fNeg z) := by
  obtain ⟨i, i1, i2, i3, i4⟩ := sg_best false F hF a m hm
  obtain ⟨j, j1, j2, j3, j4⟩ := sg_best true F hF a m hm
  obtain ⟨n, n1, n2, n3, n4⟩ := sg_best true (fun j => fNeg (F j)) (fun j => V_neg (hF j)) a m hm
  simp only [Bool.false_eq_true, if_false, if_true] at i4 j4 n4
  refine ⟨F i, F j, fNeg (F n), hF i, hF j, V_neg (hF n), i3, j3, n3, ?_, ?_, (cmp_ky (hF i) (hF j)).1.2 (j4 i i1 i2), fun h0 => ?_⟩
  · by_cases h : 0 < ovr F a m
    · rw [decide_eq_true (by omega)]
      obtain ⟨q, q1, q2, q3⟩ := ovr_pos F a m h
      have := j4 q q1 q2
      rw [q3] at this
      rw [ky_none (hF j) this]
      rfl
    · rw [decide_eq_false (by omega)]
      have := ovr_zero F a m (by omega) j j1 j2
      cases hj : F j with
      | none => exact absurd hj this
      | some v => rfl
  · by_cases h : ovr F a m = m
    · rw [show ((ovr F a m : Int) == (m : Int)) = true by rw [h]; simp, ovr_all F a m h i i1 i2]
      rfl
    · rw [show ((ovr F a m : Int) == (m : Int)) = false by rw [beq_eq_false_iff_ne]; omega]
      obtain ⟨q, q1, q2, q3⟩ := ovr_not F a m h
      cases hi : F i with
      | none =>
        have := i4 q q1 q2
        rw [hi] at this
        exact absurd (ky_none (hF q) this) q3
      | some v => rfl
  · have hz := ovr_zero F a m h0
    cases hi : F i with
    | none => exact absurd hi (hz i i1 i2)
    | some u =>
      cases hn : F n with
      | none => exact absurd hn (hz n n1 n2)
      | some v =>
        have e1 := i4 n n1 n2
        have e2 := n4 i i1 i2
        rw [hi, hn] at e1 e2
        simp only [fNeg, ky] at e1 e2
        show some u = some (- -v)
        exact congrArg some (by omega)

/-! ### Operations of a region that draws, one by one -/
theorem run_gtr (ev : Operand → Value) (o : Oper) (x y : Operand) (m n : Int) (r : Bool) (ho : o.op = Op.binOp BinOp.gtr 3 x y 3) (h1 : ev x = .int .i64 m) (h2 : ev y = .int .i64 n) (h : decide (n < m) = r) (w : World) :
    (execOp ev o).run Try.prog w = .ok (.value (.bool r)) w := by
  obtain ⟨d, op, t, p, a, g⟩ := o
  subst ho
  subst h
  unfold execOp
  go_simp
theorem run_eqlI (ev : Operand → Value) (o : Oper) (x y : Operand) (m n : Int) (r : Bool) (ho : o.op = Op.binOp BinOp.eql 3 x y 3) (h1 : ev x = .int .i64 m) (h2 : ev y = .int .i64 n) (h : (m == n) = r) (w : World) :
    (execOp ev o).run Try.prog w = .ok (.value (.bool r)) w := by
  obtain ⟨d, op, t, p, a, g⟩ := o
  subst ho
  subst h
  unfold execOp
  go_simp
theorem run_neqB (ev : Operand → Value) (o : Oper) (x y : Operand) (b : Bool) (ho : o.op = Op.binOp BinOp.neq 4 x y 4) (h1 : ev x = .bool b) (h2 : ev y = .bool b) (w : World) :
    (execOp ev o).run Try.prog w = .ok (.value (.bool false)) w := by
  obtain ⟨d, op, t, p, a, g⟩ := o
  subst ho
  unfold execOp
  go_simp
end Go.Proofs.Ytpemknkkignmcaa
