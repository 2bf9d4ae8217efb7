/- RingMeans: what is told of a mean. -/
import Derived.Test.YtchopogodfghoaaRNum
namespace Go.Proofs.Ytchopogodfghoaa
open Go.RowKit

/-- Whole numbers as samples, at one tick each from a on. -/
def mk (a : Nat) : List Int → List Smp
  | [] => []
  | x :: r => ((a : Int), false, x) :: mk (a + 1) r
theorem mk_len : ∀ (l : List Int) (a : Nat), (mk a l).length = l.length
  | [], _ => rfl
  | _ :: r, a => by rw [mk, List.length_cons, List.length_cons, mk_len r (a + 1)]
theorem mk_snoc : ∀ (l : List Int) (a : Nat) (x : Int), mk a (l ++ [x]) = mk a l ++ [(((a + l.length : Nat) : Int), false, x)]
  | [], a, x => rfl
  | y :: r, a, x => by
    have := mk_snoc r (a + 1) x
    rw [show a + 1 + r.length = a + (y :: r).length by rw [List.length_cons]; omega] at this
    show ((a : Int), false, y) :: mk (a + 1) (r ++ [x]) = _
    rw [this]
    rfl
theorem mk_fg (t : Int) (l : List Int) (a : Nat) (h : t < a) : fg t (mk a l) = mk a l := by
  cases l with
  | nil => rfl
  | cons x r =>
    show (if (a : Int) ≤ t then _ else _) = _
    rw [if_neg (by omega)]
    rfl
theorem mk_get : ∀ (l : List Int) (a j : Nat), j < l.length → (mk a l).getD j s0 = (((a + j : Nat) : Int), false, l.getD j 0)
  | [], _, j, h => by simp at h
  | x :: r, a, 0, _ => rfl
  | x :: r, a, j + 1, h => by
    have := mk_get r (a + 1) j (by simpa using h)
    rw [show a + 1 + j = a + (j + 1) by omega] at this
    exact this
theorem mk_lst (l : List Int) (h : 0 < l.length) : lst (mk 0 l) = (((l.length - 1 : Nat) : Int), false, l.getD (l.length - 1) 0) := by
  unfold lst
  rw [mk_len, mk_get l 0 _ (by omega), Nat.zero_add]
theorem mk_adE (l : List Int) (h : l.length ≤ 90) : adE (mk 0 l) 100 l.length l.length = 0 := by
  unfold adE
  rw [if_neg (by omega), if_neg]
  rintro ⟨h1, h2⟩
  have hp : 0 < l.length := by
    cases l with
    | nil => exact absurd rfl h1
    | cons x r => simp
  rw [mk_lst l hp] at h2
  have h3 : (l.length : Int) ≤ ((l.length - 1 : Nat) : Int) := h2
  omega
/-- The numbers are those of an int32. -/
def I32 (l : List Int) : Prop := ∀ x ∈ l, -2147483648 ≤ x ∧ x ≤ 2147483647
theorem mk_adL (l : List Int) (h : l.length ≤ 90) (x : Int) (hx : -2147483648 ≤ x ∧ x ≤ 2147483647) : adL (mk 0 l) 100 l.length ((l.length : Int), false, x) = mk 0 (l ++ [x]) := by
  unfold adL
  rw [if_pos (mk_adE l h), mk_snoc, Nat.zero_add]
  have e : nrm ((l.length : Int), false, x) = ((l.length : Int), false, x) := by
    unfold nrm
    show ((l.length : Int), ov (cnt false x), nn (cnt false x)) = _
    rw [ex_cnt x (by omega)]
    rfl
  rw [e]
def tot : List Int → Int
  | [] => 0
  | x :: r => x + tot r
theorem tot_snoc : ∀ (l : List Int) (x : Int), tot (l ++ [x]) = tot l + x
  | [], x => by show x + 0 = 0 + x; omega
  | y :: r, x => by
    show y + tot (r ++ [x]) = y + tot r + x
    rw [tot_snoc r x]
    omega
theorem tot_range : ∀ (l : List Int), I32 l → -((l.length : Int) * 2147483648) ≤ tot l ∧ tot l ≤ (l.length : Int) * 2147483648
  | [], _ => by show -(0 * 2147483648 : Int) ≤ 0 ∧ (0 : Int) ≤ 0 * 2147483648; omega
  | x :: r, h => by
    have h1 := tot_range r (fun y hy => h y (List.mem_cons_of_mem _ hy))
    have h2 := h x List.mem_cons_self
    rw [List.length_cons]
    show -_ ≤ x + tot r ∧ x + tot r ≤ _
    omega
theorem mk_sum : ∀ (l : List Int) (a : Nat), I32 l → sumL (cnts (vls (mk a l))) = some (tot l)
  | [], _, _ => rfl
  | x :: r, a, h => by
    have e : cnts (vls (mk a (x :: r))) = cnt false x :: cnts (vls (mk (a + 1) r)) := rfl
    have h2 := h x List.mem_cons_self
    rw [e, sumL, mk_sum r (a + 1) (fun y hy => h y (List.mem_cons_of_mem _ hy)), ex_cnt x (by omega)]
    rfl
theorem mk_fSum (l : List Int) (h : I32 l) (hn : l.length ≤ 90) : fSum (cnts (vls (mk 0 l))) = some (tot l) := by
  have hr := tot_range l h
  unfold fSum
  rw [mk_sum l 0 h]
  show norm (tot l) = _
  unfold norm
  rw [if_pos (by omega)]
theorem tdiv_between (t lo hi : Int) (n : Nat) (hn : 0 < n) (h0 : lo * n ≤ t) (h1 : t ≤ hi * n) : lo ≤ t.tdiv n ∧ t.tdiv n ≤ hi := by
  have hn' : (0 : Int) < n := by omega
  rcases Int.le_total 0 t with ht | ht
  · rw [Int.tdiv_eq_ediv_of_nonneg ht]
    exact ⟨(Int.le_ediv_iff_mul_le hn').2 h0, Int.le_of_lt_add_one (Int.ediv_lt_of_lt_mul hn' (by rw [Int.add_mul]; omega))⟩
  · obtain ⟨s, rfl⟩ : ∃ s, t = -s := ⟨-t, by omega⟩
    rw [Int.neg_tdiv, Int.tdiv_eq_ediv_of_nonneg (by omega)]
    have e1 : s ≤ (-lo) * n := by rw [Int.neg_mul]; omega
    have e2 : (-hi) * n ≤ s := by rw [Int.neg_mul]; omega
    have e3 := (Int.le_ediv_iff_mul_le hn').2 e2
    have e4 : s / (n : Int) ≤ -lo := Int.le_of_lt_add_one (Int.ediv_lt_of_lt_mul hn' (by rw [Int.add_mul]; omega))
    omega
theorem mk_avg (l : List Int) (h : I32 l) (hn : l.length ≤ 90) (hp : 0 < l.length) : avgP (mk 0 l) = some ((tot l).tdiv l.length) := by
  have hr := tot_range l h
  unfold avgP
  rw [mk_len, mk_fSum l h hn, fOf_small _ (by omega) (by omega)]
  show (if (l.length : Int) * 1000000 = 0 then none else norm ((tot l * 1000000).tdiv ((l.length : Int) * 1000000))) = _
  rw [if_neg (by omega), Int.mul_tdiv_mul_of_pos_left _ _ (by decide)]
  have hb := tdiv_between (tot l) (-2147483648) 2147483648 l.length hp (by omega) (by omega)
  unfold norm
  rw [if_pos (by omega)]
end Go.Proofs.Ytchopogodfghoaa
