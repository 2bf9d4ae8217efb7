/- Signs printed are read as the same: nothing of the program is run here. -/
import Derived.Test.YtajbjbnfklllkaaGreatDoorXJoinP
import Derived.Test.YtajbjbnfklllkaaGreatDoorXPrint
namespace Go.Proofs.YtajbjbnfklllkaaGreatDoor
open Go.RowKit

theorem join_two (x y : Str) (r : List Str) : Lib.join (x :: y :: r) [32] = x ++ 32 :: Lib.join (y :: r) [32] := by
  rw [Lib.join_cons, Lib.join_cons]
  simp [Lib.joinTail]
theorem join_snoc (x : Str) (r : List Str) (t : Str) : Lib.join (x :: r ++ [t]) [32] = Lib.join (x :: r) [32] ++ 32 :: t := by
  induction r generalizing x with
  | nil => rw [List.cons_append, List.nil_append, join_two, Lib.join_one, Lib.join_one]
  | cons y r ih =>
    have := ih y
    rw [List.cons_append] at this
    rw [List.cons_append, List.cons_append, join_two, this, join_two]
    simp
theorem txs_ne {l : List Tk} : ∀ t ∈ txs l, t ≠ [] := by
  intro t ht
  have := (List.mem_filter.1 ht).2
  intro e
  subst e
  simp at this
theorem prL_none {l : List Tk} (h : prL l = []) : txs l = [] := by
  cases hx : txs l with
  | nil => rfl
  | cons x r =>
    unfold prL at h
    rw [hx, Lib.join_cons] at h
    have := txs_ne (l := l) x (by rw [hx]; simp)
    simp at h
    exact absurd h.1 this
theorem prL_skip {l : List Tk} {j : Nat} (h : j < l.length) (e : prT (l.getD j tk0) = []) : prL (l.take (j + 1)) = prL (l.take j) := by unfold prL; rw [txs_skip h e]
theorem prL_first {l : List Tk} {j : Nat} (h : j < l.length) (e : prT (l.getD j tk0) ≠ []) (h0 : prL (l.take j) = []) : prL (l.take (j + 1)) = prT (l.getD j tk0) := by
  unfold prL
  rw [txs_add h e, prL_none h0]
  exact Lib.join_one _ _
theorem prL_next {l : List Tk} {j : Nat} (h : j < l.length) (e : prT (l.getD j tk0) ≠ []) (h0 : prL (l.take j) ≠ []) : prL (l.take (j + 1)) = prL (l.take j) ++ 32 :: prT (l.getD j tk0) := by
  unfold prL at *
  rw [txs_add h e]
  cases hx : txs (l.take j) with
  | nil => rw [hx] at h0; exact absurd rfl h0
  | cons x r => exact join_snoc x r _
theorem join_len : ∀ (r : List Str), (Lib.join r [32]).length ≤ (r.map List.length).sum + r.length
  | [] => by simp [Lib.join_nil]
  | [x] => by rw [Lib.join_one]; simp
  | x :: y :: r => by
    have := join_len (y :: r)
    rw [join_two]
    simp at *
    omega
theorem txs_sum (l : List Tk) : ((txs l).map List.length).sum ≤ (l.map fun x => (prT x).length).sum ∧ (txs l).length ≤ l.length := by
  unfold txs
  induction l with
  | nil => simp
  | cons x l ih =>
    rw [List.map_cons, List.filter_cons]
    split
    · simp at *; omega
    · simp at *; omega
theorem prL_len (l : List Tk) : (prL l).length ≤ (l.map fun x => (prT x).length).sum + l.length := by
  unfold prL
  have := join_len (txs l)
  have := txs_sum l
  omega
theorem sum_take (l : List Nat) (j : Nat) : (l.take j).sum ≤ l.sum := by
  induction l generalizing j with
  | nil => simp
  | cons x l ih =>
    cases j with
    | zero => simp
    | succ j => rw [List.take_succ_cons, List.sum_cons, List.sum_cons]; have := ih j; omega
theorem prL_take_len (l : List Tk) (j : Nat) : (prL (l.take j)).length ≤ (l.map fun x => (prT x).length).sum + l.length := by
  have h1 := prL_len (l.take j)
  have h2 := sum_take (l.map fun x => (prT x).length) j
  rw [← List.map_take] at h2
  have h3 := List.length_take_le j l
  have h4 : (l.take j).length ≤ l.length := by rw [List.length_take]; omega
  omega
def Okl (l : List Tk) : Prop := ∀ x ∈ l, ∃ y p, Okt y ∧ x = y.put p
theorem ok_head {x : Tk} (h : ∃ y p, Okt y ∧ x = y.put p) : ∃ c q, prT x = c :: q ∧ blB c = false := by
  obtain ⟨y, p, h1, rfl⟩ := h
  rw [prT_put]
  exact pr_head h1
theorem txs_all {l : List Tk} (h : Okl l) : txs l = l.map prT := by
  unfold txs
  rw [List.filter_eq_self]
  intro t ht
  obtain ⟨x, hx, rfl⟩ := List.mem_map.1 ht
  obtain ⟨c, q, e, _⟩ := ok_head (h x hx)
  rw [e]
  rfl
theorem txs_end (l : List Tk) (n : Nat) : txs (l ++ [tEnd n]) = txs l := by
  unfold txs
  rw [List.map_append, List.filter_append]
  have : prT (tEnd n) = [] := rfl
  simp [this]
theorem tok_of {x : Tk} {r : Str} (h : ∃ y p, Okt y ∧ x = y.put p) (hr : r = [] ∨ ∃ b, r = 32 :: b) : ∃ y, tok (prT x ++ r) = some (y, (prT x).length) ∧ y.put 0 = x.put 0 := by
  obtain ⟨y, p, h1, rfl⟩ := h
  exact ⟨y, tok_print h1 hr, rfl⟩
theorem scan_printed (n : Nat) : ∀ (l : List Tk), Okl l → ∃ m, scanG n (Lib.join (l.map prT) [32]) = .inr m ∧ m.map (fun x => x.put 0) = l.map (fun x => x.put 0)
  | [], _ => ⟨[], by rw [List.map_nil, Lib.join_nil]; exact scanG_nil n, rfl⟩
  | [x], h => by
    have hx := h x (by simp)
    obtain ⟨c, q, e, _⟩ := ok_head hx
    obtain ⟨y, t1, t2⟩ := tok_of (r := []) hx (Or.inl rfl)
    rw [List.append_nil] at t1
    have hl : 1 ≤ (prT x).length := by rw [e]; simp
    have hne : prT x ≠ [] := by rw [e]; simp
    refine ⟨[y.put ((n - (prT x).length : Nat) : Int)], ?_, ?_⟩
    · rw [List.map_cons, List.map_nil, Lib.join_one, scanG_some hne t1 hl, List.drop_of_length_le (Nat.le_refl _)]
      show push _ (scanG n []) = _
      rw [scanG_nil]
      rfl
    · show [(y.put _).put 0] = [x.put 0]
      rw [← t2]
      rfl
  | x :: z :: l, h => by
    have hx := h x (by simp)
    obtain ⟨c, q, e, _⟩ := ok_head hx
    obtain ⟨c2, q2, e2, hb2⟩ := ok_head (h z (by simp))
    obtain ⟨m, m1, m2⟩ := scan_printed n (z :: l) (fun u hu => h u (by simp at hu ⊢; exact Or.inr hu))
    obtain ⟨y, t1, t2⟩ := tok_of (r := 32 :: Lib.join ((z :: l).map prT) [32]) hx (Or.inr ⟨_, rfl⟩)
    have hl : 1 ≤ (prT x).length := by rw [e]; simp
    have hj : Lib.join ((x :: z :: l).map prT) [32] = prT x ++ 32 :: Lib.join ((z :: l).map prT) [32] := by
      rw [List.map_cons, List.map_cons, join_two]
    have hlead : lead (Lib.join ((z :: l).map prT) [32]) = Lib.join ((z :: l).map prT) [32] := by
      rw [List.map_cons, Lib.join_cons, e2, List.cons_append]
      exact lead_cons hb2
    have hne : prT x ++ 32 :: Lib.join ((z :: l).map prT) [32] ≠ [] := by simp
    refine ⟨y.put ((n - (prT x ++ 32 :: Lib.join ((z :: l).map prT) [32]).length : Nat) : Int) :: m, ?_, ?_⟩
    · rw [hj, scanG_some hne t1 hl, List.drop_left, lead_blank (by decide), hlead, m1]
      rfl
    · rw [List.map_cons, m2]
      show _ :: _ = x.put 0 :: _
      rw [← t2]
      rfl
/-- What is read, printed, is read as the same, but for places; printed again it is the same text. -/
theorem back {s : Str} (hs : s.length ≤ 250) (he : scE s = 0) : scE (prL (scL s)) = 0 ∧ (scL s).map (fun x => x.put 0) = (scL (prL (scL s))).map (fun x => x.put 0) ∧ prL (scL (prL (scL s))) = prL (scL s) ∧ (prL (scL s)).length ≤ 500 ∧ ((scL s).map fun x => (prT x).length).sum ≤ 250 := by
  rcases sc_cases (s := s) (by omega) with ⟨p, _, e2, _, _⟩ | ⟨l, e1, _, _, e4⟩
  · rw [e2] at he; cases he
  · obtain ⟨f1, f2, f3⟩ := (scanG_facts s.length (lead s).length (lead s) (Nat.le_refl _) (lead_le s)).2 l e1
    have hll := lead_le s
    have hok : Okl l := fun x hx => by
      obtain ⟨y, p, h1, h2, _, _⟩ := f2 x hx
      exact ⟨y, p, h1, h2⟩
    have ht : prL (scL s) = Lib.join (l.map prT) [32] := by
      unfold prL
      rw [e4, txs_end, txs_all hok]
    have hsum : ((scL s).map fun x => (prT x).length).sum ≤ 250 := by
      rw [e4, List.map_append, List.sum_append]
      have : ([tEnd s.length].map fun x => (prT x).length).sum = 0 := rfl
      omega
    have hlen : (Lib.join (l.map prT) [32]).length ≤ 500 := by
      have h1 := join_len (l.map prT)
      rw [List.map_map, List.length_map] at h1
      have h2 : (l.map (List.length ∘ prT)) = l.map fun x => (prT x).length := rfl
      rw [h2] at h1
      omega
    rw [ht]
    obtain ⟨m, m1, m2⟩ := scan_printed (Lib.join (l.map prT) [32]).length l hok
    have hlead : lead (Lib.join (l.map prT) [32]) = Lib.join (l.map prT) [32] := by
      cases l with
      | nil => rfl
      | cons x r =>
        obtain ⟨c, q, e, hb⟩ := ok_head (hok x (by simp))
        rw [List.map_cons, Lib.join_cons, e, List.cons_append]
        exact lead_cons hb
    have hsc : sc (Lib.join (l.map prT) [32]) = .inr m := by unfold sc; rw [hlead]; exact m1
    obtain ⟨g1, _, g3⟩ := sc_ok (by omega) hsc
    have hmp : m.map prT = l.map prT := by
      have := congrArg (List.map prT) m2
      rw [List.map_map, List.map_map] at this
      exact this
    have htm : txs m = txs l := by unfold txs; rw [hmp]
    refine ⟨g1, ?_, ?_, hlen, hsum⟩
    · rw [g3, e4, List.map_append, List.map_append, m2]
      rfl
    · unfold prL
      rw [g3, txs_end, htm, txs_all hok]
end Go.Proofs.YtajbjbnfklllkaaGreatDoor
