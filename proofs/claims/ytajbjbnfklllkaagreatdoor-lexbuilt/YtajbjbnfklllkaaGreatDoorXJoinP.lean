/- Signs of two texts with a blank between; of texts put together: nothing of the program is run here. -/
import Derived.Test.YtajbjbnfklllkaaGreatDoorXTok
namespace Go.Proofs.YtajbjbnfklllkaaGreatDoor
open Go.RowKit

def sh (q : Int) (x : Tk) : Tk := x.put (x.p + q)
def shR (q : Nat) : Nat ⊕ List Tk → Nat ⊕ List Tk
  | .inl p => .inl (q + p)
  | .inr l => .inr (l.map (sh q))
theorem lead_drop_lt {r : Str} {k : Nat} (hr : r ≠ []) (hk : 1 ≤ k) : (lead (r.drop k)).length < r.length := by
  have := lead_le (r.drop k)
  have h : 0 < r.length := List.length_pos_iff.2 hr
  simp at this
  omega
theorem scanG_shift (q n : Nat) : ∀ (m : Nat) (r : Str), r.length ≤ m → r.length ≤ n → scanG (q + n) r = shR q (scanG n r)
  | 0, r, h, _ => by
    have : r = [] := List.length_eq_zero_iff.1 (by omega)
    subst this
    rw [scanG_nil, scanG_nil]
    rfl
  | m + 1, r, h, hn => by
    by_cases hr : r = []
    · subst hr
      rw [scanG_nil, scanG_nil]
      rfl
    · cases ht : tok r with
      | none =>
        rw [scanG_none hr ht, scanG_none hr ht]
        show Sum.inl _ = Sum.inl _
        congr 1
        omega
      | some y =>
        obtain ⟨x, k⟩ := y
        obtain ⟨k1, k2, _, _⟩ := tok_facts hr ht
        have hl := lead_drop_lt hr k1
        rw [scanG_some hr ht k1, scanG_some hr ht k1, scanG_shift q n m (lead (r.drop k)) (by omega) (by omega)]
        have e : ((q + n - r.length : Nat) : Int) = ((n - r.length : Nat) : Int) + (q : Nat) := by omega
        rw [e]
        cases scanG n (lead (r.drop k)) <;> rfl
theorem lead_lead_app (u v : Str) : lead (u ++ v) = lead (lead u ++ v) := by
  cases h : lead u with
  | nil => rw [lead_app h]; rfl
  | cons c w => rw [lead_app2 h, List.cons_append, lead_cons (lead_head h)]
theorem scanG_join (b : Str) (n : Nat) : ∀ (m : Nat) (r : Str) (l : List Tk), r.length ≤ m → r.length ≤ n → lead r = r → scanG n r = .inr l → scanG (n + 1 + b.length) (lead (r ++ 32 :: b)) = pre l (scanG (n + 1 + b.length) (lead b))
  | m, [], l, _, _, _, hg => by
    rw [scanG_nil] at hg
    injection hg with hg
    subst hg
    rw [pre_nil, List.nil_append, lead_blank (by decide)]
  | 0, c :: r, l, h, _, _, _ => by simp at h
  | m + 1, c :: r, l, h, hn, hl, hg => by
    have hr : c :: r ≠ [] := by simp
    rw [lead_app2 hl]
    generalize c :: r = r at *
    have hr2 : r ++ 32 :: b ≠ [] := by simp
    cases ht : tok r with
    | none => rw [scanG_none hr ht] at hg; cases hg
    | some y =>
      obtain ⟨x, k⟩ := y
      obtain ⟨k1, k2, _, _⟩ := tok_facts hr ht
      have hlt := lead_drop_lt hr k1
      rw [scanG_some hr ht k1] at hg
      cases hq : scanG n (lead (r.drop k)) with
      | inl p => rw [hq] at hg; cases hg
      | inr l' =>
        rw [hq] at hg
        have hg' : x.put ((n - r.length : Nat) : Int) :: l' = l := by injection hg
        subst hg'
        have ih := scanG_join b n m (lead (r.drop k)) l' (by omega) (by omega) (lead_lead _) hq
        rw [scanG_some hr2 (tok_more b hr ht) k1, List.drop_append_of_le_length k2, lead_lead_app, ih]
        have e : n + 1 + b.length - (r ++ 32 :: b).length = n - r.length := by simp; omega
        rw [e]
        cases scanG (n + 1 + b.length) (lead b) <;> rfl
theorem prT_put (x : Tk) (p : Int) : prT (x.put p) = prT x := rfl
/-- How many signs, where they stand, what they are, how long they are printed. -/
theorem scanG_facts (n : Nat) : ∀ (m : Nat) (r : Str), r.length ≤ m → r.length ≤ n → (∀ p, scanG n r = .inl p → p ≤ n) ∧ (∀ l, scanG n r = .inr l → l.length ≤ r.length ∧ (∀ x ∈ l, ∃ y p, Okt y ∧ x = y.put p ∧ 0 ≤ p ∧ p ≤ n) ∧ (l.map fun x => (prT x).length).sum ≤ r.length)
  | m, [], _, _ => by
    rw [scanG_nil]
    refine ⟨fun p h => (by cases h), fun l h => ?_⟩
    injection h with h
    subst h
    exact ⟨by simp, fun x hx => by simp at hx, by simp⟩
  | 0, c :: r, h, _ => by simp at h
  | m + 1, c :: r, h, hn => by
    have hr : c :: r ≠ [] := by simp
    generalize c :: r = r at *
    cases ht : tok r with
    | none =>
      rw [scanG_none hr ht]
      refine ⟨fun p h => ?_, fun l h => by cases h⟩
      injection h with h
      omega
    | some y =>
      obtain ⟨x, k⟩ := y
      obtain ⟨k1, k2, k3, k4⟩ := tok_facts hr ht
      have hlt := lead_drop_lt hr k1
      have hle := lead_le (r.drop k)
      rw [List.length_drop] at hle
      obtain ⟨i1, i2⟩ := scanG_facts n m (lead (r.drop k)) (by omega) (by omega)
      rw [scanG_some hr ht k1]
      cases hq : scanG n (lead (r.drop k)) with
      | inl p =>
        refine ⟨fun p' h => ?_, fun l h => by cases h⟩
        injection h with h
        rw [← h]
        exact i1 p hq
      | inr l' =>
        refine ⟨fun p h => (by cases h), fun l h => ?_⟩
        injection h with h
        subst h
        obtain ⟨j1, j2, j3⟩ := i2 l' hq
        refine ⟨by simp; omega, fun z hz => ?_, ?_⟩
        · rcases List.mem_cons.1 hz with rfl | hz
          · exact ⟨x, _, k3, rfl, by omega, by omega⟩
          · exact j2 z hz
        · rw [List.map_cons, List.sum_cons, prT_put]
          omega
theorem scL_facts (s : Str) : (scL s).length ≤ s.length + 1 ∧ (∀ x ∈ scL s, 0 ≤ x.p ∧ x.p ≤ s.length) ∧ 0 ≤ scP s ∧ scP s ≤ s.length := by
  by_cases hb : 600 < s.length
  · obtain ⟨e1, e2, e3⟩ := sc_big hb
    rw [e2, e3]
    exact ⟨by simp, fun x hx => by simp at hx, by omega, by omega⟩
  · obtain ⟨f1, f2⟩ := scanG_facts s.length (lead s).length (lead s) (Nat.le_refl _) (lead_le s)
    have hl := lead_le s
    cases e : sc s with
    | inl p =>
      obtain ⟨e1, e2, e3⟩ := sc_bad hb e
      have := f1 p e
      rw [e2, e3]
      exact ⟨by simp, fun x hx => by simp at hx, by omega, by omega⟩
    | inr l =>
      obtain ⟨e1, e2, e3⟩ := sc_ok hb e
      obtain ⟨g1, g2, _⟩ := f2 l e
      rw [e2, e3]
      refine ⟨by simp; omega, fun x hx => ?_, by omega, by omega⟩
      rcases List.mem_append.1 hx with hx | hx
      · obtain ⟨y, p, _, rfl, h0, h1⟩ := g2 x hx
        exact ⟨h0, h1⟩
      · simp at hx
        subst hx
        exact ⟨by show (0 : Int) ≤ ((s.length : Nat) : Int); omega, by show ((s.length : Nat) : Int) ≤ _; omega⟩
/-- Signs of two texts, with a blank between, are those of both. -/
theorem sc_join {a b : Str} {l : List Tk} (h : sc a = .inr l) : sc (a ++ 32 :: b) = pre l (shR (a.length + 1) (sc b)) := by
  unfold sc at *
  have e : (a ++ 32 :: b).length = a.length + 1 + b.length := by simp; omega
  rw [e, lead_lead_app, scanG_join b a.length (lead a).length (lead a) l (Nat.le_refl _) (lead_le a) (lead_lead a) h, scanG_shift (a.length + 1) b.length (lead b).length (lead b) (Nat.le_refl _) (lead_le b)]
theorem sc_cases {s : Str} (h : s.length ≤ 600) : (∃ p, sc s = .inl p ∧ scE s = 70 ∧ scP s = p ∧ scL s = []) ∨ (∃ l, sc s = .inr l ∧ scE s = 0 ∧ scP s = 0 ∧ scL s = l ++ [tEnd s.length]) := by
  cases e : sc s with
  | inl p => exact Or.inl ⟨p, rfl, sc_bad (by omega) e⟩
  | inr l => exact Or.inr ⟨l, rfl, sc_ok (by omega) e⟩
theorem scL_pos {s : Str} (h : scE s = 0) : 0 < (scL s).length := by
  by_cases hb : 600 < s.length
  · rw [(sc_big hb).1] at h
    cases h
  · rcases sc_cases (s := s) (by omega) with ⟨p, _, e2, _, _⟩ | ⟨l, _, _, _, e4⟩
    · rw [e2] at h
      cases h
    · rw [e4]
      simp
theorem joined {a b : Str} (ha : a.length ≤ 200) (hb : b.length ≤ 200) :
    (scE a ≠ 0 ∧ (scE (a ++ 32 :: b) ≠ 0 ∨ (scE (a ++ 32 :: b) = 0 ∧ scL (a ++ 32 :: b) ≠ []))) ∨
    (scE a = 0 ∧ scE b = 70 ∧ scE (a ++ 32 :: b) = 70 ∧ scP (a ++ 32 :: b) = (a.length : Int) + 1 + scP b) ∨
    (scE a = 0 ∧ scE b = 0 ∧ scE (a ++ 32 :: b) = 0 ∧ ∃ l, scL a = l ++ [tEnd a.length] ∧ scL (a ++ 32 :: b) = l ++ (scL b).map (sh ((a.length : Int) + 1))) := by
  have hc : (a ++ 32 :: b).length = a.length + 1 + b.length := by simp; omega
  rcases sc_cases (s := a) (by omega) with ⟨p, e1, e2, _, _⟩ | ⟨l, e1, e2, _, e4⟩
  · refine Or.inl ⟨by rw [e2]; decide, ?_⟩
    rcases sc_cases (s := a ++ 32 :: b) (by omega) with ⟨p, _, f2, _, _⟩ | ⟨l, _, f2, _, f4⟩
    · exact Or.inl (by rw [f2]; decide)
    · exact Or.inr ⟨f2, by rw [f4]; simp⟩
  · have hj := sc_join (b := b) e1
    rcases sc_cases (s := b) (by omega) with ⟨p, g1, g2, g3, _⟩ | ⟨m, g1, g2, _, g4⟩
    · rw [g1] at hj
      obtain ⟨i1, i2, _⟩ := sc_bad (s := a ++ 32 :: b) (p := a.length + 1 + p) (by omega) hj
      exact Or.inr (Or.inl ⟨e2, g2, i1, by rw [i2, g3]; omega⟩)
    · rw [g1] at hj
      obtain ⟨i1, _, i3⟩ := sc_ok (s := a ++ 32 :: b) (l := l ++ m.map (sh ((a.length + 1 : Nat) : Int))) (by omega) hj
      refine Or.inr (Or.inr ⟨e2, g2, i1, l, e4, ?_⟩)
      rw [i3, g4, List.append_assoc, List.map_append]
      have e5 : ((a.length + 1 : Nat) : Int) = (a.length : Int) + 1 := by omega
      rw [e5]
      congr 2
      show [tEnd _] = [sh _ _]
      unfold tEnd sh Tk.put
      simp [hc]
      omega
end Go.Proofs.YtajbjbnfklllkaaGreatDoor
