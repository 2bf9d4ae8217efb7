/- Merging in place: where two rows part. -/
import Derived.Test.YtldlhpokkidmlaaGreatDoorSymPlain
namespace Go.Proofs.YtldlhpokkidmlaaGreatDoor

abbrev zz : Pr := ([], [])
theorem getD_ix {R : List Pr} {k : Nat} (h : k < R.length) : R.getD k zz = R[k] := by
  rw [List.getD, List.getElem?_eq_getElem h]; rfl
theorem parts_hx {L R : List Pr} (hL : sortedN L) (hR : sortedN R) {s e : Nat} (hs : s ≤ L.length) (h : s = 0 ∨ e = R.length ∨ (0 < s ∧ e < R.length ∧ ¬ (R.getD e zz).1 < (L.getD (s - 1) zz).1)) : ∀ x ∈ L.take s, ∀ y ∈ R.drop e, ¬ y.1 < x.1 := by
  rcases h with rfl | rfl | ⟨h0, he, h⟩
  · intro x hx; simp at hx
  · intro x hx y hy; simp at hy
  · rw [getD_ix he, getD_ix (by omega)] at h
    intro x hx y hy
    obtain ⟨p, hp, hps, rfl⟩ := mem_take_ix hx
    obtain ⟨q, hq, hqe, rfl⟩ := mem_drop_ix hy
    exact not_trans (sorted_le hL (show p ≤ s - 1 by omega) (by omega)) (not_trans h (sorted_le hR hqe hq))
theorem parts_hy {L R : List Pr} (hL : sortedN L) (hR : sortedN R) {s e : Nat} (he : e ≤ R.length) (h : s = L.length ∨ e = 0 ∨ (0 < e ∧ s < L.length ∧ (R.getD (e - 1) zz).1 < (L.getD s zz).1)) : ∀ y ∈ R.take e, ∀ x ∈ L.drop s, y.1 < x.1 := by
  rcases h with rfl | rfl | ⟨h0, hs, h⟩
  · intro y hy x hx; simp at hx
  · intro y hy; simp at hy
  · rw [getD_ix hs, getD_ix (by omega)] at h
    intro y hy x hx
    obtain ⟨p, hp, hps, rfl⟩ := mem_take_ix hy
    obtain ⟨q, hq, hqe, rfl⟩ := mem_drop_ix hx
    exact lt_of_not' (lt_of_not (sorted_le hR (show p ≤ e - 1 by omega) (by omega)) h) (sorted_le hL hqe hq)
theorem row_left {P L R S : List Pr} {a c : Nat} (ha : P.length = a) (h1 : a ≤ c) (h2 : c < a + L.length) : (P ++ (L ++ (R ++ S))).getD c ([], []) = L.getD (c - a) zz := by
  have e : c = a + (c - a) := by omega
  conv => lhs; rw [e]
  rw [getD_app ha (by simp; omega), List.getElem_append_left (by omega), getD_ix (by omega)]
theorem row_right {P L R S : List Pr} {a m c : Nat} (ha : P.length = a) (hm : a + L.length = m) (h1 : m ≤ c) (h2 : c < m + R.length) : (P ++ (L ++ (R ++ S))).getD c ([], []) = R.getD (c - m) zz := by
  have e0 : P ++ (L ++ (R ++ S)) = (P ++ L) ++ (R ++ S) := by simp
  have e : c = m + (c - m) := by omega
  conv => lhs; rw [e0, e]
  rw [getD_app (by simp; omega) (by simp; omega), List.getElem_append_left (by omega), getD_ix (by omega)]
theorem sorted_take {L : List Pr} (h : sortedN L) (k : Nat) : sortedN (L.take k) := h.sublist (List.take_sublist k L)
theorem sorted_drop {L : List Pr} (h : sortedN L) (k : Nat) : sortedN (L.drop k) := h.sublist (List.drop_sublist k L)
/-- Both halves. -/
theorem merged_all {L R M1 M2 : List Pr} {s e : Nat} (hL : sortedN L) (hR : sortedN R) (hx : ∀ x ∈ L.take s, ∀ y ∈ R.drop e, ¬ y.1 < x.1) (hy : ∀ y ∈ R.take e, ∀ x ∈ L.drop s, y.1 < x.1) (h1 : Merged (L.take s) (R.take e) M1) (h2 : Merged (L.drop s) (R.drop e) M2) : Merged L R (M1 ++ M2) := by
  have := merged_halves (L1 := L.take s) (L2 := L.drop s) (R1 := R.take e) (R2 := R.drop e) (by rw [List.take_append_drop]; exact hL) (by rw [List.take_append_drop]; exact hR) hx hy h1 h2
  rw [List.take_append_drop, List.take_append_drop] at this
  exact this
end Go.Proofs.YtldlhpokkidmlaaGreatDoor
