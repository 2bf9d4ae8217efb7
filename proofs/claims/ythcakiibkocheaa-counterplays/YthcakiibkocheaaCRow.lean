/- Rows of samples, of numbers, that a call makes. -/
import Derived.Test.YthcakiibkocheaaCSet
import Derived.Lib.Walk
import Derived.Laws.OwnMore
namespace Go.Proofs.Ythcakiibkocheaa
open Go.RowKit

def three (s : Smp) : List Value := [.int .i64 s.1, .bool s.2.1, .int .i64 s.2.2]
def cellsS (l : List Smp) : List Value := l.flatMap three
theorem cellsS_cons (s : Smp) (l : List Smp) : cellsS (s :: l) = .int .i64 s.1 :: .bool s.2.1 :: .int .i64 s.2.2 :: cellsS l := rfl
theorem cellsS_append (l m : List Smp) : cellsS (l ++ m) = cellsS l ++ cellsS m := by simp [cellsS]
theorem cellsS_length (l : List Smp) : (cellsS l).length = l.length * 3 := by
  induction l with
  | nil => rfl
  | cons p l ih => rw [cellsS_cons]; simp; omega
theorem cellsS_one (l : List Smp) : ∀ u ∈ cellsS l, u.oneCell' = true := by
  intro u hu
  obtain ⟨x, _, hx⟩ := List.mem_flatMap.1 hu
  unfold three at hx
  simp only [List.mem_cons, List.not_mem_nil, or_false] at hx
  rcases hx with rfl | rfl | rfl <;> rfl
theorem cellsS_get {l : List Smp} {j : Nat} (h : j < l.length) : (cellsS l)[j * 3]? = some (.int .i64 (l.getD j s0).1) ∧ (cellsS l)[j * 3 + 1]? = some (.bool (l.getD j s0).2.1) ∧ (cellsS l)[j * 3 + 2]? = some (.int .i64 (l.getD j s0).2.2) := by
  induction l generalizing j with
  | nil => simp at h
  | cons p l ih =>
    rw [cellsS_cons]
    cases j with
    | zero => simp
    | succ j =>
      have := ih (j := j) (by simpa using h)
      rw [show (j + 1) * 3 = j * 3 + 3 by omega]
      simpa using this
/-- A slice of samples that reads as l. -/
def Ms (w : World) (ao : Option Addr) (n : Nat) (l : List Smp) : Prop :=
  l.length = n ∧ (0 < n → ∃ b off, ao = some ⟨b, off, none⟩ ∧ ∀ j, j < n → w.cell? ⟨b, off + j * 3, none⟩ = some (.int .i64 (l.getD j s0).1) ∧ w.cell? ⟨b, off + j * 3 + 1, none⟩ = some (.bool (l.getD j s0).2.1) ∧ w.cell? ⟨b, off + j * 3 + 2, none⟩ = some (.int .i64 (l.getD j s0).2.2))
theorem Ms.kept {w w' : World} {ao : Option Addr} {n : Nat} {l : List Smp} (h : Ms w ao n l) {row : Option Nat} (hg : w.grownBy w' row) (hne : ∀ a, ao = some a → 0 < n → some a.block ≠ row) : Ms w' ao n l := by
  refine ⟨h.1, fun hp => ?_⟩
  obtain ⟨b, off, e, hc⟩ := h.2 hp
  have hn := hne _ e hp
  exact ⟨b, off, e, fun j hj => ⟨grown_cell hg (hc j hj).1 hn, grown_cell hg (hc j hj).2.1 hn, grown_cell hg (hc j hj).2.2 hn⟩⟩
theorem Ms.later {w w' : World} {ao : Option Addr} {n : Nat} {l : List Smp} (h : Ms w ao n l) (hb : Below w.heap.size w w') : Ms w' ao n l := h.kept (grown_below hb none) (by simp)
theorem Ms.nil (w : World) (ao : Option Addr) : Ms w ao 0 [] := ⟨rfl, fun h => by omega⟩

theorem infoS : (Try.prog.info? 32).map (fun i => (i.zero, i.size, i.bytes)) = some (some (sv s0), 3, 24) := by kernel_rfl
theorem infoS_parts : ∃ i, Try.prog.info? 32 = some i ∧ i.zero = some (sv s0) ∧ i.size = 3 ∧ i.bytes = 24 := by
  have h := infoS
  cases hi : Try.prog.info? 32 with
  | none => rw [hi] at h; cases h
  | some i =>
    rw [hi] at h
    simp only [Option.map_some, Option.some.injEq, Prod.mk.injEq] at h
    exact ⟨i, rfl, h.1, h.2.1, h.2.2⟩
theorem zeroS : (sv s0).cells.size = 3 := by kernel_rfl
/-- New memory of its own that holds these samples. -/
def Own (w : World) (base : Nat) (v : Value) (l : List Smp) : Prop := w.ownsRow base 32 3 v l.length (cellsS l)
theorem Own.slice {w : World} {base : Nat} {v : Value} {l : List Smp} (h : Own w base v l) : ∃ ao cap, v = .slice ao l.length cap ∧ Ms w ao l.length l := by
  rcases h.2 with ⟨rfl, h0⟩ | ⟨g, cap, cur, rfl, hb, hg, hn, _, hs, ht⟩
  · have : l = [] := List.length_eq_zero_iff.1 h0
    subst this
    exact ⟨none, 0, rfl, Ms.nil _ _⟩
  · refine ⟨_, cap, rfl, ⟨rfl, fun _ => ⟨g, 0, rfl, fun j hj => ?_⟩⟩⟩
    have e : ∀ i, i < l.length * 3 → w.cell? ⟨g, 0 + i, none⟩ = (cellsS l)[i]? := fun i hi => by
      rw [cell_of_row _ _ _ _ _ _ hg, ← ht, List.getElem?_take_of_lt hi, Nat.zero_add]
      exact (Array.getElem?_toList).symm
    obtain ⟨g1, g2, g3⟩ := cellsS_get hj
    exact ⟨(e _ (by omega)).trans g1, (e (j * 3 + 1) (by omega)).trans g2, (e (j * 3 + 2) (by omega)).trans g3⟩
theorem Own.later {w w' : World} {base : Nat} {v : Value} {l : List Smp} (h : Own w base v l) (hb : Below w.heap.size w w') : Own w' base v l := by
  refine ⟨h.1, ?_⟩
  rcases h.2 with h0 | ⟨g, cap, cur, hv, hg0, hg, hn, hm, hs, ht⟩
  · exact Or.inl h0
  · have hlt : g < w.heap.size := by
      by_cases hlt : g < w.heap.size
      · exact hlt
      · rw [Array.getElem?_eq_none (by omega)] at hg; cases hg
    exact Or.inr ⟨g, cap, cur, hv, hg0, (hb.block g hlt).trans hg, hn, hm, hs, ht⟩
theorem BoxS.cells {w : World} {b : Nat} {s : Smp} (h : BoxS w b s) : ∀ i u, (cellsS [s])[i]? = some u → w.cell? ((⟨b, 0, none⟩ : Addr).add i) = some u := by
  intro i u hu
  rw [Addr.add_lit, Nat.zero_add]
  match i, hu with
  | 0, hu => rw [h.c0]; exact hu
  | 1, hu => rw [h.c1]; exact hu
  | 2, hu => rw [h.c2]; exact hu
  | i + 3, hu => simp [cellsS, three] at hu
theorem Own.snoc {w : World} {base : Nat} {v : Value} {l : List Smp} {s : Smp} (h : w.ownsRow base 32 3 v (l.length + 1) (cellsS l ++ cellsS [s])) : Own w base v (l ++ [s]) := by
  unfold Own
  rw [cellsS_append, List.length_append]
  exact h

/-! ### Numbers -/
def two (x : Bool × Int) : List Value := [.bool x.1, .int .i64 x.2]
def cellsN (l : List (Bool × Int)) : List Value := l.flatMap two
theorem cellsN_cons (s : Bool × Int) (l : List (Bool × Int)) : cellsN (s :: l) = .bool s.1 :: .int .i64 s.2 :: cellsN l := rfl
theorem cellsN_append (l m : List (Bool × Int)) : cellsN (l ++ m) = cellsN l ++ cellsN m := by simp [cellsN]
theorem cellsN_one (l : List (Bool × Int)) : ∀ u ∈ cellsN l, u.oneCell' = true := by
  intro u hu
  obtain ⟨x, _, hx⟩ := List.mem_flatMap.1 hu
  unfold two at hx
  simp only [List.mem_cons, List.not_mem_nil, or_false] at hx
  rcases hx with rfl | rfl <;> rfl
theorem cellsN_get {l : List (Bool × Int)} {j : Nat} (h : j < l.length) : (cellsN l)[j * 2]? = some (.bool (l.getD j (false, 0)).1) ∧ (cellsN l)[j * 2 + 1]? = some (.int .i64 (l.getD j (false, 0)).2) := by
  induction l generalizing j with
  | nil => simp at h
  | cons p l ih =>
    rw [cellsN_cons]
    cases j with
    | zero => simp
    | succ j =>
      have := ih (j := j) (by simpa using h)
      rw [show (j + 1) * 2 = j * 2 + 2 by omega]
      simpa using this
theorem infoN : (Try.prog.info? 28).map (fun i => (i.zero, i.size, i.bytes)) = some (some (.agg #[.bool false, .int .i64 0]), 2, 16) := by kernel_rfl
theorem infoN_parts : ∃ i, Try.prog.info? 28 = some i ∧ i.zero = some (.agg #[.bool false, .int .i64 0]) ∧ i.size = 2 ∧ i.bytes = 16 := by
  have h := infoN
  cases hi : Try.prog.info? 28 with
  | none => rw [hi] at h; cases h
  | some i =>
    rw [hi] at h
    simp only [Option.map_some, Option.some.injEq, Prod.mk.injEq] at h
    exact ⟨i, rfl, h.1, h.2.1, h.2.2⟩
theorem zeroN : (Value.agg #[.bool false, .int .i64 0]).cells.size = 2 := by kernel_rfl
def OwnN (w : World) (base : Nat) (v : Value) (l : List (Bool × Int)) : Prop := w.ownsRow base 28 2 v l.length (cellsN l)
theorem OwnN.slice {w : World} {base : Nat} {v : Value} {l : List (Bool × Int)} (h : OwnN w base v l) : ∃ ao cap, v = .slice ao l.length cap ∧ Ns w ao l.length l := by
  rcases h.2 with ⟨rfl, h0⟩ | ⟨g, cap, cur, rfl, hb, hg, hn, _, hs, ht⟩
  · have : l = [] := List.length_eq_zero_iff.1 h0
    subst this
    exact ⟨none, 0, rfl, Ns.nil _⟩
  · refine ⟨_, cap, rfl, ⟨rfl, fun _ => ⟨g, 0, rfl, fun j hj => ?_⟩⟩⟩
    have e : ∀ i, i < l.length * 2 → w.cell? ⟨g, 0 + i, none⟩ = (cellsN l)[i]? := fun i hi => by
      rw [cell_of_row _ _ _ _ _ _ hg, ← ht, List.getElem?_take_of_lt hi, Nat.zero_add]
      exact (Array.getElem?_toList).symm
    obtain ⟨g1, g2⟩ := cellsN_get hj
    exact ⟨(e _ (by omega)).trans g1, (e (j * 2 + 1) (by omega)).trans g2⟩
theorem OwnN.later {w w' : World} {base : Nat} {v : Value} {l : List (Bool × Int)} (h : OwnN w base v l) (hb : Below w.heap.size w w') : OwnN w' base v l := by
  refine ⟨h.1, ?_⟩
  rcases h.2 with h0 | ⟨g, cap, cur, hv, hg0, hg, hn, hm, hs, ht⟩
  · exact Or.inl h0
  · have hlt : g < w.heap.size := by
      by_cases hlt : g < w.heap.size
      · exact hlt
      · rw [Array.getElem?_eq_none (by omega)] at hg; cases hg
    exact Or.inr ⟨g, cap, cur, hv, hg0, (hb.block g hlt).trans hg, hn, hm, hs, ht⟩
theorem Box.cellsN {w : World} {b : Nat} {x : Bool × Int} (h : Box w b x.1 x.2) : ∀ i u, (Ythcakiibkocheaa.cellsN [x])[i]? = some u → w.cell? ((⟨b, 0, none⟩ : Addr).add i) = some u := by
  intro i u hu
  rw [Addr.add_lit, Nat.zero_add]
  match i, hu with
  | 0, hu => rw [h.c0]; exact hu
  | 1, hu => rw [h.c1]; exact hu
  | i + 2, hu => simp [Ythcakiibkocheaa.cellsN, two] at hu
theorem OwnN.snoc {w : World} {base : Nat} {v : Value} {l : List (Bool × Int)} {s : Bool × Int} (h : w.ownsRow base 28 2 v (l.length + 1) (cellsN l ++ cellsN [s])) : OwnN w base v (l ++ [s]) := by
  unfold OwnN
  rw [cellsN_append, List.length_append]
  exact h
theorem take_snocS {l : List Smp} {j : Nat} (h : j < l.length) : l.take (j + 1) = l.take j ++ [l.getD j s0] := by
  rw [List.take_add_one, List.getD_eq_getElem?_getD, List.getElem?_eq_getElem h]
  rfl
theorem Box.kept {w w' : World} {b : Nat} {o : Bool} {n : Int} (h : Box w b o n) {row : Option Nat} (hg : w.grownBy w' row) (hne : some b ≠ row) : Box w' b o n :=
  ⟨grown_cell hg h.c0 hne, grown_cell hg h.c1 hne, grown_frozen hg h.lt h.f0 hne, grown_frozen hg h.lt h.f1 hne⟩
theorem cnt_r64 {o : Bool} {n : Int} (h : R64 n) : V (cnt o n) := V.cnt h.1 h.2
end Go.Proofs.Ythcakiibkocheaa
