/- Slices of rules that grow; slices of bytes. -/
import Derived.Test.YtideieolgjhbiaaGreatDoorBoxR
import Derived.Deep.OwnRows
namespace Go.Proofs.YtideieolgjhbiaaGreatDoor
open Go.RowKit

def cells6 (r : Rl) : List Value := [.int .i64 r.act, tx r.frm.name, .int .i64 r.frm.kind, tx r.frm.text, tx r.tgt, tx r.txt]
def cellsR (l : List Rl) : List Value := l.flatMap cells6
theorem cellsR_cons (r : Rl) (l : List Rl) : cellsR (r :: l) = .int .i64 r.act :: tx r.frm.name :: .int .i64 r.frm.kind :: tx r.frm.text :: tx r.tgt :: tx r.txt :: cellsR l := rfl
theorem cellsR_append (l m : List Rl) : cellsR (l ++ m) = cellsR l ++ cellsR m := by simp [cellsR]
theorem cellsR_length (l : List Rl) : (cellsR l).length = l.length * 6 := by
  induction l with
  | nil => rfl
  | cons p l ih => rw [cellsR_cons]; simp; omega
theorem cellsR_one (l : List Rl) : ∀ u ∈ cellsR l, u.oneCell' = true := by
  intro u hu
  unfold cellsR at hu
  obtain ⟨r, _, h⟩ := List.mem_flatMap.1 hu
  simp only [cells6, List.mem_cons, List.not_mem_nil, or_false] at h
  rcases h with rfl | rfl | rfl | rfl | rfl | rfl <;> rfl
theorem cellsR_up (p : Rl) (l : List Rl) (i : Nat) : (cellsR (p :: l))[i + 6]? = (cellsR l)[i]? := by
  rw [cellsR_cons]
  rfl
theorem cellsR_get {l : List Rl} {j : Nat} (h : j < l.length) : (cellsR l)[j * 6]? = some (.int .i64 (l.getD j rl0).act) ∧ (cellsR l)[j * 6 + 1]? = some (tx (l.getD j rl0).frm.name) ∧ (cellsR l)[j * 6 + 2]? = some (.int .i64 (l.getD j rl0).frm.kind) ∧ (cellsR l)[j * 6 + 3]? = some (tx (l.getD j rl0).frm.text) ∧ (cellsR l)[j * 6 + 4]? = some (tx (l.getD j rl0).tgt) ∧ (cellsR l)[j * 6 + 5]? = some (tx (l.getD j rl0).txt) := by
  induction l generalizing j with
  | nil => simp at h
  | cons p l ih =>
    cases j with
    | zero => rw [cellsR_cons]; simp
    | succ j =>
      have h2 := ih (j := j) (by simpa using h)
      have e0 := cellsR_up p l (j * 6)
      have e1 := cellsR_up p l (j * 6 + 1)
      have e2 := cellsR_up p l (j * 6 + 2)
      have e3 := cellsR_up p l (j * 6 + 3)
      have e4 := cellsR_up p l (j * 6 + 4)
      have e5 := cellsR_up p l (j * 6 + 5)
      have k : (p :: l).getD (j + 1) rl0 = l.getD j rl0 := by simp
      rw [k, show (j + 1) * 6 = j * 6 + 6 from by omega, e0, show j * 6 + 6 + 1 = j * 6 + 1 + 6 from by omega, e1, show j * 6 + 6 + 2 = j * 6 + 2 + 6 from by omega, e2, show j * 6 + 6 + 3 = j * 6 + 3 + 6 from by omega, e3, show j * 6 + 6 + 4 = j * 6 + 4 + 6 from by omega, e4, show j * 6 + 6 + 5 = j * 6 + 5 + 6 from by omega, e5]
      exact h2
theorem info35R : (Tryz.prog.info? 35).map (fun i => (i.zero, i.size, i.bytes)) = some (some (.agg #[.int .i64 0, tx [], .int .i64 0, tx [], tx [], tx []]), 6, 80) := by kernel_rfl
theorem info_parts35R : ∃ i, Tryz.prog.info? 35 = some i ∧ i.zero = some (.agg #[.int .i64 0, tx [], .int .i64 0, tx [], tx [], tx []]) ∧ i.size = 6 ∧ i.bytes = 80 := by
  have h := info35R
  cases hi : Tryz.prog.info? 35 with
  | none => rw [hi] at h; cases h
  | some i =>
    rw [hi] at h
    simp only [Option.map_some, Option.some.injEq, Prod.mk.injEq] at h
    exact ⟨i, rfl, h.1, h.2.1, h.2.2⟩
theorem zero35R : (Value.agg #[.int .i64 0, tx [], .int .i64 0, tx [], tx [], tx []]).cells.size = 6 := by kernel_rfl
/-- New memory of its own that holds these rules. -/
def OwnR (w : World) (base : Nat) (v : Value) (l : List Rl) : Prop := w.ownsRow base 35 6 v l.length (cellsR l)
theorem OwnR.none (w : World) (base : Nat) : OwnR w base (.slice Option.none 0 0) [] := ⟨rfl, Or.inl ⟨rfl, rfl⟩⟩
theorem OwnR.slice {w : World} {base : Nat} {v : Value} {l : List Rl} (h : OwnR w base v l) : ∃ ao cap, v = .slice ao l.length cap ∧ Rs w ao l.length l ∧ l.length ≤ cap := by
  rcases h.2 with ⟨rfl, h0⟩ | ⟨g, cap, cur, rfl, hb, hg, hn, _, hs, ht⟩
  · have : l = [] := List.length_eq_zero_iff.1 h0
    subst this
    exact ⟨Option.none, 0, rfl, ⟨rfl, fun h => by simp at h⟩, Nat.le_refl _⟩
  · refine ⟨_, cap, rfl, ⟨rfl, fun _ => ⟨g, 0, rfl, fun j hj => ?_⟩⟩, hn⟩
    have e : ∀ i, i < l.length * 6 → w.cell? ⟨g, 0 + i, Option.none⟩ = (cellsR l)[i]? := fun i hi => by
      rw [cell_of_row _ _ _ _ _ _ hg, ← ht, List.getElem?_take_of_lt hi, Nat.zero_add]
      exact (Array.getElem?_toList).symm
    obtain ⟨g0, g1, g2, g3, g4, g5⟩ := cellsR_get hj
    exact ⟨(e _ (by omega)).trans g0, (e (j * 6 + 1) (by omega)).trans g1, (e (j * 6 + 2) (by omega)).trans g2, (e (j * 6 + 3) (by omega)).trans g3, (e (j * 6 + 4) (by omega)).trans g4, (e (j * 6 + 5) (by omega)).trans g5⟩
theorem OwnR.same {w w' : World} {base : Nat} {v : Value} {l : List Rl} (h : OwnR w base v l) (hb : ∀ g, base ≤ g → g < w.heap.size → w'.heap[g]? = w.heap[g]?) : OwnR w' base v l := by
  refine ⟨h.1, ?_⟩
  rcases h.2 with h0 | ⟨g, cap, cur, hv, hg0, hg, hn, hm, hs, ht⟩
  · exact Or.inl h0
  · have hlt : g < w.heap.size := by
      by_cases hlt : g < w.heap.size
      · exact hlt
      · rw [Array.getElem?_eq_none (by omega)] at hg; cases hg
    exact Or.inr ⟨g, cap, cur, hv, hg0, (hb g hg0 hlt).trans hg, hn, hm, hs, ht⟩
theorem OwnR.later {w w' : World} {base : Nat} {v : Value} {l : List Rl} (h : OwnR w base v l) (hb : Below w.heap.size w w') : OwnR w' base v l := h.same fun g _ hg => hb.block g hg
theorem wp_appR {w w0 : World} {ops : Array Oper} {rest : List Oper} {o : Oper} {a : Act} {Q : Exit → Act → World → Prop} (hgd : o.guard = none) (s x : Operand)
    (ho : o.op = .call { callee := .builtin .append, args := #[s, x], argTypes := #[23, 23] }) (base : Nat) (v : Value) (acc : List Rl) (r : Rl) (b : Nat) (hs : a.eval s = v) (hx : a.eval x = .slice (some ⟨b, 0, none⟩) 1 1)
    (hown : OwnR w base v acc) (hc : BoxR w b r) (hb : Below base w0 w) (hb0 : base ≤ w0.heap.size) (hN : acc.length ≤ 1000000)
    (h : ∀ v' w', OwnR w' base v' (acc ++ [r]) → Below base w0 w' → wpList Tryz.prog ops Q rest (a.put o.dst v') w') : wpList Tryz.prog ops Q (o :: rest) a w := by
  obtain ⟨i0, hi, hz0, hz1, hz2⟩ := info_parts35R
  refine wpList_append_own w hgd s x 23 ho base 35 i0 (.agg #[.int .i64 0, tx [], .int .i64 0, tx [], tx [], tx []]) 6 80 Tryz.underlying23 hi hz0 hz1 hz2 zero35R (by decide) v acc.length (cellsR acc) hs hown ⟨b, 0, none⟩ 1 1 (cellsR [r]) hx rfl ?_ (cellsR_one _) (by unfold maxLen; omega) (by omega) (Nat.le_trans hb0 hb.size) ?_
  · intro i u hu
    rw [Addr.add_lit, Nat.zero_add]
    match i, hu with
    | 0, hu => rw [hc.c0]; exact hu
    | 1, hu => rw [hc.c1]; exact hu
    | 2, hu => rw [hc.c2]; exact hu
    | 3, hu => rw [hc.c3]; exact hu
    | 4, hu => rw [hc.c4]; exact hu
    | 5, hu => rw [hc.c5]; exact hu
    | i + 6, hu => simp [cellsR, cells6] at hu
  · intro v' w' h2 h3 _
    refine h v' w' ?_ (hb.grown h3 (Nat.le_trans hb0 hb.size) (fun k hk => (World.ownsRow.lt hown k hk).1))
    unfold OwnR
    rw [cellsR_append, List.length_append]
    exact h2

/-- A slice of bytes. -/
def Ns (w : World) (ao : Option Addr) (n : Nat) (l : List UInt8) : Prop :=
  l.length = n ∧ (0 < n → ∃ b off, ao = some ⟨b, off, none⟩ ∧ ∀ j, j < n → w.cell? ⟨b, off + j, none⟩ = some (.int .u8 (l.getD j 0).toNat))
end Go.Proofs.YtideieolgjhbiaaGreatDoor
