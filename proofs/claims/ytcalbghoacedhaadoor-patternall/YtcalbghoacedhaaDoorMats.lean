/- Rows of matchers that grow. -/
import Derived.Test.YtcalbghoacedhaaDoorKnown
import Derived.Lib.AppendZerosOnto
import Derived.Deep.Upon
namespace Go.Proofs.YtcalbghoacedhaaDoor
open Go.RowKit

def cellsM (l : List Mat) : List Value := l.flatMap fun m => [tx m.name, .int .i64 m.kind, tx m.text]
theorem cellsM_cons (p : Mat) (l : List Mat) : cellsM (p :: l) = tx p.name :: .int .i64 p.kind :: tx p.text :: cellsM l := rfl
theorem cellsM_append (l m : List Mat) : cellsM (l ++ m) = cellsM l ++ cellsM m := by simp [cellsM]
theorem cellsM_length (l : List Mat) : (cellsM l).length = l.length * 3 := by
  induction l with
  | nil => rfl
  | cons p l ih => rw [cellsM_cons]; simp; omega
theorem cellsM_one (l : List Mat) : ∀ u ∈ cellsM l, u.oneCell' = true := by
  intro u hu
  induction l with
  | nil => cases hu
  | cons p l ih =>
    rw [cellsM_cons] at hu
    rcases List.mem_cons.1 hu with rfl | hu
    · rfl
    · rcases List.mem_cons.1 hu with rfl | hu
      · rfl
      · rcases List.mem_cons.1 hu with rfl | hu
        · rfl
        · exact ih hu
theorem cellsM_get {l : List Mat} {j : Nat} (h : j < l.length) : (cellsM l)[j * 3]? = some (tx (l.getD j mat0).name) ∧ (cellsM l)[j * 3 + 1]? = some (.int .i64 (l.getD j mat0).kind) ∧ (cellsM l)[j * 3 + 2]? = some (tx (l.getD j mat0).text) := by
  induction l generalizing j with
  | nil => simp at h
  | cons p l ih =>
    rw [cellsM_cons]
    cases j with
    | zero => simp
    | succ j =>
      have := ih (j := j) (by simpa using h)
      have e : (j + 1) * 3 = j * 3 + 1 + 1 + 1 := by omega
      rw [e]
      simpa using this
theorem info26 : (Tryd.prog.info? 26).map (fun i => (i.zero, i.size, i.bytes)) = some (some (.agg #[tx [], .int .i64 0, tx []]), 3, 40) := by kernel_rfl
theorem info_parts26 : ∃ i, Tryd.prog.info? 26 = some i ∧ i.zero = some (.agg #[tx [], .int .i64 0, tx []]) ∧ i.size = 3 ∧ i.bytes = 40 := by
  have h := info26
  cases hi : Tryd.prog.info? 26 with
  | none => rw [hi] at h; cases h
  | some i =>
    rw [hi] at h
    simp only [Option.map_some, Option.some.injEq, Prod.mk.injEq] at h
    exact ⟨i, rfl, h.1, h.2.1, h.2.2⟩
theorem zero26 : (Value.agg #[tx [], .int .i64 0, tx []]).cells.size = 3 := by kernel_rfl
/-- New memory of its own that holds these matchers. -/
def OwnM (w : World) (base : Nat) (v : Value) (l : List Mat) : Prop := w.ownsRow base 26 3 v l.length (cellsM l)
theorem OwnM.slice {w : World} {base : Nat} {v : Value} {l : List Mat} (h : OwnM w base v l) : ∃ ao cap, v = .slice ao l.length cap ∧ Ms w ao l.length l ∧ l.length ≤ cap := by
  rcases h.2 with ⟨rfl, h0⟩ | ⟨g, cap, cur, rfl, hb, hg, hn, _, hs, ht⟩
  · have : l = [] := List.length_eq_zero_iff.1 h0
    subst this
    exact ⟨none, 0, rfl, ⟨rfl, fun h => by simp at h⟩, Nat.le_refl _⟩
  · refine ⟨_, cap, rfl, ⟨rfl, fun _ => ⟨g, 0, rfl, fun j hj => ?_⟩⟩, hn⟩
    have e : ∀ i, i < l.length * 3 → w.cell? ⟨g, 0 + i, none⟩ = (cellsM l)[i]? := fun i hi => by
      rw [cell_of_row _ _ _ _ _ _ hg, ← ht, List.getElem?_take_of_lt hi, Nat.zero_add]
      exact (Array.getElem?_toList).symm
    obtain ⟨g1, g2, g3⟩ := cellsM_get hj
    exact ⟨(e _ (by omega)).trans g1, (e (j * 3 + 1) (by omega)).trans g2, (e (j * 3 + 2) (by omega)).trans g3⟩
theorem OwnM.later {w w' : World} {base : Nat} {v : Value} {l : List Mat} (h : OwnM w base v l) (hb : Below w.heap.size w w') : OwnM w' base v l := by
  refine ⟨h.1, ?_⟩
  rcases h.2 with h0 | ⟨g, cap, cur, hv, hg0, hg, hn, hm, hs, ht⟩
  · exact Or.inl h0
  · have hlt : g < w.heap.size := by
      by_cases hlt : g < w.heap.size
      · exact hlt
      · rw [Array.getElem?_eq_none (by omega)] at hg; cases hg
    exact Or.inr ⟨g, cap, cur, hv, hg0, (hb.block g hlt).trans hg, hn, hm, hs, ht⟩
theorem OwnM.nil (w : World) (base : Nat) : OwnM w base (.slice none 0 0) [] := ⟨rfl, Or.inl ⟨rfl, rfl⟩⟩
theorem Ms.cells {w : World} {ad : Addr} {n : Nat} {l : List Mat} (h : Ms w (some ad) n l) : ∀ j u, (cellsM l)[j]? = some u → w.cell? (ad.add j) = some u := by
  intro j u hu
  have hlen := h.1
  have hj : j < l.length * 3 := by
    by_cases hj : j < l.length * 3
    · exact hj
    · rw [List.getElem?_eq_none (by rw [cellsM_length]; omega)] at hu; cases hu
  obtain ⟨b, off, e, h4⟩ := h.2 (by omega)
  cases e
  rw [Addr.add_lit]
  have hjd : j / 3 < l.length := by omega
  obtain ⟨g1, g2, g3⟩ := cellsM_get hjd
  obtain ⟨k1, k2, k3⟩ := h4 (j / 3) (by omega)
  have hm : j % 3 = 0 ∨ j % 3 = 1 ∨ j % 3 = 2 := by omega
  rcases hm with hm | hm | hm
  · have e : j / 3 * 3 = j := by omega
    rw [e] at g1 k1
    rw [k1, ← hu, g1]
  · have e : j / 3 * 3 + 1 = j := by omega
    rw [Nat.add_assoc, e] at k2
    rw [e] at g2
    rw [k2, ← hu, g2]
  · have e : j / 3 * 3 + 2 = j := by omega
    rw [Nat.add_assoc, e] at k3
    rw [e] at g3
    rw [k3, ← hu, g3]
theorem srcM_none (w : World) (c : Nat) : Src Tryd.prog 3 22 (.slice none 0 c) 0 [] w := by
  refine ⟨Or.inl ⟨_, Tryd.underlying22⟩, fun w' => ?_, ?_, ?_, rfl, fun u hu => by cases hu⟩
  · simp [Builtin.lenOf]
  · exact run_firstCells_none w 3 0 0 c
  · exact run_firstCells_none w.drew 3 0 0 c
theorem appendM_none (w : World) (c : Nat) (ao : Option Addr) (N cap : Nat) (hle : N ≤ cap) (ty : TypeId) : (Builtin.append_ #[22, 22] ty #[.slice ao N cap, .slice none 0 c]).run Tryd.prog w = .ok (.slice ao N cap) w := by
  obtain ⟨i0, hi, hz0, hz1, hz2⟩ := info_parts26
  exact run_append_nothing w 22 22 ty 26 i0 Tryd.underlying22 hi ao N cap hle _ (by rw [hz1]; exact srcM_none w c)
/-- A row of matchers more, in a region that draws its order. -/
theorem step_appM {ops : Array Oper} {o : Oper} {a : Act} {W w0 : World} {K : Act → World → Prop} {Q : Exit → Act → World → Prop} {E : Prop} (s x : Operand) (d : Option Tmp)
    (ho : o.op = .call { callee := .builtin .append, args := #[s, x], argTypes := #[22, 22] }) (hd : o.dst = d) (hw : Region.wanted o (yielded ops a.tmps) = true)
    (base : Nat) (v : Value) (acc l : List Mat) (xa : Option Addr) (n c : Nat) (hs : a.eval s = v) (hx : a.eval x = .slice xa n c)
    (hown : OwnM W base v acc) (hps : Ms W xa n l) (hb : Below base w0 W) (hb0 : base ≤ w0.heap.size) (hN : acc.length + n ≤ 1000000)
    (h : ∀ v' w', OwnM w' base v' (acc ++ l) → Below base w0 w' → W.grownBy w' v.ownBlock → K (a.put d v') w') :
    if Region.wanted o (yielded ops a.tmps) = true then Oper.wp Tryd.prog o a W K Q else E := by
  subst hd
  rw [if_pos hw]
  obtain ⟨i0, hi, hz0, hz1, hz2⟩ := info_parts26
  cases xa with
  | none =>
    have h0 : n = 0 := by
      by_cases h : 0 < n
      · obtain ⟨_, _, e, _⟩ := hps.2 h; cases e
      · omega
    subst h0
    obtain rfl : l = [] := List.length_eq_zero_iff.1 hps.1
    obtain ⟨ao, cap, rfl, _, hle⟩ := hown.slice
    refine Lib.wp_append_run W s x 22 22 ho _ _ hs hx _ _ (appendM_none W c ao _ cap hle _) (h _ _ ?_ hb ?_)
    · rw [List.append_nil]
      exact hown
    · exact ⟨rfl, rfl, rfl, Nat.le_refl _, fun _ _ _ => rfl⟩
  | some ad =>
    refine wp_append_own W s x 22 ho base 26 i0 (.agg #[tx [], .int .i64 0, tx []]) 3 40 Tryd.underlying22 hi hz0 hz1 hz2 zero26 (by decide) v acc.length (cellsM acc) hs hown ad n c (cellsM l) hx (by rw [cellsM_length, hps.1]) hps.cells (cellsM_one _) (by unfold maxLen; omega) (by omega) (Nat.le_trans hb0 hb.size) ?_
    intro v' w' h2 h3 _
    refine h v' w' ?_ (hb.grown h3 (Nat.le_trans hb0 hb.size) (fun k hk => (World.ownsRow.lt hown k hk).1)) h3
    unfold OwnM
    rw [cellsM_append, List.length_append, hps.1]
    exact h2
end Go.Proofs.YtcalbghoacedhaaDoor
