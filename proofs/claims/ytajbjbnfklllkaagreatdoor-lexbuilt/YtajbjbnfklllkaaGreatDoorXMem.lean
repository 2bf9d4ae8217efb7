/- Tokens in memory: in a block of their own, in a slice; what stays while other blocks grow; what the library's variables hold. -/
import Derived.Test.YtajbjbnfklllkaaGreatDoorBaseA
import Derived.Test.YtajbjbnfklllkaaGreatDoorBaseF
import Derived.Test.YtajbjbnfklllkaaGreatDoorXPlain
import Derived.Test.YtajbjbnfklllkaaGreatDoorXShelf
namespace Go.Proofs.YtajbjbnfklllkaaGreatDoor
open Go.RowKit

theorem grown_set (W : World) (b o : Nat) (v : Value) : W.grownBy (W.setCell ⟨b, o, none⟩ v) (some b) := ⟨rfl, rfl, rfl, by simp [World.setCell], fun k _ hne => Below.heap_setCell _ _ _ _ (fun e => hne (by rw [e]))⟩
theorem grown_below {w w' : World} (h : Below w.heap.size w w') (row : Option Nat) : w.grownBy w' row := ⟨h.os, h.tape, h.output, h.size, fun k hk _ => h.block k hk⟩
theorem grown_cell {w w' : World} {row : Option Nat} (hg : w.grownBy w' row) {b o : Nat} {v : Value} (h : w.cell? ⟨b, o, none⟩ = some v) (hne : some b ≠ row) : w'.cell? ⟨b, o, none⟩ = some v := hg.cell h hne
theorem grown_frozen {w w' : World} {row : Option Nat} (hg : w.grownBy w' row) {b o : Nat} (hb : b < w.heap.size) (h : w.frozen? ⟨b, o, none⟩ = false) (hne : some b ≠ row) : w'.frozen? ⟨b, o, none⟩ = false :=
  (World.frozen?_of_block (a := ⟨b, o, none⟩) (hg.block b hb hne)).trans h

/-! ### What the library's variables hold -/
def Sent (w : World) (g : Nat) : Prop := ∃ ev, w.cell? ⟨g, 0, none⟩ = some ev ∧ (ev = .nilIface ∨ ∃ te pe, ev = .iface te pe)
theorem Sent.later {w w' : World} {g : Nat} (h : Sent w g) (hb : Below w.heap.size w w') : Sent w' g := by
  obtain ⟨ev, h1, h2⟩ := h
  exact ⟨ev, (hb.cell (p := ⟨g, 0, none⟩) (World.block_lt_of_cell? _ _ h1)).trans h1, h2⟩
structure Ev (w : World) : Prop where
  mx : Mx w
  e2 : Sent w 4
  e3 : Sent w 5
  tab : Fx.Tab Tryz.prog w
theorem Ev.later {w w' : World} (h : Ev w) (hb : Below w.heap.size w w') : Ev w' := ⟨h.mx.later hb, h.e2.later hb, h.e3.later hb, h.tab.later hb⟩

/-! ### A token in a block of its own -/
abbrev tv (x : Tk) : Value := .agg #[.int .i64 x.k, .int .i64 x.p, tx x.t, .bool x.o, .int .i64 x.n, .int .i64 x.d]
abbrev tcs (x : Tk) : Array Value := #[.int .i64 x.k, .int .i64 x.p, tx x.t, .bool x.o, .int .i64 x.n, .int .i64 x.d]
structure BoxT (w : World) (b : Nat) (x : Tk) : Prop where
  c0 : w.cell? ⟨b, 0, none⟩ = some (.int .i64 x.k)
  c1 : w.cell? ⟨b, 1, none⟩ = some (.int .i64 x.p)
  c2 : w.cell? ⟨b, 2, none⟩ = some (tx x.t)
  c3 : w.cell? ⟨b, 3, none⟩ = some (.bool x.o)
  c4 : w.cell? ⟨b, 4, none⟩ = some (.int .i64 x.n)
  c5 : w.cell? ⟨b, 5, none⟩ = some (.int .i64 x.d)
  f0 : w.frozen? ⟨b, 0, none⟩ = false
  f1 : w.frozen? ⟨b, 1, none⟩ = false
  f2 : w.frozen? ⟨b, 2, none⟩ = false
  f3 : w.frozen? ⟨b, 3, none⟩ = false
  f4 : w.frozen? ⟨b, 4, none⟩ = false
  f5 : w.frozen? ⟨b, 5, none⟩ = false
theorem BoxT.new (w : World) (x : Tk) : BoxT (w.alloc (.cells (tcs x) 36)) w.heap.size x := by
  constructor <;> simp [go_sem]
theorem BoxT.new0 (w : World) : BoxT (w.alloc (.cells #[.int .i64 0, .int .i64 0, .string ⟨#[]⟩, .bool false, .int .i64 0, .int .i64 0] 36)) w.heap.size tk0 := by
  constructor <;> simp [go_sem, tk0]
theorem BoxT.kept {w w' : World} {row : Option Nat} {b : Nat} {x : Tk} (h : BoxT w b x) (hg : w.grownBy w' row) (hne : some b ≠ row) : BoxT w' b x := by
  have hl : b < w.heap.size := World.block_lt_of_cell? _ _ h.c0
  exact ⟨grown_cell hg h.c0 hne, grown_cell hg h.c1 hne, grown_cell hg h.c2 hne, grown_cell hg h.c3 hne, grown_cell hg h.c4 hne, grown_cell hg h.c5 hne, grown_frozen hg hl h.f0 hne, grown_frozen hg hl h.f1 hne, grown_frozen hg hl h.f2 hne, grown_frozen hg hl h.f3 hne, grown_frozen hg hl h.f4 hne, grown_frozen hg hl h.f5 hne⟩
theorem BoxT.later {w w' : World} {b : Nat} {x : Tk} (h : BoxT w b x) (hb : Below w.heap.size w w') : BoxT w' b x := h.kept (grown_below hb none) (by simp)
theorem BoxT.lt {w : World} {b : Nat} {x : Tk} (h : BoxT w b x) : b < w.heap.size := World.block_lt_of_cell? _ _ h.c0
abbrev set6 (w : World) (b : Nat) (v0 v1 v2 v3 v4 v5 : Value) : World := (((((w.setCell ⟨b, 0, none⟩ v0).setCell ⟨b, 1, none⟩ v1).setCell ⟨b, 2, none⟩ v2).setCell ⟨b, 3, none⟩ v3).setCell ⟨b, 4, none⟩ v4).setCell ⟨b, 5, none⟩ v5
theorem grown6 (w : World) (b : Nat) (v0 v1 v2 v3 v4 v5 : Value) : w.grownBy (set6 w b v0 v1 v2 v3 v4 v5) (some b) :=
  (((((grown_set _ _ _ _).trans (grown_set _ _ _ _)).trans (grown_set _ _ _ _)).trans (grown_set _ _ _ _)).trans (grown_set _ _ _ _)).trans (grown_set _ _ _ _)
theorem below6 {a w : World} {b : Nat} (h : Below a.heap.size a w) (hb : a.heap.size ≤ b) (v0 v1 v2 v3 v4 v5 : Value) : Below a.heap.size a (set6 w b v0 v1 v2 v3 v4 v5) :=
  (((((h.setCell (p := ⟨b, 0, none⟩) hb v0).setCell (p := ⟨b, 1, none⟩) hb v1).setCell (p := ⟨b, 2, none⟩) hb v2).setCell (p := ⟨b, 3, none⟩) hb v3).setCell (p := ⟨b, 4, none⟩) hb v4).setCell (p := ⟨b, 5, none⟩) hb v5

/-! ### Slices of tokens -/
def six (x : Tk) : List Value := [.int .i64 x.k, .int .i64 x.p, tx x.t, .bool x.o, .int .i64 x.n, .int .i64 x.d]
def cellsT (l : List Tk) : List Value := l.flatMap six
theorem cellsT_append (l m : List Tk) : cellsT (l ++ m) = cellsT l ++ cellsT m := by simp [cellsT]
theorem cellsT_length (l : List Tk) : (cellsT l).length = l.length * 6 := by
  induction l with
  | nil => rfl
  | cons p l ih =>
    have e : cellsT (p :: l) = six p ++ cellsT l := rfl
    rw [e, List.length_append, ih, List.length_cons]
    show 6 + _ = _
    omega
theorem cellsT_one (l : List Tk) : ∀ u ∈ cellsT l, u.oneCell' = true := by
  intro u hu
  obtain ⟨x, _, hx⟩ := List.mem_flatMap.1 hu
  unfold six at hx
  simp only [List.mem_cons, List.not_mem_nil, or_false] at hx
  rcases hx with rfl | rfl | rfl | rfl | rfl | rfl <;> rfl
theorem six_at (x : Tk) : (six x)[0]? = some (.int .i64 x.k) ∧ (six x)[1]? = some (.int .i64 x.p) ∧ (six x)[2]? = some (tx x.t) ∧ (six x)[3]? = some (.bool x.o) ∧ (six x)[4]? = some (.int .i64 x.n) ∧ (six x)[5]? = some (.int .i64 x.d) := ⟨rfl, rfl, rfl, rfl, rfl, rfl⟩
theorem cellsT_at : ∀ (l : List Tk) (j i : Nat), j < l.length → i < 6 → (cellsT l)[j * 6 + i]? = (six (l.getD j tk0))[i]?
  | [], j, i, h, _ => by simp at h
  | x :: l, 0, i, _, hi => by
    show (six x ++ cellsT l)[0 * 6 + i]? = _
    rw [List.getElem?_append_left (by show 0 * 6 + i < 6; omega), Nat.zero_mul, Nat.zero_add]
    rfl
  | x :: l, j + 1, i, h, hi => by
    show (six x ++ cellsT l)[(j + 1) * 6 + i]? = _
    rw [List.getElem?_append_right (by show 6 ≤ _; omega)]
    have e : (j + 1) * 6 + i - (six x).length = j * 6 + i := by show _ - 6 = _; omega
    rw [e, cellsT_at l j i (by simpa using h) hi]
    rfl
def OwnT (w : World) (base : Nat) (v : Value) (l : List Tk) : Prop := w.ownsRow base 36 6 v l.length (cellsT l)
theorem info36 : (Tryz.prog.info? 36).map (fun i => (i.zero, i.size, i.bytes)) = some (some (.agg #[.int .i64 0, .int .i64 0, .string ⟨#[]⟩, .bool false, .int .i64 0, .int .i64 0]), 6, 56) := by kernel_rfl
theorem info_parts36 : ∃ i, Tryz.prog.info? 36 = some i ∧ i.zero = some (.agg #[.int .i64 0, .int .i64 0, .string ⟨#[]⟩, .bool false, .int .i64 0, .int .i64 0]) ∧ i.size = 6 ∧ i.bytes = 56 := by
  have h := info36
  cases hi : Tryz.prog.info? 36 with
  | none => rw [hi] at h; cases h
  | some i =>
    rw [hi] at h
    simp only [Option.map_some, Option.some.injEq, Prod.mk.injEq] at h
    exact ⟨i, rfl, h.1, h.2.1, h.2.2⟩
theorem zero36 : (Value.agg #[.int .i64 0, .int .i64 0, .string ⟨#[]⟩, .bool false, .int .i64 0, .int .i64 0]).cells.size = 6 := by kernel_rfl
theorem OwnT.later {w w' : World} {base : Nat} {v : Value} {l : List Tk} (h : OwnT w base v l) (hb : Below w.heap.size w w') : OwnT w' base v l := by
  refine ⟨h.1, ?_⟩
  rcases h.2 with h0 | ⟨g, cap, cur, hv, hg0, hg, hn, hm, hs, ht⟩
  · exact Or.inl h0
  · have hlt : g < w.heap.size := by
      by_cases hlt : g < w.heap.size
      · exact hlt
      · rw [Array.getElem?_eq_none (by omega)] at hg; cases hg
    exact Or.inr ⟨g, cap, cur, hv, hg0, (hb.block g hlt).trans hg, hn, hm, hs, ht⟩
theorem OwnT.kept {w w' : World} {row : Option Nat} {base : Nat} {v : Value} {l : List Tk} (h : OwnT w base v l) (hg : w.grownBy w' row) (hne : ∀ b, v.ownBlock = some b → some b ≠ row) : OwnT w' base v l := by
  refine World.ownsRow.kept h hg ?_
  cases e : v.ownBlock with
  | none => exact Or.inl rfl
  | some b => exact Or.inr (hne b e)
theorem OwnT.snoc {w : World} {base : Nat} {v : Value} {l : List Tk} {x : Tk} (h : w.ownsRow base 36 6 v (l.length + 1) (cellsT l ++ cellsT [x])) : OwnT w base v (l ++ [x]) := by
  unfold OwnT
  rw [cellsT_append, List.length_append]
  exact h
theorem OwnT.nil (w : World) (base : Nat) : OwnT w base (.slice none 0 0) [] := ⟨rfl, Or.inl ⟨rfl, rfl⟩⟩
theorem OwnT.made (w : World) : OwnT (w.alloc (.cells #[] 36)) w.heap.size (.slice (some ⟨w.heap.size, 0, none⟩) 0 0) [] := World.ownsRow_made w #[] 0 (Nat.le_refl _) (Nat.zero_le _) (by simp)
/-- A slice of tokens: as many as are told. -/
def Ts (w : World) (ao : Option Addr) (n : Nat) (l : List Tk) : Prop :=
  l.length = n ∧ (0 < n → ∃ b off, ao = some ⟨b, off, none⟩ ∧ ∀ j, j < n → ∀ i, i < 6 → w.cell? ⟨b, off + j * 6 + i, none⟩ = (six (l.getD j tk0))[i]?)
theorem Ts.nil (w : World) (ao : Option Addr) : Ts w ao 0 [] := ⟨rfl, fun h => by omega⟩
theorem Ts.later {w w' : World} {ao : Option Addr} {n : Nat} {l : List Tk} (h : Ts w ao n l) (hb : Below w.heap.size w w') : Ts w' ao n l := by
  obtain ⟨h1, h4⟩ := h
  refine ⟨h1, fun hp => ?_⟩
  obtain ⟨b, off, e, hc⟩ := h4 hp
  refine ⟨b, off, e, fun j hj i hi => ?_⟩
  have h0 := hc j hj 0 (by omega)
  rw [(six_at _).1] at h0
  have hlt : b < w.heap.size := World.block_lt_of_cell? _ _ h0
  rw [← hc j hj i hi]
  exact hb.cell (p := ⟨b, off + j * 6 + i, none⟩) hlt
theorem Ts.at {w : World} {b off n : Nat} {l : List Tk} (h : Ts w (some ⟨b, off, none⟩) n l) (j : Nat) (hj : j < n) :
    w.cell? ⟨b, off + j * 6, none⟩ = some (.int .i64 (l.getD j tk0).k) ∧ w.cell? ⟨b, off + j * 6 + 1, none⟩ = some (.int .i64 (l.getD j tk0).p) ∧ w.cell? ⟨b, off + j * 6 + 2, none⟩ = some (tx (l.getD j tk0).t) ∧ w.cell? ⟨b, off + j * 6 + 3, none⟩ = some (.bool (l.getD j tk0).o) ∧ w.cell? ⟨b, off + j * 6 + 4, none⟩ = some (.int .i64 (l.getD j tk0).n) ∧ w.cell? ⟨b, off + j * 6 + 5, none⟩ = some (.int .i64 (l.getD j tk0).d) := by
  obtain ⟨b', off', e, hc⟩ := h.2 (by omega)
  injection e with e
  injection e with e1 e2 _
  subst e1 e2
  have h := hc j hj
  exact ⟨h 0 (by omega), h 1 (by omega), h 2 (by omega), h 3 (by omega), h 4 (by omega), h 5 (by omega)⟩
theorem OwnT.slice {w : World} {base : Nat} {v : Value} {l : List Tk} (h : OwnT w base v l) : ∃ ao cap, v = .slice ao l.length cap ∧ Ts w ao l.length l ∧ l.length ≤ cap ∧ ∀ a, ao = some a → ∃ g, a = ⟨g, 0, none⟩ ∧ base ≤ g ∧ g < w.heap.size := by
  rcases h.2 with ⟨rfl, h0⟩ | ⟨g, cap, cur, rfl, hb, hg, hn, _, hs, ht⟩
  · have : l = [] := List.length_eq_zero_iff.1 h0
    subst this
    exact ⟨none, 0, rfl, Ts.nil _ _, Nat.le_refl _, fun a e => by cases e⟩
  · have hlt : g < w.heap.size := by
      by_cases hlt : g < w.heap.size
      · exact hlt
      · rw [Array.getElem?_eq_none (by omega)] at hg; cases hg
    refine ⟨_, cap, rfl, ⟨rfl, fun _ => ⟨g, 0, rfl, fun j hj i hi => ?_⟩⟩, hn, fun a e => by injection e with e; exact ⟨g, e.symm, hb, hlt⟩⟩
    rw [cell_of_row _ _ _ _ _ _ hg, Nat.zero_add]
    have e : (cur.toList.take (l.length * 6))[j * 6 + i]? = (cellsT l)[j * 6 + i]? := by rw [ht]
    rw [List.getElem?_take_of_lt (by omega)] at e
    rw [← Array.getElem?_toList, e, cellsT_at l j i hj hi]
theorem six_cells {w : World} {b : Nat} {x : Tk} (h : BoxT w b x) : ∀ j u, (cellsT [x])[j]? = some u → w.cell? ((⟨b, 0, none⟩ : Addr).add j) = some u := by
  intro j u hu
  rw [Addr.add_lit, Nat.zero_add]
  have e : cellsT [x] = six x := by simp [cellsT]
  rw [e] at hu
  match j, hu with
  | 0, hu => rw [h.c0]; exact hu
  | 1, hu => rw [h.c1]; exact hu
  | 2, hu => rw [h.c2]; exact hu
  | 3, hu => rw [h.c3]; exact hu
  | 4, hu => rw [h.c4]; exact hu
  | 5, hu => rw [h.c5]; exact hu
  | j + 6, hu => simp [six] at hu
end Go.Proofs.YtajbjbnfklllkaaGreatDoor
