/- Slices of texts that grow. -/
import Derived.Test.YtcbjhfnlhpallaaGreatDoorKeep
import Derived.Test.YtcbjhfnlhpallaaGreatDoorHeldA
namespace Go.Proofs.YtcbjhfnlhpallaaGreatDoor
open Go.RowKit

/-! ### Slices of texts that grow -/
def OwnS (w : World) (base : Nat) (v : Value) (l : List Str) : Prop := w.ownsRow base 9 1 v l.length (l.map tx)
theorem info9 : (Tryz.prog.info? 9).map (fun i => (i.zero, i.size, i.bytes)) = some (some (tx []), 1, 16) := by kernel_rfl
theorem info_parts9 : ∃ i, Tryz.prog.info? 9 = some i ∧ i.zero = some (tx []) ∧ i.size = 1 ∧ i.bytes = 16 := by
  have h := info9
  cases hi : Tryz.prog.info? 9 with
  | none => rw [hi] at h; cases h
  | some i =>
    rw [hi] at h
    simp only [Option.map_some, Option.some.injEq, Prod.mk.injEq] at h
    exact ⟨i, rfl, h.1, h.2.1, h.2.2⟩
theorem OwnS.later {w w' : World} {base : Nat} {v : Value} {l : List Str} (h : OwnS w base v l) (hb : Below w.heap.size w w') : OwnS w' base v l := by
  refine ⟨h.1, ?_⟩
  rcases h.2 with h0 | ⟨g, cap, cur, hv, hg0, hg, hn, hm, hs, ht⟩
  · exact Or.inl h0
  · have hlt : g < w.heap.size := by
      by_cases hlt : g < w.heap.size
      · exact hlt
      · rw [Array.getElem?_eq_none (by omega)] at hg; cases hg
    exact Or.inr ⟨g, cap, cur, hv, hg0, (hb.block g hlt).trans hg, hn, hm, hs, ht⟩
theorem OwnS.snoc {w : World} {base : Nat} {v : Value} {l : List Str} {p : Str} (h : w.ownsRow base 9 1 v (l.length + 1) (l.map tx ++ [tx p])) : OwnS w base v (l ++ [p]) := by
  unfold OwnS
  rw [List.map_append, List.length_append]
  exact h
theorem OwnS.slice {w : World} {base : Nat} {v : Value} {l : List Str} (h : OwnS w base v l) : ∃ ao cap, v = .slice ao l.length cap ∧ Ss w ao l.length l ∧ l.length ≤ cap ∧ (0 < l.length → ∃ g, ao = some ⟨g, 0, none⟩ ∧ g < w.heap.size) := by
  rcases h.2 with ⟨rfl, h0⟩ | ⟨g, cap, cur, rfl, hb, hg, hn, _, hs, ht⟩
  · have : l = [] := List.length_eq_zero_iff.1 h0
    subst this
    exact ⟨none, 0, rfl, Ss.nil _ _, Nat.le_refl _, fun h => by simp at h⟩
  · have hlt : g < w.heap.size := by
      by_cases hlt : g < w.heap.size
      · exact hlt
      · rw [Array.getElem?_eq_none (by omega)] at hg; cases hg
    refine ⟨_, cap, rfl, ⟨rfl, fun _ => ⟨g, 0, rfl, fun j hj => ?_⟩⟩, hn, fun _ => ⟨g, rfl, hlt⟩⟩
    rw [cell_of_row _ _ _ _ _ _ hg, Nat.zero_add]
    have e : (cur.toList.take (l.length * 1))[j]? = (l.map tx)[j]? := by rw [ht]
    rw [List.getElem?_take_of_lt (by omega)] at e
    rw [← Array.getElem?_toList, e]
    simp [List.getD, List.getElem?_eq_getElem hj]
theorem step_append {ops : Array Oper} {o : Oper} {a : Act} {W : World} {K : Act → World → Prop} {Q : Exit → Act → World → Prop} {E : Prop} (s x : Operand) (d : Option Tmp) (t : TypeId)
    (ho : o.op = .call { callee := .builtin .append, args := #[s, x], argTypes := #[t, t] }) (hd : o.dst = d) (hw : Region.wanted o (yielded ops a.tmps) = true)
    (base : Nat) (e : TypeId) (i : TypeInfo) (z : Value) (size bytes : Nat) (ht : Tryz.prog.underlying t = some (.slice e)) (hi : Tryz.prog.info? e = some i) (hz : i.zero = some z)
    (hsize : i.size = size) (hby : i.bytes = bytes) (hzs : z.cells.size = size) (hsz : 0 < size)
    (v : Value) (n : Nat) (xs : List Value) (hs : a.eval s = v) (hown : W.ownsRow base e size v n xs)
    (ad : Addr) (m c : Nat) (news : List Value) (hx : a.eval x = .slice (some ad) m c) (hl : news.length = m * size) (hnews : ∀ j u, news[j]? = some u → W.cell? (ad.add j) = some u) (h1 : ∀ u ∈ news, u.oneCell' = true)
    (h63 : n + m ≤ maxLen) (hbytes : (n + m) * bytes ≤ 140737488355328) (hbase : base ≤ W.heap.size)
    (h : ∀ v' w', w'.ownsRow base e size v' (n + m) (xs ++ news) → W.grownBy w' v.ownBlock → K (a.put d v') w') :
    if Region.wanted o (yielded ops a.tmps) = true then Oper.wp Tryz.prog o a W K Q else E := by
  subst hd
  rw [if_pos hw]
  exact wp_append_own W s x t ho base e i z size bytes ht hi hz hsize hby hzs hsz v n xs hs hown ad m c news hx hl hnews h1 h63 hbytes hbase fun v' w' h2 h3 _ => h v' w' h2 h3
end Go.Proofs.YtcbjhfnlhpallaaGreatDoor
