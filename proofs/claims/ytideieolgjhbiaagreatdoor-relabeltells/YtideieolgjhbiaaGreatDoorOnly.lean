/- only: the pairs that are wanted, in new memory. -/
import Derived.Test.YtideieolgjhbiaaGreatDoorCmp
namespace Go.Proofs.YtideieolgjhbiaaGreatDoor
open Go.RowKit

/-- A slice's cells, one behind the other. -/
def cellsP (l : List Pr) : List Value := l.flatMap fun p => [tx p.1, tx p.2]
theorem cellsP_nil : cellsP [] = [] := rfl
theorem cellsP_cons (p : Pr) (l : List Pr) : cellsP (p :: l) = tx p.1 :: tx p.2 :: cellsP l := rfl
theorem cellsP_append (l m : List Pr) : cellsP (l ++ m) = cellsP l ++ cellsP m := by simp [cellsP]
theorem cellsP_length (l : List Pr) : (cellsP l).length = l.length * 2 := by
  induction l with
  | nil => rfl
  | cons p l ih => rw [cellsP_cons]; simp; omega
theorem cellsP_one (l : List Pr) : ∀ u ∈ cellsP l, u.oneCell' = true := by
  intro u hu
  induction l with
  | nil => cases hu
  | cons p l ih =>
    rw [cellsP_cons] at hu
    rcases List.mem_cons.1 hu with rfl | hu
    · rfl
    · rcases List.mem_cons.1 hu with rfl | hu
      · rfl
      · exact ih hu
theorem cellsP_get {l : List Pr} {j : Nat} (h : j < l.length) : (cellsP l)[j * 2]? = some (tx (l.getD j ([], [])).1) ∧ (cellsP l)[j * 2 + 1]? = some (tx (l.getD j ([], [])).2) := by
  induction l generalizing j with
  | nil => simp at h
  | cons p l ih =>
    rw [cellsP_cons]
    cases j with
    | zero => simp
    | succ j =>
      have := ih (j := j) (by simpa using h)
      have e : (j + 1) * 2 = j * 2 + 1 + 1 := by omega
      rw [e]
      simpa using this
theorem info35 : (Tryz.prog.info? 44).map (fun i => (i.zero, i.size, i.bytes)) = some (some (.agg #[tx [], tx []]), 2, 32) := by kernel_rfl
theorem info_parts35 : ∃ i, Tryz.prog.info? 44 = some i ∧ i.zero = some (.agg #[tx [], tx []]) ∧ i.size = 2 ∧ i.bytes = 32 := by
  have h := info35
  cases hi : Tryz.prog.info? 44 with
  | none => rw [hi] at h; cases h
  | some i =>
    rw [hi] at h
    simp only [Option.map_some, Option.some.injEq, Prod.mk.injEq] at h
    exact ⟨i, rfl, h.1, h.2.1, h.2.2⟩
theorem zero35 : (Value.agg #[tx [], tx []]).cells.size = 2 := by kernel_rfl
/-- New memory of its own that holds these pairs. -/
def Own (w : World) (base : Nat) (v : Value) (l : List Pr) : Prop := w.ownsRow base 44 2 v l.length (cellsP l)
theorem Own.slice {w : World} {base : Nat} {v : Value} {l : List Pr} (h : Own w base v l) : ∃ ao cap, v = .slice ao l.length cap ∧ Ps w ao l.length l ∧ l.length ≤ cap := by
  rcases h.2 with ⟨rfl, h0⟩ | ⟨g, cap, cur, rfl, hb, hg, hn, _, hs, ht⟩
  · have : l = [] := List.length_eq_zero_iff.1 h0
    subst this
    exact ⟨none, 0, rfl, Ps.nil _ _, Nat.le_refl _⟩
  · refine ⟨_, cap, rfl, ⟨rfl, fun _ => ⟨g, 0, rfl, fun j hj => ?_⟩⟩, hn⟩
    have e : ∀ i, i < l.length * 2 → w.cell? ⟨g, 0 + i, none⟩ = (cellsP l)[i]? := fun i hi => by
      rw [cell_of_row _ _ _ _ _ _ hg, ← ht, List.getElem?_take_of_lt hi, Nat.zero_add]
      exact (Array.getElem?_toList).symm
    obtain ⟨g1, g2⟩ := cellsP_get hj
    exact ⟨(e _ (by omega)).trans g1, (e (j * 2 + 1) (by omega)).trans g2⟩

theorem Own.later {w w' : World} {base : Nat} {v : Value} {l : List Pr} (h : Own w base v l) (hb : Below w.heap.size w w') : Own w' base v l := by
  refine ⟨h.1, ?_⟩
  rcases h.2 with h0 | ⟨g, cap, cur, hv, hg0, hg, hn, hm, hs, ht⟩
  · exact Or.inl h0
  · have hlt : g < w.heap.size := by
      by_cases hlt : g < w.heap.size
      · exact hlt
      · rw [Array.getElem?_eq_none (by omega)] at hg; cases hg
    exact Or.inr ⟨g, cap, cur, hv, hg0, (hb.block g hlt).trans hg, hn, hm, hs, ht⟩
theorem Box.cells {w : World} {b : Nat} {p : Pr} (h : Box w b p) : ∀ i u, (cellsP [p])[i]? = some u → w.cell? ((⟨b, 0, none⟩ : Addr).add i) = some u := by
  intro i u hu
  rw [Addr.add_lit, Nat.zero_add]
  match i, hu with
  | 0, hu => rw [h.c0]; exact hu
  | 1, hu => rw [h.c1]; exact hu
  | i + 2, hu => simp [cellsP] at hu
theorem Own.snoc {w : World} {base : Nat} {v : Value} {l : List Pr} {p : Pr} (h : w.ownsRow base 44 2 v (l.length + 1) (cellsP l ++ cellsP [p])) : Own w base v (l ++ [p]) := by
  unfold Own
  rw [cellsP_append, List.length_append]
  exact h
theorem take_filter_yes {l : List Pr} {f : Pr → Bool} {j : Nat} (hj : j < l.length) (h : f (l.getD j ([], [])) = true) : (l.take (j + 1)).filter f = (l.take j).filter f ++ [l.getD j ([], [])] := by
  rw [getD_at hj] at *
  rw [List.take_succ_eq_append_getElem hj, List.filter_append]
  simp [h]
theorem take_filter_no {l : List Pr} {f : Pr → Bool} {j : Nat} (hj : j < l.length) (h : f (l.getD j ([], [])) = false) : (l.take (j + 1)).filter f = (l.take j).filter f := by
  rw [getD_at hj] at *
  rw [List.take_succ_eq_append_getElem hj, List.filter_append]
  simp [h]

set_option maxHeartbeats 2000000 in
theorem only_any (xa : Option Addr) (n c : Nat) (l : List Pr) (g : Nat) (cb : Array Value) (f : Pr → Bool) (w : World) (hn : n ≤ 1000000) (hx : Ps w xa n l)
    (eg : ∀ args w, (callFunc g args).run Tryz.prog w = .ok (.enter g args) w)
    (hp : ∀ p W, Below w.heap.size w W → Calls Tryz.prog g (#[.agg #[tx p.1, tx p.2]] ++ cb) W fun e w' => e = .returned (.bool (f p)) ∧ Below W.heap.size W w') :
    Calls Tryz.prog 54 #[.slice xa n c, .func (.func g) #[] cb] w fun e w' => ∃ v, e = .returned v ∧ Own w' w.heap.size v (l.filter f) ∧ Below w.heap.size w w' := by
  obtain ⟨i0, hi, hz0, hz1, hz2⟩ := info_parts35
  obtain ⟨hla, hca⟩ := hx
  have HA : Hid (l.length = n) := hla
  clear hla
  have HP : Aside _ := hp
  clear hp
  go_enter Tryz.func54, Tryz.ntmps54
  go_wp2
  go_loopw [11, 5] (fun i v wr => ∃ j : Nat, j ≤ n ∧ i = .int .i64 j ∧ Own wr w.heap.size v ((l.take j).filter f) ∧ Below w.heap.size w wr) (fun i _ _ => n - (intOf i).toNat)
  case atStart => exact ⟨0, by omega, rfl, World.ownsRow_made w #[] 0 (Nat.le_refl _) (Nat.zero_le _) (by simp), bal (Below.refl _ _) _⟩
  case round =>
    obtain ⟨j, hj, rfl, ho, hb⟩ := hrel
    by_cases hlt : j < n
    · obtain ⟨b1, o1, rfl, h1⟩ := hca (by omega)
      obtain ⟨c10, c11⟩ := h1 j hlt
      have k0 := (hb.cell (p := ⟨b1, o1 + j * 2, none⟩) (World.block_lt_of_cell? _ _ c10)).trans c10
      have k1 := (hb.cell (p := ⟨b1, o1 + j * 2 + 1, none⟩) (World.block_lt_of_cell? _ _ c11)).trans c11
      have hlt' : j < l.length := by rw [HA.out]; exact hlt
      have HY : Hid _ := take_filter_yes (f := f) hlt'
      have HN : Hid _ := take_filter_no (f := f) hlt'
      have hle : ((l.take j).filter f).length ≤ j := Nat.le_trans (List.length_filter_le _ _) (List.length_take_le _ _)
      clear h1 hca c10 c11 hlt'
      generalize l.getD j ([], []) = p at *
      have hbx := Box.new wr p
      have hb1 := bal hb (.cells #[tx p.1, tx p.2] 44)
      have ho1 := ho.later (bal (Below.refl _ _) (.cells #[tx p.1, tx p.2] 44))
      cases hfp : f p with
      | false =>
        have HN' := HN.out hfp
        have HN2 : Hid _ := HN'
        clear HN HY HN'
        go_wp2_with (go_at_fn g; refine (HP.out p _ hb1).mono ?_; rw [hfp]; rintro e w1 ⟨rfl, hb2⟩)
        go_roundw
        case rel => exact ⟨j + 1, by omega, by go_num, by rw [HN2.out]; exact ho1.later hb2, Below.chain hb1 hb2⟩
        case measure => simp [intOf]; omega
      | true =>
        have HN' := HY.out hfp
        have HN2 : Hid _ := HN'
        clear HN HY HN'
        go_wp2_with (first | (go_at_fn g; refine (HP.out p _ hb1).mono ?_; rw [hfp]; rintro e w1 ⟨rfl, hb2⟩; obtain ⟨d0, d1, _, _⟩ := hbx.later hb2; have ho3 := (ho1.later hb2).later (bal (Below.refl _ _) (.cells #[tx p.1, tx p.2] 44)); have hbx3 := Box.new w1 p) | (at_builtin; go_must (refine wpList_append_own _ rfl _ _ 22 rfl w.heap.size 44 i0 (.agg #[tx [], tx []]) 2 32 Tryz.underlying22 hi hz0 hz1 hz2 zero35 (by decide) _ _ _ rfl ho3 ⟨w1.heap.size, 0, none⟩ 1 1 (cellsP [p]) rfl rfl ?hnews (cellsP_one _) ?h63 ?hby ?hbs ?_)))
        case hnews => exact fun i u hu => hbx3.cells i u hu
        case h63 => unfold maxLen; omega
        case hby => omega
        case hbs => exact (bal (Below.chain hb1 hb2) _).size
        intro v' w2 ho4 hg4 _
        go_wp2
        go_roundw
        case rel => exact ⟨j + 1, by omega, by go_num, by rw [HN2.out]; exact Own.snoc ho4, (bal (Below.chain hb1 hb2) _).grown hg4 (bal (Below.chain hb1 hb2) _).size (fun k hk => (World.ownsRow.lt ho3 k hk).1)⟩
        case measure => simp [intOf]; omega
    · have HR : Hid ((l.take j).filter f = l.filter f) := by show _ = _; rw [List.take_of_length_le (by rw [HA.out]; omega)]
      rw [HR.out] at ho
      go_wp2
      go_ret
      exact ⟨_, rfl, ho, hb⟩
end Go.Proofs.YtideieolgjhbiaaGreatDoor
