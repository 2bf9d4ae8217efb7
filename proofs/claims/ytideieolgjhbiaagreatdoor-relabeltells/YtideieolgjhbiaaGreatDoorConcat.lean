/- slices.Grow of nil, slices.Concat of two rows of pairs. -/
import Derived.Test.YtideieolgjhbiaaGreatDoorMake
import Derived.Lib.AppendZerosOnto
import Derived.Deep.Upon
namespace Go.Proofs.YtideieolgjhbiaaGreatDoor
open Go.RowKit

theorem below_drew {w : World} : Below w.heap.size w w.drew := (Below.refl _ _).drew
set_option maxRecDepth 100000 in
set_option maxHeartbeats 1000000 in
theorem grow_any (n : Nat) (w : World) (hn : n ≤ 1000000) :
    Calls Tryz.prog 68 #[.slice none 0 0, .int .i64 n] w fun e w' => ∃ v, e = .returned v ∧ Own w' w.heap.size v [] ∧ Below w.heap.size w w' := by
  obtain ⟨i0, hi, hz0, hz1, hz2⟩ := info_parts35
  have h1 : ¬ ((n : Int) < 0) := by omega
  by_cases h0 : n = 0
  · subst h0
    go_enter Tryz.func68, Tryz.ntmps68
    go_wp2
    go_ret
    exact ⟨_, rfl, Own.none _ _, Below.refl _ _⟩
  · have h4 : (n : Int) > 0 := by omega
    have hrz : ∀ ty, (Builtin.append_ #[22, 3] ty #[.slice none 0 0, .int .i64 n]).run Tryz.prog w =
        .ok (.slice (some ⟨w.heap.size, 0, none⟩) n (grownCap w n 0 44)) (w.drew.alloc (.cells (Builtin.zeroCells (Value.agg #[tx [], tx []]).cells n ++ Builtin.zeroCells (Value.agg #[tx [], tx []]).cells (grownCap w n 0 44 - n)) 44)) := fun ty =>
      Lib.run_append_nil_zeros w 22 3 ty 44 i0 (.agg #[tx [], tx []]) .i64 .i64 Tryz.underlying22 Tryz.underlying3 hi hz0 n (by omega) (by omega) (by omega) (by rw [hz2]; omega)
    have hGn : n ≤ grownCap w n 0 44 := grownCap_ge w _ _ _
    have hG63 : grownCap w n 0 44 ≤ maxLen := grownCap_le_maxLen w n 0 44 (by unfold maxLen; omega)
    have hsz : (Builtin.zeroCells (Value.agg #[tx [], tx []]).cells n ++ Builtin.zeroCells (Value.agg #[tx [], tx []]).cells (grownCap w n 0 44 - n)).size = grownCap w n 0 44 * 2 := by
      simp [size_zeroCells, Value.cells]; omega
    generalize grownCap w n 0 44 = G at *
    generalize Builtin.zeroCells (Value.agg #[tx [], tx []]).cells n ++ Builtin.zeroCells (Value.agg #[tx [], tx []]).cells (G - n) = cur at *
    have hG63' : (G : Int) ≤ 9223372036854775807 := by unfold maxLen at hG63; omega
    have ho0 : Own (w.alloc (.cells cur 44)) w.heap.size (.slice (some ⟨w.heap.size, 0, none⟩) 0 G) [] := World.ownsRow_made w cur G (Nat.le_refl _) hG63 hsz
    have ho := ho0.later below_drew
    have hbo : Below w.heap.size w (w.alloc (.cells cur 44)).drew := Below.chain (bal (Below.refl _ _) _) below_drew
    clear ho0
    have HO : Hid _ := ho
    clear ho hsz hi hz0 hz1 hz2 hG63
    go_enter Tryz.func68, Tryz.ntmps68
    go_wp2_with (at_builtin; refine Lib.wpList_append_run _ rfl _ _ _ _ rfl _ _ rfl rfl _ _ (hrz _) ?_)
    go_ret
    exact ⟨_, rfl, HO.out, hbo⟩

theorem src_none (w : World) (c : Nat) : Src Tryz.prog 2 22 (.slice none 0 c) 0 [] w := by
  refine ⟨Or.inl ⟨_, Tryz.underlying22⟩, fun w' => ?_, ?_, ?_, rfl, fun u hu => by cases hu⟩
  · simp [Builtin.lenOf]
  · exact run_firstCells_none w 2 0 0 c
  · exact run_firstCells_none w.drew 2 0 0 c
theorem append_none (w : World) (c : Nat) (ao : Option Addr) (N cap : Nat) (hle : N ≤ cap) (ty : TypeId) : (Builtin.append_ #[22, 22] ty #[.slice ao N cap, .slice none 0 c]).run Tryz.prog w = .ok (.slice ao N cap) w := by
  obtain ⟨i0, hi, hz0, hz1, hz2⟩ := info_parts35
  exact run_append_nothing w 22 22 ty 44 i0 Tryz.underlying22 hi ao N cap hle _ (by rw [hz1]; exact src_none w c)
theorem Ps.cells {w : World} {ad : Addr} {n : Nat} {l : List Pr} (h : Ps w (some ad) n l) : ∀ j u, (cellsP l)[j]? = some u → w.cell? (ad.add j) = some u := by
  intro j u hu
  have hlen := h.1
  have hj : j < l.length * 2 := by
    by_cases hj : j < l.length * 2
    · exact hj
    · rw [List.getElem?_eq_none (by rw [cellsP_length]; omega)] at hu; cases hu
  obtain ⟨b, off, e, h4⟩ := h.2 (by omega)
  cases e
  rw [Addr.add_lit]
  have hjd : j / 2 < l.length := by omega
  obtain ⟨g1, g2⟩ := cellsP_get hjd
  obtain ⟨k1, k2⟩ := h4 (j / 2) (by omega)
  rcases Nat.mod_two_eq_zero_or_one j with hm | hm
  · have e : j / 2 * 2 = j := by omega
    rw [e] at g1 k1
    rw [k1, ← hu, g1]
  · have e : j / 2 * 2 + 1 = j := by omega
    rw [Nat.add_assoc, e] at k2
    rw [e] at g2
    rw [k2, ← hu, g2]

theorem wp_app {w w0 : World} {ops : Array Oper} {rest : List Oper} {o : Oper} {a : Act} {Q : Exit → Act → World → Prop} (hgd : o.guard = none) (s x : Operand)
    (ho : o.op = .call { callee := .builtin .append, args := #[s, x], argTypes := #[22, 22] }) (base : Nat) (v : Value) (acc l : List Pr) (xa : Option Addr) (n c : Nat) (hs : a.eval s = v) (hx : a.eval x = .slice xa n c)
    (hown : Own w base v acc) (hps : Ps w xa n l) (hb : Below base w0 w) (hb0 : base ≤ w0.heap.size) (hN : acc.length + n ≤ 1000000)
    (h : ∀ v' w', Own w' base v' (acc ++ l) → Below base w0 w' → wpList Tryz.prog ops Q rest (a.put o.dst v') w') : wpList Tryz.prog ops Q (o :: rest) a w := by
  obtain ⟨i0, hi, hz0, hz1, hz2⟩ := info_parts35
  cases xa with
  | none =>
    have h0 : n = 0 := by
      by_cases h : 0 < n
      · obtain ⟨_, _, e, _⟩ := hps.2 h; cases e
      · omega
    subst h0
    obtain rfl : l = [] := List.length_eq_zero_iff.1 hps.1
    obtain ⟨ao, cap, rfl, _, hle⟩ := hown.slice
    refine Lib.wpList_append_run w hgd s x 22 22 ho _ _ hs hx _ _ (append_none w c ao _ cap hle _) (h _ _ ?_ hb)
    rw [List.append_nil]
    exact hown
  | some ad =>
    refine wpList_append_own w hgd s x 22 ho base 44 i0 (.agg #[tx [], tx []]) 2 32 Tryz.underlying22 hi hz0 hz1 hz2 zero35 (by decide) v acc.length (cellsP acc) hs hown ad n c (cellsP l) hx (by rw [cellsP_length, hps.1]) hps.cells (cellsP_one _) (by unfold maxLen; omega) (by omega) (Nat.le_trans hb0 hb.size) ?_
    intro v' w' h2 h3 _
    refine h v' w' ?_ (hb.grown h3 (Nat.le_trans hb0 hb.size) (fun k hk => (World.ownsRow.lt hown k hk).1))
    unfold Own
    rw [cellsP_append, List.length_append, hps.1]
    exact h2

set_option maxRecDepth 100000 in
set_option maxHeartbeats 2000000 in
theorem concat_any (g : Nat) (xa : Option Addr) (n c : Nat) (l : List Pr) (ya : Option Addr) (m d : Nat) (p : List Pr) (w : World) (hn : n ≤ 100000) (hm : m ≤ 100000)
    (c0 : w.cell? ⟨g, 0, none⟩ = some (.slice xa n c)) (c1 : w.cell? ⟨g, 1, none⟩ = some (.slice ya m d)) (hx : Ps w xa n l) (hy : Ps w ya m p) :
    Calls Tryz.prog 56 #[.slice (some ⟨g, 0, none⟩) 2 2] w fun e w' => ∃ v, e = .returned v ∧ Own w' w.heap.size v (l ++ p) ∧ Below w.heap.size w w' := by
  have hgr := grow_any (n + m) w (by omega)
  have hga := fun (_ : Unit) => hgr
  have HLn : Hid _ := hx.1
  have hcat : (((n + m : Nat)) : Int) = (n : Int) + m := by omega
  rw [hcat] at hga
  have hg := World.block_lt_of_cell? _ _ c0
  clear hgr hcat
  go_enter Tryz.func56, Tryz.ntmps56
  go_wp2_with fail
  go_loop [11, 3] (fun i s => (i = .int .i64 0 ∧ s = .int .i64 0) ∨ (i = .int .i64 1 ∧ s = .int .i64 n) ∨ (i = .int .i64 2 ∧ s = .int .i64 ((n : Int) + m))) (fun i _ => 2 - (intOf i).toNat)
  case atStart => exact Or.inl ⟨rfl, rfl⟩
  case round =>
    rcases hrel with ⟨rfl, rfl⟩ | ⟨rfl, rfl⟩ | ⟨rfl, rfl⟩
    · have h1 : ¬ ((n : Int) < 0) := by omega
      go_wp2
      go_round
      case rel => exact Or.inr (Or.inl ⟨rfl, rfl⟩)
      case measure => simp [intOf]
    · have h1 : ¬ ((n : Int) + m < 0) := by omega
      go_wp2
      go_round
      case rel => exact Or.inr (Or.inr ⟨rfl, rfl⟩)
      case measure => simp [intOf]
    · go_wp2_with fail
      refine (hga ()).mono ?_
      rintro e w1 ⟨v1, rfl, ho1, hb1⟩
      go_wp2_with fail
      go_loopw [27, 6] (fun i v W => ((i = .int .i64 0 ∧ Own W w.heap.size v []) ∨ (i = .int .i64 1 ∧ Own W w.heap.size v l) ∨ (i = .int .i64 2 ∧ Own W w.heap.size v (l ++ p))) ∧ Below w.heap.size w W) (fun i _ _ => 2 - (intOf i).toNat)
      case atStart => exact ⟨Or.inl ⟨rfl, ho1⟩, hb1⟩
      case round =>
        obtain ⟨hrel, hb⟩ := hrel
        have k0 := (hb.cell (p := ⟨g, 0, none⟩) hg).trans c0
        have k1 := (hb.cell (p := ⟨g, 1, none⟩) hg).trans c1
        have hx' := hx.later hb
        have hy' := hy.later hb
        clear ho1 hb1 c0 c1
        rcases hrel with ⟨rfl, ho⟩ | ⟨rfl, ho⟩ | ⟨rfl, ho⟩
        · clear hga k1
          go_wp2_with (at_builtin; go_must (refine wp_app (w0 := w) rfl _ _ rfl w.heap.size _ [] l xa n c rfl rfl ho hx' hb (Nat.le_refl _) ?hN ?_))
          case hN => simp; omega
          intro v7 w7 ho7 hb7
          go_wp2
          go_roundw
          case rel => exact ⟨Or.inr (Or.inl ⟨rfl, ho7⟩), hb7⟩
          case measure => simp [intOf]
        · clear hga k0
          go_wp2_with (at_builtin; go_must (refine wp_app (w0 := w) rfl _ _ rfl w.heap.size _ l p ya m d rfl rfl ho hy' hb (Nat.le_refl _) ?hN ?_))
          case hN => rw [HLn.out]; omega
          intro v7 w7 ho7 hb7
          go_wp2
          go_roundw
          case rel => exact ⟨Or.inr (Or.inr ⟨rfl, ho7⟩), hb7⟩
          case measure => simp [intOf]
        · go_wp2_with fail
          go_ret
          exact ⟨_, rfl, ho, hb⟩
end Go.Proofs.YtideieolgjhbiaaGreatDoor
