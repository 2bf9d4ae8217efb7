/- Texts that the others lean on. -/
import Derived.Test.YtjgckfcocmhnhaaGreatDoorKMB
import Derived.Test.YtjgckfcocmhnhaaGreatDoorKMA
import Derived.Lib.Walk
import Derived.Laws.OwnMore
import Derived.Test.YtjgckfcocmhnhaaGreatDoorKRf
import Derived.BigQuiet
namespace Go.Proofs.YtjgckfcocmhnhaaGreatDoor.Hy
open Go.RowKit
theorem grown_set (W : World) (b o : Nat) (v : Value) : W.grownBy (W.setCell ⟨b, o, none⟩ v) (some b) := ⟨rfl, rfl, rfl, by simp [World.setCell], fun k _ hne => Below.heap_setCell _ _ _ _ (fun e => hne (by rw [e]))⟩
theorem grown_below {w w' : World} (h : Below w.heap.size w w') (row : Option Nat) : w.grownBy w' row := ⟨h.os, h.tape, h.output, h.size, fun k hk _ => h.block k hk⟩
theorem grown_cell {w w' : World} {row : Option Nat} (hg : w.grownBy w' row) {b o : Nat} {v : Value} (h : w.cell? ⟨b, o, none⟩ = some v) (hne : some b ≠ row) : w'.cell? ⟨b, o, none⟩ = some v := hg.cell h hne
theorem grown_frozen {w w' : World} {row : Option Nat} (hg : w.grownBy w' row) {b o : Nat} (hb : b < w.heap.size) (h : w.frozen? ⟨b, o, none⟩ = false) (hne : some b ≠ row) : w'.frozen? ⟨b, o, none⟩ = false :=
 (World.frozen?_of_block (a := ⟨b, o, none⟩) (hg.block b hb hne)).trans h
theorem grown_above {B b : Nat} {a w w' : World} (h : Below B a w) (hg : w.grownBy w' (some b)) (hB : B ≤ w.heap.size) (hb : B ≤ b) : Below B a w' := h.grown hg hB (fun k hk => by cases hk; exact hb)
/-- A sample: its time, and its value's two cells. -/
abbrev Smp := Int × Bool × Int
abbrev sv (s : Smp) : Value := .agg #[.int .i64 s.1, .bool s.2.1, .int .i64 s.2.2]
def s0 : Smp := (0, false, 0)
theorem set_at {w : World} {b q j : Nat} {u v : Value} (h : w.cell? ⟨b, q, none⟩ = some u) : (w.setCell ⟨b, q, none⟩ v).cell? ⟨b, j, none⟩ = if j = q then some v else w.cell? ⟨b, j, none⟩ := by
 by_cases e : j = q
 ·
  subst e
  rw [if_pos rfl, set_same h]
 ·
  rw [if_neg e, set_other (by intro x; injection x with _ x _; exact e x.symm)]
theorem set_ne {w : World} {b q j : Nat} {v : Value} (h : j ≠ q) : (w.setCell ⟨b, q, none⟩ v).cell? ⟨b, j, none⟩ = w.cell? ⟨b, j, none⟩ := set_other (by intro x; injection x with _ x _; exact h x.symm)
abbrev set3 (w : World) (b q : Nat) (s : Smp) : World := ((w.setCell ⟨b, q, none⟩ (.int .i64 s.1)).setCell ⟨b, q + 1, none⟩ (.bool s.2.1)).setCell ⟨b, q + 2, none⟩ (.int .i64 s.2.2)
theorem grown3 (w : World) (b q : Nat) (s : Smp) : w.grownBy (set3 w b q s) (some b) := ((grown_set _ _ _ _).trans (grown_set _ _ _ _)).trans (grown_set _ _ _ _)
theorem set3_other (w : World) (b q : Nat) (s : Smp) {j : Nat} (h : j < q ∨ q + 2 < j) : (set3 w b q s).cell? ⟨b, j, none⟩ = w.cell? ⟨b, j, none⟩ := by
 rw [set_ne (by omega), set_ne (by omega), set_ne (by omega)]
theorem set3_same {w : World} {b q : Nat} {u0 u1 u2 : Value} (s : Smp) (h0 : w.cell? ⟨b, q, none⟩ = some u0) (h1 : w.cell? ⟨b, q + 1, none⟩ = some u1) (h2 : w.cell? ⟨b, q + 2, none⟩ = some u2) :
  (set3 w b q s).cell? ⟨b, q, none⟩ = some (.int .i64 s.1) ∧ (set3 w b q s).cell? ⟨b, q + 1, none⟩ = some (.bool s.2.1) ∧ (set3 w b q s).cell? ⟨b, q + 2, none⟩ = some (.int .i64 s.2.2) := by
 refine ⟨?_, ?_, ?_⟩
 ·
  rw [set_ne (by omega), set_ne (by omega), set_same h0]
 ·
  rw [set_ne (by omega)]
  exact set_same ((set_ne (by omega)).trans h1)
 ·
  exact set_same ((set_ne (by omega)).trans ((set_ne (by omega)).trans h2))
theorem set3_frozen (w : World) (b q : Nat) (s : Smp) (a : Addr) : (set3 w b q s).frozen? a = w.frozen? a := by simp
/-- A sample in a block of its own. -/
structure BoxS (w : World) (b : Nat) (s : Smp) : Prop where
 c0 : w.cell? ⟨b, 0, none⟩ = some (.int .i64 s.1)
 c1 : w.cell? ⟨b, 1, none⟩ = some (.bool s.2.1)
 c2 : w.cell? ⟨b, 2, none⟩ = some (.int .i64 s.2.2)
 f0 : w.frozen? ⟨b, 0, none⟩ = false
 f1 : w.frozen? ⟨b, 1, none⟩ = false
 f2 : w.frozen? ⟨b, 2, none⟩ = false
theorem BoxS.new (w : World) (s : Smp) : BoxS (w.alloc (.cells #[.int .i64 s.1, .bool s.2.1, .int .i64 s.2.2] 35)) w.heap.size s := by
 constructor <;> simp [go_sem]
theorem BoxS.lt {w : World} {b : Nat} {s : Smp} (h : BoxS w b s) : b < w.heap.size := World.block_lt_of_cell? _ _ h.c0
theorem BoxS.kept {w w' : World} {b : Nat} {s : Smp} (h : BoxS w b s) {row : Option Nat} (hg : w.grownBy w' row) (hne : some b ≠ row) : BoxS w' b s :=
 ⟨grown_cell hg h.c0 hne, grown_cell hg h.c1 hne, grown_cell hg h.c2 hne, grown_frozen hg h.lt h.f0 hne, grown_frozen hg h.lt h.f1 hne, grown_frozen hg h.lt h.f2 hne⟩
theorem BoxS.later {w w' : World} {b : Nat} {s : Smp} (h : BoxS w b s) (hb : Below w.heap.size w w') : BoxS w' b s := h.kept (grown_below hb none) (by simp)
theorem BoxS.put {w : World} {b : Nat} {s : Smp} (h : BoxS w b s) (t : Smp) : BoxS (set3 w b 0 t) b t := by
 obtain ⟨p0, p1, p2⟩ := set3_same t h.c0 h.c1 h.c2
 exact ⟨p0, p1, p2, (set3_frozen _ _ _ _ _).trans h.f0, (set3_frozen _ _ _ _ _).trans h.f1, (set3_frozen _ _ _ _ _).trans h.f2⟩
theorem below3 {B : Nat} {a w : World} (h : Below B a w) {b : Nat} (hb : B ≤ b) (q : Nat) (s : Smp) : Below B a (set3 w b q s) := ((h.setCell (p := ⟨b, q, none⟩) hb _).setCell (p := ⟨b, q + 1, none⟩) hb _).setCell (p := ⟨b, q + 2, none⟩) hb _
def three (s : Smp) : List Value := [.int .i64 s.1, .bool s.2.1, .int .i64 s.2.2]
def cellsS (l : List Smp) : List Value := l.flatMap three
theorem cellsS_cons (s : Smp) (l : List Smp) : cellsS (s :: l) = .int .i64 s.1 :: .bool s.2.1 :: .int .i64 s.2.2 :: cellsS l := rfl
theorem cellsS_append (l m : List Smp) : cellsS (l ++ m) = cellsS l ++ cellsS m := by simp [cellsS]
theorem cellsS_one (l : List Smp) : ∀ u ∈ cellsS l, u.oneCell' = true := by
 intro u hu
 obtain ⟨x, _, hx⟩ := List.mem_flatMap.1 hu
 unfold three at hx
 simp only [List.mem_cons, List.not_mem_nil, or_false] at hx
 rcases hx with rfl | rfl | rfl <;> rfl
theorem cellsS_get {l : List Smp} {j : Nat} (h : j < l.length) : (cellsS l)[j * 3]? = some (.int .i64 (l.getD j s0).1) ∧ (cellsS l)[j * 3 + 1]? = some (.bool (l.getD j s0).2.1) ∧ (cellsS l)[j * 3 + 2]? = some (.int .i64 (l.getD j s0).2.2) := by
 induction l generalizing j with
 | nil => simp at h
 | cons p l ih =>
  rw [cellsS_cons]
  cases j with
  | zero => simp
  | succ j =>
   have := ih (j := j) (by simpa using h)
   rw [show (j + 1) * 3 = j * 3 + 3 by omega]
   simpa using this
/-- A slice of samples that reads as l. -/
def Ms (w : World) (ao : Option Addr) (n : Nat) (l : List Smp) : Prop :=
 l.length = n ∧ (0 < n → ∃ b off, ao = some ⟨b, off, none⟩ ∧ ∀ j, j < n → w.cell? ⟨b, off + j * 3, none⟩ = some (.int .i64 (l.getD j s0).1) ∧ w.cell? ⟨b, off + j * 3 + 1, none⟩ = some (.bool (l.getD j s0).2.1) ∧ w.cell? ⟨b, off + j * 3 + 2, none⟩ = some (.int .i64 (l.getD j s0).2.2))
theorem Ms.kept {w w' : World} {ao : Option Addr} {n : Nat} {l : List Smp} (h : Ms w ao n l) {row : Option Nat} (hg : w.grownBy w' row) (hne : ∀ a, ao = some a → 0 < n → some a.block ≠ row) : Ms w' ao n l := by
 refine ⟨h.1, fun hp => ?_⟩
 obtain ⟨b, off, e, hc⟩ := h.2 hp
 have hn := hne _ e hp
 exact ⟨b, off, e, fun j hj => ⟨grown_cell hg (hc j hj).1 hn, grown_cell hg (hc j hj).2.1 hn, grown_cell hg (hc j hj).2.2 hn⟩⟩
theorem Ms.later {w w' : World} {ao : Option Addr} {n : Nat} {l : List Smp} (h : Ms w ao n l) (hb : Below w.heap.size w w') : Ms w' ao n l := h.kept (grown_below hb none) (by simp)
theorem Ms.nil (w : World) (ao : Option Addr) : Ms w ao 0 [] := ⟨rfl, fun h => by omega⟩
theorem infoS : (Tryz.prog.info? 35).map (fun i => (i.zero, i.size, i.bytes)) = some (some (sv s0), 3, 24) := by kernel_rfl
theorem infoS_parts : ∃ i, Tryz.prog.info? 35 = some i ∧ i.zero = some (sv s0) ∧ i.size = 3 ∧ i.bytes = 24 := by
 have h := infoS
 cases hi : Tryz.prog.info? 35 with
 | none => rw [hi] at h; cases h
 | some i =>
  rw [hi] at h
  simp only [Option.map_some, Option.some.injEq, Prod.mk.injEq] at h
  exact ⟨i, rfl, h.1, h.2.1, h.2.2⟩
theorem zeroS : (sv s0).cells.size = 3 := by kernel_rfl
/-- New memory of its own that holds these samples. -/
def Own (w : World) (base : Nat) (v : Value) (l : List Smp) : Prop := w.ownsRow base 35 3 v l.length (cellsS l)
theorem Own.slice {w : World} {base : Nat} {v : Value} {l : List Smp} (h : Own w base v l) : ∃ ao cap, v = .slice ao l.length cap ∧ Ms w ao l.length l := by
 rcases h.2 with ⟨rfl, h0⟩ | ⟨g, cap, cur, rfl, hb, hg, hn, _, hs, ht⟩
 ·
  have : l = [] := List.length_eq_zero_iff.1 h0
  subst this
  exact ⟨none, 0, rfl, Ms.nil _ _⟩
 ·
  refine ⟨_, cap, rfl, ⟨rfl, fun _ => ⟨g, 0, rfl, fun j hj => ?_⟩⟩⟩
  have e : ∀ i, i < l.length * 3 → w.cell? ⟨g, 0 + i, none⟩ = (cellsS l)[i]? := fun i hi => by
   rw [cell_of_row _ _ _ _ _ _ hg, ← ht, List.getElem?_take_of_lt hi, Nat.zero_add]
   exact (Array.getElem?_toList).symm
  obtain ⟨g1, g2, g3⟩ := cellsS_get hj
  exact ⟨(e _ (by omega)).trans g1, (e (j * 3 + 1) (by omega)).trans g2, (e (j * 3 + 2) (by omega)).trans g3⟩
theorem Own.later {w w' : World} {base : Nat} {v : Value} {l : List Smp} (h : Own w base v l) (hb : Below w.heap.size w w') : Own w' base v l := by
 refine ⟨h.1, ?_⟩
 rcases h.2 with h0 | ⟨g, cap, cur, hv, hg0, hg, hn, hm, hs, ht⟩
 ·
  exact Or.inl h0
 ·
  have hlt : g < w.heap.size := by
   by_cases hlt : g < w.heap.size
   ·
    exact hlt
   ·
    rw [Array.getElem?_eq_none (by omega)] at hg; cases hg
  exact Or.inr ⟨g, cap, cur, hv, hg0, (hb.block g hlt).trans hg, hn, hm, hs, ht⟩
theorem BoxS.cells {w : World} {b : Nat} {s : Smp} (h : BoxS w b s) : ∀ i u, (cellsS [s])[i]? = some u → w.cell? ((⟨b, 0, none⟩ : Addr).add i) = some u := by
 intro i u hu
 rw [Addr.add_lit, Nat.zero_add]
 match i, hu with
 | 0, hu => rw [h.c0]; exact hu
 | 1, hu => rw [h.c1]; exact hu
 | 2, hu => rw [h.c2]; exact hu
 | i + 3, hu => simp [cellsS, three] at hu
theorem Own.snoc {w : World} {base : Nat} {v : Value} {l : List Smp} {s : Smp} (h : w.ownsRow base 35 3 v (l.length + 1) (cellsS l ++ cellsS [s])) : Own w base v (l ++ [s]) := by
 unfold Own
 rw [cellsS_append, List.length_append]
 exact h
/-! ### Numbers -/
def two (x : Bool × Int) : List Value := [.bool x.1, .int .i64 x.2]
def cellsN (l : List (Bool × Int)) : List Value := l.flatMap two
theorem cellsN_cons (s : Bool × Int) (l : List (Bool × Int)) : cellsN (s :: l) = .bool s.1 :: .int .i64 s.2 :: cellsN l := rfl
theorem cellsN_append (l m : List (Bool × Int)) : cellsN (l ++ m) = cellsN l ++ cellsN m := by simp [cellsN]
theorem cellsN_one (l : List (Bool × Int)) : ∀ u ∈ cellsN l, u.oneCell' = true := by
 intro u hu
 obtain ⟨x, _, hx⟩ := List.mem_flatMap.1 hu
 unfold two at hx
 simp only [List.mem_cons, List.not_mem_nil, or_false] at hx
 rcases hx with rfl | rfl <;> rfl
theorem cellsN_get {l : List (Bool × Int)} {j : Nat} (h : j < l.length) : (cellsN l)[j * 2]? = some (.bool (l.getD j (false, 0)).1) ∧ (cellsN l)[j * 2 + 1]? = some (.int .i64 (l.getD j (false, 0)).2) := by
 induction l generalizing j with
 | nil => simp at h
 | cons p l ih =>
  rw [cellsN_cons]
  cases j with
  | zero => simp
  | succ j =>
   have := ih (j := j) (by simpa using h)
   rw [show (j + 1) * 2 = j * 2 + 2 by omega]
   simpa using this
theorem infoN : (Tryz.prog.info? 33).map (fun i => (i.zero, i.size, i.bytes)) = some (some (.agg #[.bool false, .int .i64 0]), 2, 16) := by kernel_rfl
theorem infoN_parts : ∃ i, Tryz.prog.info? 33 = some i ∧ i.zero = some (.agg #[.bool false, .int .i64 0]) ∧ i.size = 2 ∧ i.bytes = 16 := by
 have h := infoN
 cases hi : Tryz.prog.info? 33 with
 | none => rw [hi] at h; cases h
 | some i =>
  rw [hi] at h
  simp only [Option.map_some, Option.some.injEq, Prod.mk.injEq] at h
  exact ⟨i, rfl, h.1, h.2.1, h.2.2⟩
theorem zeroN : (Value.agg #[.bool false, .int .i64 0]).cells.size = 2 := by kernel_rfl
def OwnN (w : World) (base : Nat) (v : Value) (l : List (Bool × Int)) : Prop := w.ownsRow base 33 2 v l.length (cellsN l)
theorem OwnN.slice {w : World} {base : Nat} {v : Value} {l : List (Bool × Int)} (h : OwnN w base v l) : ∃ ao cap, v = .slice ao l.length cap ∧ Ns w ao l.length l := by
 rcases h.2 with ⟨rfl, h0⟩ | ⟨g, cap, cur, rfl, hb, hg, hn, _, hs, ht⟩
 ·
  have : l = [] := List.length_eq_zero_iff.1 h0
  subst this
  exact ⟨none, 0, rfl, Ns.nil _⟩
 ·
  refine ⟨_, cap, rfl, ⟨rfl, fun _ => ⟨g, 0, rfl, fun j hj => ?_⟩⟩⟩
  have e : ∀ i, i < l.length * 2 → w.cell? ⟨g, 0 + i, none⟩ = (cellsN l)[i]? := fun i hi => by
   rw [cell_of_row _ _ _ _ _ _ hg, ← ht, List.getElem?_take_of_lt hi, Nat.zero_add]
   exact (Array.getElem?_toList).symm
  obtain ⟨g1, g2⟩ := cellsN_get hj
  exact ⟨(e _ (by omega)).trans g1, (e (j * 2 + 1) (by omega)).trans g2⟩
theorem OwnN.later {w w' : World} {base : Nat} {v : Value} {l : List (Bool × Int)} (h : OwnN w base v l) (hb : Below w.heap.size w w') : OwnN w' base v l := by
 refine ⟨h.1, ?_⟩
 rcases h.2 with h0 | ⟨g, cap, cur, hv, hg0, hg, hn, hm, hs, ht⟩
 ·
  exact Or.inl h0
 ·
  have hlt : g < w.heap.size := by
   by_cases hlt : g < w.heap.size
   ·
    exact hlt
   ·
    rw [Array.getElem?_eq_none (by omega)] at hg; cases hg
  exact Or.inr ⟨g, cap, cur, hv, hg0, (hb.block g hlt).trans hg, hn, hm, hs, ht⟩
theorem Box.cellsN {w : World} {b : Nat} {x : Bool × Int} (h : Box w b x.1 x.2) : ∀ i u, (YtjgckfcocmhnhaaGreatDoor.Hy.cellsN [x])[i]? = some u → w.cell? ((⟨b, 0, none⟩ : Addr).add i) = some u := by
 intro i u hu
 rw [Addr.add_lit, Nat.zero_add]
 match i, hu with
 | 0, hu => rw [h.c0]; exact hu
 | 1, hu => rw [h.c1]; exact hu
 | i + 2, hu => simp [YtjgckfcocmhnhaaGreatDoor.Hy.cellsN, two] at hu
theorem OwnN.snoc {w : World} {base : Nat} {v : Value} {l : List (Bool × Int)} {s : Bool × Int} (h : w.ownsRow base 33 2 v (l.length + 1) (cellsN l ++ cellsN [s])) : OwnN w base v (l ++ [s]) := by
 unfold OwnN
 rw [cellsN_append, List.length_append]
 exact h
theorem take_snocS {l : List Smp} {j : Nat} (h : j < l.length) : l.take (j + 1) = l.take j ++ [l.getD j s0] := by
 rw [List.take_add_one, List.getD_eq_getElem?_getD, List.getElem?_eq_getElem h]
 rfl
theorem wI {x : Int} (h0 : -9223372036854775808 ≤ x) (h1 : x ≤ 9223372036854775807) : IntKind.i64.wrap x = x := by rw [IntKind.wrap_i64]; omega
def nrm (s : Smp) : Smp := (s.1, ov (cnt s.2.1 s.2.2), nn (cnt s.2.1 s.2.2))
theorem nrm_r64 (s : Smp) (h : R64 s.2.2) : R64 (nrm s).2.2 := by
 have := V.cnt (o := s.2.1) h.1 h.2
 exact ⟨by have := this.1; show _ ≤ nn _; omega, this.2⟩
def vls (l : List Smp) : List (Bool × Int) := l.map (·.2)
end Go.Proofs.YtjgckfcocmhnhaaGreatDoor.Hy
namespace Go.Proofs.YtjgckfcocmhnhaaGreatDoor.Hy
open Go.RowKit
theorem wf64 {x : Int} (h0 : -9223372036854775808 ≤ x) (h1 : x ≤ 9223372036854775807) : wrap64 x = x := by unfold wrap64; omega
set_option maxHeartbeats 1000000 in
theorem rnorm_any (o : Bool) (n : Int) (w : World) (h : R64 n) : Calls Tryz.prog 42 #[.agg #[.bool o, .int .i64 n]] w fun e w' => e = .returned (.agg #[.bool (ov (cnt o n)), .int .i64 (nn (cnt o n))]) ∧ Below w.heap.size w w' := by
 obtain ⟨hx1, hy, hb2⟩ := boxes1 w o n
 cases hi : fIs o n with
 | true =>
  obtain ⟨e1, e2⟩ := is_cnt hi
  rw [e1, e2]
  go_enter Tryz.func42, Tryz.ntmps42
  go_wp2_with fail
  refine (ris_all _ _ _ h.1).mono ?_
  rintro e w1 ⟨rfl, hb3⟩
  rw [hi]
  obtain ⟨c0, c1, f0, f1⟩ := hx1.later hb3
  obtain ⟨d0, d1, g0, g1⟩ := hy.later hb3
  obtain ⟨p0, p1, _, _⟩ := (hy.later hb3).put (p := o) (m := n)
  go_wp2
  exact bodyPost_ret (v := .agg #[.bool o, .int .i64 n]) (by simp [results, Tryz.results42, go_sem, p0, p1]) rfl ⟨rfl, put2 (Below.chain hb2 hb3) (by omega) _ _⟩
 | false =>
  rw [isnt_cnt h.1 hi]
  go_enter Tryz.func42, Tryz.ntmps42
  go_wp2_with fail
  refine (ris_all _ _ _ h.1).mono ?_
  rintro e w1 ⟨rfl, hb3⟩
  rw [hi]
  go_wp2_with fail
  refine (ovf_any _).mono ?_
  rintro e w2 ⟨rfl, hb4⟩
  have hb5 := Below.chain hb3 hb4
  obtain ⟨d0, d1, g0, g1⟩ := hy.later hb5
  obtain ⟨p0, p1, _, _⟩ := (hy.later hb5).put (p := true) (m := 0)
  go_wp2
  exact bodyPost_ret (v := .agg #[.bool true, .int .i64 0]) (by simp [results, Tryz.results42, go_sem, p0, p1]) rfl ⟨rfl, put2 (Below.chain hb2 hb5) (by omega) _ _⟩
/-- A sample's value as it counts. -/
def nv (s : Smp) : Bool × Int := (ov (cnt s.2.1 s.2.2), nn (cnt s.2.1 s.2.2))
theorem nv_take {l : List Smp} {j : Nat} (h : j < l.length) : (l.take (j + 1)).map nv = (l.take j).map nv ++ [nv (l.getD j s0)] := by
 rw [take_snocS h]
 simp
theorem nv_cnts (l : List Smp) (h : ∀ s ∈ l, R64 s.2.2) : cnts (l.map nv) = cnts (vls l) := by
 induction l with
 | nil => rfl
 | cons s r ih =>
  have h1 := h s List.mem_cons_self
  show cnt (nv s).1 (nv s).2 :: cnts (r.map nv) = cnt s.2.1 s.2.2 :: cnts (vls r)
  rw [ih (fun x hx => h x (List.mem_cons_of_mem _ hx))]
  congr 1
  exact cnt_val (V.cnt h1.1 h1.2)
theorem nv_r64 (s : Smp) (h : R64 s.2.2) : R64 (nv s).2 := nrm_r64 s h
theorem getD_memS {l : List Smp} {j : Nat} (h : j < l.length) : l.getD j s0 ∈ l := by
 rw [List.getD_eq_getElem?_getD, List.getElem?_eq_getElem h]
 exact List.getElem_mem h
theorem whole_any (n : Int) (w : World) (hn : R64 n) : Calls Tryz.prog 83 #[.int .i64 n] w fun e w' => e = .returned (.agg #[.bool (ov (fOf n)), .int .i64 (nn (fOf n))]) ∧ Below w.heap.size w w' := by
 have hb0 := bal (Below.refl _ w) (.cells #[.bool false, .int .i64 0] 33)
 have hx0 := Box.new w false 0
 have ho := fun W => rof_any n W hn
 generalize ov (fOf n) = fo at *
 generalize nn (fOf n) = fn at *
 go_enter Tryz.func83, Tryz.ntmps83
 go_wp2_with fail
 refine (ho _).mono ?_
 rintro e w1 ⟨rfl, hb1⟩
 have hx1 := hx0.later hb1
 obtain ⟨c0, c1, g0, g1⟩ := id hx1
 obtain ⟨p0, p1, _, _⟩ := hx1.put (p := fo) (m := fn)
 go_wp2
 exact bodyPost_ret (v := .agg #[.bool fo, .int .i64 fn]) (by simp [results, Tryz.results83, go_sem, p0, p1]) rfl ⟨rfl, put2 (Below.chain hb0 hb1) (Nat.le_refl _) _ _⟩
set_option maxHeartbeats 2000000 in
theorem values_any (ao : Option Addr) (n cap : Nat) (l : List Smp) (w : World) (hn : n ≤ 1000) (hs : Ms w ao n l) (hl : ∀ s ∈ l, R64 s.2.2) :
  Calls Tryz.prog 79 #[.slice ao n cap] w fun e w' => ∃ v, e = .returned v ∧ OwnN w' w.heap.size v (l.map nv) ∧ Below w.heap.size w w' := by
 obtain ⟨i0, hi, hz0, hz1, hz2⟩ := infoN_parts
 obtain ⟨hla, hca⟩ := hs
 have HA : Hid (l.length = n) := hla
 have HC : Hid (∀ j, j < n → ∃ b off, ao = some ⟨b, off, none⟩ ∧ ∀ W, Below w.heap.size w W → W.cell? ⟨b, off + j * 3 + 1, none⟩ = some (.bool (l.getD j s0).2.1) ∧ W.cell? ⟨b, off + j * 3 + 2, none⟩ = some (.int .i64 (l.getD j s0).2.2)) := by
  intro j hj
  obtain ⟨b, off, e, hc⟩ := hca (by omega)
  obtain ⟨c0, c1, c2⟩ := hc j hj
  exact ⟨b, off, e, fun W hW => ⟨(hW.cell (World.block_lt_of_cell? _ _ c1)).trans c1, (hW.cell (World.block_lt_of_cell? _ _ c2)).trans c2⟩⟩
 clear hla hca
 go_enter Tryz.func79, Tryz.ntmps79
 go_wp2
 go_loopw [4, 3] (fun i v wr => ∃ j : Nat, j ≤ n ∧ i = .int .i64 j ∧ OwnN wr w.heap.size v ((l.take j).map nv) ∧ Below w.heap.size w wr) (fun i _ _ => n - (intOf i).toNat)
 case atStart => exact ⟨0, by omega, rfl, ⟨rfl, Or.inl ⟨rfl, rfl⟩⟩, Below.refl _ _⟩
 case round =>
  obtain ⟨j, hj, rfl, ho, hb⟩ := hrel
  by_cases hlt : j < n
  ·
   have hd : decide ((j : Int) < (n : Int)) = true := decide_eq_true (by omega)
   obtain ⟨b, off, rfl, hc⟩ := HC.out j hlt
   obtain ⟨k1, k2⟩ := hc _ hb
   have HN : Hid ((l.take (j + 1)).map nv = (l.take j).map nv ++ [nv (l.getD j s0)]) := nv_take (by rw [HA.out]; exact hlt)
   have hr := hl _ (getD_memS (l := l) (j := j) (by rw [HA.out]; exact hlt))
   have hlj : ((l.take j).map nv).length = j := by rw [List.length_map, List.length_take, HA.out]; omega
   clear hc
   generalize l.getD j s0 = s at *
   generalize (l.take j).map nv = r at *
   obtain ⟨t, s1, s2⟩ := s
   dsimp only [nv] at *
   have hno := fun W => rnorm_any s1 s2 W hr
   generalize ov (cnt s1 s2) = fo at *
   generalize nn (cnt s1 s2) = fn at *
   go_wp2_with fail
   refine (hno _).mono ?_
   rintro e w1 ⟨rfl, hb1⟩
   have ho1 := (ho.later hb1).later (bal (Below.refl _ _) (.cells #[.bool fo, .int .i64 fn] 33))
   have hx1 := Box.new w1 fo fn
   have hb2 := bal (Below.chain hb hb1) (.cells #[.bool fo, .int .i64 fn] 33)
   go_wp2_with (at_builtin; go_must (refine wpList_append_own _ rfl _ _ 50 rfl w.heap.size 33 i0 (.agg #[.bool false, .int .i64 0]) 2 16 Tryz.underlying50 hi hz0 hz1 hz2 zeroN (by decide) _ _ _ rfl ho1 ⟨w1.heap.size, 0, none⟩ 1 1 (cellsN [(fo, fn)]) rfl rfl ?hnews (cellsN_one _) ?h63 ?hby ?hbs ?_))
   case hnews => exact fun i u hu => Box.cellsN (x := (fo, fn)) hx1 i u hu
   case h63 => unfold maxLen; omega
   case hby => omega
   case hbs => exact hb2.size
   intro v' w2 ho4 hg4 _
   go_wp2
   go_roundw
   case rel => exact ⟨j + 1, by omega, by go_num, by rw [HN.out]; exact OwnN.snoc (by rw [hlj]; exact ho4), hb2.grown hg4 hb2.size (fun k hk => (World.ownsRow.lt ho1 k hk).1)⟩
   case measure => simp [intOf]; omega
  ·
   have hd : decide ((j : Int) < (n : Int)) = false := decide_eq_false (by omega)
   have HE : Hid ((l.take j).map nv = l.map nv) := by show _ = _; rw [List.take_of_length_le (by rw [HA.out]; omega)]
   rw [HE.out] at ho
   go_wp2
   go_ret
   exact ⟨_, rfl, ho, hb⟩
end Go.Proofs.YtjgckfcocmhnhaaGreatDoor.Hy
namespace Go.Proofs.YtjgckfcocmhnhaaGreatDoor.Hy
open Go.RowKit
/-- Those of a time above f, at most t. -/
def bet (f t : Int) (l : List Smp) : List Smp := l.filter fun s => decide (f < s.1) && decide (s.1 ≤ t)
theorem bet_snoc (f t : Int) (l : List Smp) (s : Smp) : bet f t (l ++ [s]) = if f < s.1 ∧ s.1 ≤ t then bet f t l ++ [s] else bet f t l := by
 unfold bet
 rw [List.filter_append]
 by_cases h : f < s.1 ∧ s.1 ≤ t
 ·
  rw [if_pos h]; simp [h.1, h.2]
 ·
  rw [if_neg h]
  have e : (decide (f < s.1) && decide (s.1 ≤ t)) = false := by
   rw [Bool.and_eq_false_iff, decide_eq_false_iff_not, decide_eq_false_iff_not]
   omega
  simp [e]
theorem bet_len (f t : Int) (l : List Smp) : (bet f t l).length ≤ l.length := List.length_filter_le _ _
/-- A series in memory: its set's slice, its samples' slice. -/
structure Sr (w : World) (p : Nat) (lv sv : Value) : Prop where
 c0 : w.cell? ⟨p, 0, none⟩ = some lv
 c1 : w.cell? ⟨p, 1, none⟩ = some sv
theorem Sr.lt {w : World} {p : Nat} {lv sv : Value} (h : Sr w p lv sv) : p < w.heap.size := World.block_lt_of_cell? _ _ h.c0
theorem Sr.kept {w w' : World} {p : Nat} {lv sv : Value} (h : Sr w p lv sv) {row : Option Nat} (hg : w.grownBy w' row) (hne : some p ≠ row) : Sr w' p lv sv := ⟨hg.cell h.c0 hne, hg.cell h.c1 hne⟩
theorem Sr.later {w w' : World} {p : Nat} {lv sv : Value} (h : Sr w p lv sv) (hb : Below w.heap.size w w') : Sr w' p lv sv := h.kept (grown_below hb none) (by simp)
theorem Ms.all {w : World} {ao : Option Addr} {n : Nat} {l : List Smp} (hs : Ms w ao n l) (h : 0 < n) : ∃ b off, ao = some ⟨b, off, none⟩ ∧ ∀ W, Below w.heap.size w W → ∀ j, j < n → W.cell? ⟨b, off + j * 3, none⟩ = some (.int .i64 (l.getD j s0).1) ∧ W.cell? ⟨b, off + j * 3 + 1, none⟩ = some (.bool (l.getD j s0).2.1) ∧ W.cell? ⟨b, off + j * 3 + 2, none⟩ = some (.int .i64 (l.getD j s0).2.2) := by
 obtain ⟨b, off, e, hc⟩ := hs.2 h
 refine ⟨b, off, e, fun W hW j hj => ?_⟩
 obtain ⟨c0, c1, c2⟩ := hc j hj
 exact ⟨(hW.cell (World.block_lt_of_cell? _ _ c0)).trans c0, (hW.cell (World.block_lt_of_cell? _ _ c1)).trans c1, (hW.cell (World.block_lt_of_cell? _ _ c2)).trans c2⟩
theorem Own.none (w : World) (base : Nat) : Own w base (.slice none 0 0) [] := World.ownsRow_nil w base 35 3
theorem between_nil (f t : Int) (w : World) : Calls Tryz.prog 47 #[.pointer none, .int .i64 f, .int .i64 t] w fun e w' => e = .returned (.slice none 0 0) ∧ Below w.heap.size w w' := by
 have hb := Below.refl w.heap.size w
 go_enter Tryz.func47, Tryz.ntmps47
 go_wp2_with fail
 go_loopw [8, 7] (fun i v wr => i = .int .i64 0 ∧ v = .slice none 0 0 ∧ wr = w) (fun _ _ _ => 0)
 case atStart => exact ⟨rfl, rfl, rfl⟩
 case round =>
  obtain ⟨rfl, rfl, rfl⟩ := hrel
  go_wp2
  go_ret
  exact ⟨rfl, hb⟩
set_option maxHeartbeats 8000000 in
theorem between_any (p : Nat) (lv : Value) (ao : Option Addr) (n cap : Nat) (l : List Smp) (f t : Int) (w : World) (hp : Sr w p lv (.slice ao n cap)) (hs : Ms w ao n l) (hn : n ≤ 1000000) :
  Calls Tryz.prog 47 #[.pointer (some ⟨p, 0, none⟩), .int .i64 f, .int .i64 t] w fun e w' => ∃ v, e = .returned v ∧ Own w' w.heap.size v (bet f t l) ∧ Below w.heap.size w w' := by
 obtain ⟨i0, hi, hz0, hz1, hz2⟩ := infoS_parts
 have HA : Hid (l.length = n) := hs.1
 have HC : Hid (0 < n → ∃ b off, ao = some ⟨b, off, none⟩ ∧ ∀ W, Below w.heap.size w W → ∀ j, j < n → W.cell? ⟨b, off + j * 3, none⟩ = some (.int .i64 (l.getD j s0).1) ∧ W.cell? ⟨b, off + j * 3 + 1, none⟩ = some (.bool (l.getD j s0).2.1) ∧ W.cell? ⟨b, off + j * 3 + 2, none⟩ = some (.int .i64 (l.getD j s0).2.2)) := fun h => hs.all h
 have HP : Hid (∀ W, Below w.heap.size w W → W.cell? ⟨p, 1, none⟩ = some (.slice ao n cap)) := fun W hW => (hp.later hW).c1
 clear hs hp
 go_enter Tryz.func47, Tryz.ntmps47
 go_wp2_with fail
 go_loopw [8, 7] (fun i v wr => ∃ j : Nat, j ≤ n ∧ i = .int .i64 j ∧ Own wr w.heap.size v (bet f t (l.take j)) ∧ Below w.heap.size w wr) (fun i _ _ => n - (intOf i).toNat)
 case atStart => exact ⟨0, by omega, rfl, Own.none _ _, Below.refl _ _⟩
 case round =>
  obtain ⟨j, hj, rfl, ho, hb⟩ := hrel
  have h1 := HP.out _ hb
  by_cases hlt : j < n
  ·
   have hd : decide ((j : Int) < (n : Int)) = true := decide_eq_true (by omega)
   obtain ⟨b, off, rfl, hc⟩ := HC.out (by omega)
   obtain ⟨c0, c1, c2⟩ := hc _ hb j hlt
   have HN : Hid (bet f t (l.take (j + 1)) = if f < (l.getD j s0).1 ∧ (l.getD j s0).1 ≤ t then bet f t (l.take j) ++ [l.getD j s0] else bet f t (l.take j)) := by
    show _ = _
    rw [take_snocS (by rw [HA.out]; exact hlt), bet_snoc]
   have hlb : (bet f t (l.take j)).length ≤ 1000000 := by
    have := bet_len f t (l.take j)
    rw [List.length_take] at this
    omega
   clear hc
   generalize l.getD j s0 = s at *
   generalize bet f t (l.take j) = r at *
   obtain ⟨T, vo, vn⟩ := s
   dsimp only at *
   by_cases h2 : f < T
   ·
    have d2 : decide (f < T) = true := decide_eq_true h2
    by_cases h3 : T ≤ t
    ·
     have d3 : decide (T ≤ t) = true := decide_eq_true h3
     have HN2 : Hid (bet f t (l.take (j + 1)) = r ++ [(T, vo, vn)]) := HN.out.trans (if_pos ⟨h2, h3⟩)
     have hx := BoxS.new wr (T, vo, vn)
     have hb2 := bal hb (.cells #[.int .i64 T, .bool vo, .int .i64 vn] 35)
     have ho1 := ho.later (bal (Below.refl _ _) (.cells #[.int .i64 T, .bool vo, .int .i64 vn] 35))
     clear h2 h3 HN
     go_wp2_with (at_builtin; go_must (refine wpList_append_own _ rfl _ _ 51 rfl w.heap.size 35 i0 (sv s0) 3 24 Tryz.underlying51 hi hz0 hz1 hz2 zeroS (by decide) _ _ _ rfl ho1 ⟨wr.heap.size, 0, none⟩ 1 1 (cellsS [(T, vo, vn)]) rfl rfl ?hnews (cellsS_one _) ?h63 ?hby ?hbs ?_))
     case hnews => first | exact fun i u hu => hx.cells i u hu | exact fun i u hu => hu
     case h63 => unfold maxLen; omega
     case hby => omega
     case hbs => first | exact hb2.size | (have := hb.size; omega)
     intro v' w2 ho4 hg4 _
     go_wp2
     go_roundw
     case rel => exact ⟨j + 1, by omega, by go_num, by rw [HN2.out]; exact Own.snoc ho4, hb2.grown hg4 hb2.size (fun k hk => (World.ownsRow.lt ho1 k hk).1)⟩
     case measure => simp [intOf]; omega
    ·
     have d3 : decide (T ≤ t) = false := decide_eq_false h3
     have HN2 : Hid (bet f t (l.take (j + 1)) = r) := HN.out.trans (if_neg (fun e => h3 e.2))
     clear h2 h3 HN
     go_wp2
     go_roundw
     case rel => exact ⟨j + 1, by omega, by go_num, by rw [HN2.out]; exact ho, hb⟩
     case measure => simp [intOf]; omega
   ·
    have d2 : decide (f < T) = false := decide_eq_false h2
    have HN2 : Hid (bet f t (l.take (j + 1)) = r) := HN.out.trans (if_neg (fun e => h2 e.1))
    clear h2 HN
    go_wp2
    go_roundw
    case rel => exact ⟨j + 1, by omega, by go_num, by rw [HN2.out]; exact ho, hb⟩
    case measure => simp [intOf]; omega
  ·
   have hd : decide ((j : Int) < (n : Int)) = false := decide_eq_false (by omega)
   have hd' : decide (j < n) = false := decide_eq_false hlt
   have HE : Hid (bet f t (l.take j) = bet f t l) := by show _ = _; rw [List.take_of_length_le (by rw [HA.out]; omega)]
   rw [HE.out] at ho
   go_wp2
   go_ret
   exact ⟨_, rfl, ho, hb⟩
end Go.Proofs.YtjgckfcocmhnhaaGreatDoor.Hy
namespace Go.Proofs.YtjgckfcocmhnhaaGreatDoor.Hy
open Go.RowKit
def lst (l : List Smp) : Smp := l.getD (l.length - 1) s0
theorem BoxS.put0 {w : World} {b : Nat} {s : Smp} (h : BoxS w b s) (t : Smp) : (set3 w b 0 t).cell? ⟨b, 0, none⟩ = some (.int .i64 t.1) ∧ (set3 w b 0 t).cell? ⟨b, 1, none⟩ = some (.bool t.2.1) ∧ (set3 w b 0 t).cell? ⟨b, 2, none⟩ = some (.int .i64 t.2.2) := ⟨(h.put t).c0, (h.put t).c1, (h.put t).c2⟩
/-- What At tells. -/
def atT (l : List Smp) (t : Int) : Value := .tuple #[sv (lst (bet (t - 10) t l)), .bool (!(bet (t - 10) t l).isEmpty)]
theorem at_nil (t : Int) (w : World) (ht : -1000000000 ≤ t ∧ t ≤ 1000000000) : Calls Tryz.prog 46 #[.pointer none, .int .i64 t] w fun e w' => e = .returned (.tuple #[sv s0, .bool false]) ∧ Below w.heap.size w w' := by
 have hb0 := bal (Below.refl _ w) (.cells #[.int .i64 0, .bool false, .int .i64 0] 35)
 have hx := BoxS.new w s0
 have ew : wrap64 (t - 10) = t - 10 := wf64 (by omega) (by omega)
 have hbn := fun W => between_nil (t - 10) t W
 go_enter Tryz.func46, Tryz.ntmps46
 go_wp2_with fail
 refine (hbn _).mono ?_
 rintro e w1 ⟨rfl, hb1⟩
 obtain ⟨c0, c1, c2, f0, f1, f2⟩ := hx.later hb1
 obtain ⟨d0, d1, d2⟩ := BoxS.put0 (hx.later hb1) ((0, false, 0) : Smp)
 dsimp only at d0 d1 d2
 go_wp2
 exact bodyPost_ret (v := .tuple #[sv s0, .bool false]) (by simp [results, Tryz.results46, go_sem, s0, d0, d1, d2]) rfl ⟨rfl, by first | exact below3 (Below.chain hb0 hb1) (Nat.le_refl _) 0 ((0, false, 0) : Smp) | exact Below.chain hb0 hb1⟩
set_option maxHeartbeats 4000000 in
theorem at_any (p : Nat) (lv : Value) (ao : Option Addr) (n cap : Nat) (l : List Smp) (t : Int) (w : World) (hp : Sr w p lv (.slice ao n cap)) (hs : Ms w ao n l) (hn : n ≤ 1000000) (ht : -1000000000 ≤ t ∧ t ≤ 1000000000) :
  Calls Tryz.prog 46 #[.pointer (some ⟨p, 0, none⟩), .int .i64 t] w fun e w' => e = .returned (atT l t) ∧ Below w.heap.size w w' := by
 have hb0 := bal (Below.refl _ w) (.cells #[.int .i64 0, .bool false, .int .i64 0] 35)
 have hx := BoxS.new w s0
 have hln := hs.1
 have hbt := between_any p lv ao n cap l (t - 10) t _ (hp.later hb0) (hs.later hb0) hn
 have ew : wrap64 (t - 10) = t - 10 := wf64 (by omega) (by omega)
 have hlen := bet_len (t - 10) t l
 unfold atT
 generalize bet (t - 10) t l = r at *
 clear hp hs ht
 cases hr : r with
 | nil =>
  subst hr
  go_enter Tryz.func46, Tryz.ntmps46
  go_wp2_with fail
  refine hbt.mono ?_
  rintro e w1 ⟨v, rfl, ho, hb1⟩
  obtain ⟨ax, cx, rfl, mx⟩ := ho.slice
  have hx1 := hx.later hb1
  obtain ⟨c0, c1, c2, f0, f1, f2⟩ := id hx1
  obtain ⟨d0, d1, d2⟩ := BoxS.put0 hx1 ((0, false, 0) : Smp)
  dsimp only at d0 d1 d2
  clear ho mx
  go_wp2
  exact bodyPost_ret (v := .tuple #[sv s0, .bool false]) (by simp [results, Tryz.results46, go_sem, s0, d0, d1, d2]) rfl ⟨rfl, by first | exact below3 (Below.chain hb0 hb1) (Nat.le_refl _) 0 ((0, false, 0) : Smp) | exact Below.chain hb0 hb1⟩
 | cons y ys =>
  rw [← hr]
  have he : r.isEmpty = false := by rw [hr]; rfl
  have hpos : 0 < r.length := by rw [hr]; simp
  rw [he]
  have HL : Hid (lst r = r.getD (r.length - 1) s0) := rfl
  clear hr he
  obtain ⟨q, hq⟩ : ∃ q, q + 1 = r.length := ⟨r.length - 1, by omega⟩
  have hq6 : q + 1 ≤ 1000000 := by omega
  have HQ : Hid (lst r = r.getD q s0) := by show _ = _; rw [HL.out, show r.length - 1 = q by omega]
  have HRl : Hid (r.length = q + 1) := hq.symm
  go_enter Tryz.func46, Tryz.ntmps46
  go_wp2_with fail
  refine hbt.mono ?_
  rintro e w1 ⟨v, rfl, ho, hb1⟩
  obtain ⟨ax, cx, rfl, mx⟩ := ho.slice
  rw [HRl.out] at mx ⊢
  obtain ⟨b2, o2, rfl, hc⟩ := mx.all (by omega)
  obtain ⟨k0, k1, k2⟩ := hc _ (Below.refl _ _) q (by omega)
  rw [← HQ.out] at k0 k1 k2
  have hx1 := hx.later hb1
  obtain ⟨c0, c1, c2, f0, f1, f2⟩ := id hx1
  have dz : (((q + 1 : Nat) : Int) == 0) = false := by rw [beq_eq_false_iff_ne]; omega
  have eq1 : wrap64 (((q + 1 : Nat) : Int) - 1) = (q : Int) := (wf64 (by omega) (by omega)).trans (by omega)
  clear ho mx hc hpos hq hlen hln hbt HL
  obtain ⟨s, hS⟩ : ∃ s, lst r = s := ⟨_, rfl⟩
  have HS : Hid (lst r = s) := hS
  rw [hS] at k0 k1 k2
  clear hS HQ
  obtain ⟨T, vo, vn⟩ := s
  obtain ⟨d0, d1, d2⟩ := BoxS.put0 hx1 (T, vo, vn)
  dsimp only at *
  go_wp2
  exact bodyPost_ret (v := .tuple #[sv (T, vo, vn), .bool true]) (by simp [results, Tryz.results46, go_sem, d0, d1, d2]) rfl ⟨by rw [HS.out]; rfl, below3 (Below.chain hb0 hb1) (Nat.le_refl _) 0 (T, vo, vn)⟩
end Go.Proofs.YtjgckfcocmhnhaaGreatDoor.Hy
namespace Go.Proofs.YtjgckfcocmhnhaaGreatDoor.Hy
open Go.RowKit
set_option maxHeartbeats 2000000 in
theorem last_any (p : Nat) (lv : Value) (ao : Option Addr) (n cap : Nat) (l : List Smp) (w : World) (hp : Sr w p lv (.slice ao n cap)) (hs : Ms w ao n l) (hn : 0 < n ∧ n ≤ 1000000) :
  Calls Tryz.prog 40 #[.pointer (some ⟨p, 0, none⟩)] w fun e w' => e = .returned (.int .i64 (lst l).1) ∧ Below w.heap.size w w' := by
 have hb := Below.refl w.heap.size w
 have hln := hs.1
 obtain ⟨b, off, rfl, hc⟩ := hs.all hn.1
 obtain ⟨q, hq⟩ : ∃ q, q + 1 = n := ⟨n - 1, by omega⟩
 obtain ⟨k0, _, _⟩ := hc _ (Below.refl _ _) q (by omega)
 have HQ : Hid (l.getD q s0 = lst l) := by show _ = _; unfold lst; rw [hln, show n - 1 = q by omega]
 rw [HQ.out] at k0
 have h1 := hp.c1
 have hqn : q < n := by omega
 have hn6 : n ≤ 1000000 := hn.2
 subst hq
 clear hc hp hs hn hln HQ
 generalize (lst l).1 = T at *
 go_enter Tryz.func40, Tryz.ntmps40
 go_wp2_with fail
 go_quiet (fail)
 go_wp2
 go_ret
 exact ⟨rfl, below_drewN hb _⟩
set_option maxHeartbeats 2000000 in
theorem there_any (hb p : Nat) (now : Int) (lv : Value) (ao : Option Addr) (n cap : Nat) (l : List Smp) (w : World) (h0 : w.cell? ⟨hb, 0, none⟩ = some (.int .i64 now)) (hnow : -1000000000 ≤ now ∧ now ≤ 1000000000) (hp : Sr w p lv (.slice ao n cap)) (hs : Ms w ao n l) (hn : 0 < n ∧ n ≤ 1000000) :
  Calls Tryz.prog 39 #[.pointer (some ⟨hb, 0, none⟩), .pointer (some ⟨p, 0, none⟩)] w fun e w' => e = .returned (.bool (decide (now - 100 < (lst l).1))) ∧ Below w.heap.size w w' := by
 have hla := fun W (hW : Below w.heap.size w W) => last_any p lv ao n cap l W (hp.later hW) (hs.later hW) hn
 have EW : Hid (IntKind.i64.wrap (now - 100) = now - 100) := wI (by omega) (by omega)
 have qz : w.drew.cell? ⟨hb, 0, none⟩ = some (.int .i64 now) := h0
 have hbd : Below w.heap.size w w.drew := (Below.refl _ _).drew
 clear hp hs
 go_enter Tryz.func39, Tryz.ntmps39
 go_wp2_with fail
 have hS0 : (fun W : World => W.cell? ⟨hb, 0, none⟩ = some (Value.int .i64 now)) _ := qz
 refine wp_region_noPanic ?_
 refine wp_region_held_drew (S := fun W : World => W.cell? ⟨hb, 0, none⟩ = some (Value.int .i64 now)) (by kernel_rfl) hS0 (fun _ => ?_)
 refine take_at 0 (some 5) (.pointer (some ⟨p, 0, none⟩)) rfl rfl (by kernel_rfl) (by kernel_rfl) (by kernel_rfl) (fun _ _ _ h => h) (by rfl) (fun W hSw => by have q0 : W.cell? ⟨hb, 0, none⟩ = some (Value.int .i64 now) := hSw; go_simp) hS0 ?_
 simp only [Act.put, List.setIfInBounds_toArray, List.set_cons_zero, List.set_cons_succ]
 refine take_at 2 (some 7) (.pointer (some ⟨hb, 0, none⟩)) rfl rfl (by kernel_rfl) (by kernel_rfl) (by kernel_rfl) (fun _ _ _ h => h) (by rfl) (fun W hSw => by have q0 : W.cell? ⟨hb, 0, none⟩ = some (Value.int .i64 now) := hSw; go_simp) hS0 ?_
 simp only [Act.put, List.setIfInBounds_toArray, List.set_cons_zero, List.set_cons_succ]
 refine take_at 3 (some 8) (.pointer (some ⟨hb, 0, none⟩)) rfl rfl (by kernel_rfl) (by kernel_rfl) (by kernel_rfl) (fun _ _ _ h => h) (by rfl) (fun W hSw => by have q0 : W.cell? ⟨hb, 0, none⟩ = some (Value.int .i64 now) := hSw; go_simp) hS0 ?_
 simp only [Act.put, List.setIfInBounds_toArray, List.set_cons_zero, List.set_cons_succ]
 refine take_at 4 (some 9) (.pointer (some ⟨hb, 0, none⟩)) rfl rfl (by kernel_rfl) (by kernel_rfl) (by kernel_rfl) (fun _ _ _ h => h) (by rfl) (fun W hSw => by have q0 : W.cell? ⟨hb, 0, none⟩ = some (Value.int .i64 now) := hSw; go_simp) hS0 ?_
 simp only [Act.put, List.setIfInBounds_toArray, List.set_cons_zero, List.set_cons_succ]
 refine take_at 5 (some 10) (.int .i64 now) rfl rfl (by kernel_rfl) (by kernel_rfl) (by kernel_rfl) (fun _ _ _ h => h) (by rfl) (fun W hSw => by have q0 : W.cell? ⟨hb, 0, none⟩ = some (Value.int .i64 now) := hSw; go_simp) hS0 ?_
 simp only [Act.put, List.setIfInBounds_toArray, List.set_cons_zero, List.set_cons_succ]
 refine take_at 6 (some 11) (.int .i64 (now - 100)) rfl rfl (by kernel_rfl) (by kernel_rfl) (by kernel_rfl) (fun _ _ _ h => h) (by rfl) (fun W hSw => by go_simp; exact EW.out) hS0 ?_
 simp only [Act.put, List.setIfInBounds_toArray, List.set_cons_zero, List.set_cons_succ]
 refine wpAnyH_ready (rs := [1]) (by kernel_rfl) (by simp) ?_
 refine AllReadyH.cons rfl (fun K hK => ?_) AllReadyH.nil
 go_simp
 refine (hla _ (Below.refl _ _).drew).mono ?_
 rintro e w1 ⟨rfl, hb1⟩
 have qz1 := (hb1.cell (World.block_lt_of_cell? _ _ qz)).trans qz
 have hS1 := (qz1 : (fun W : World => W.cell? ⟨hb, 0, none⟩ = some (Value.int .i64 now)) w1)
 refine hK.out _ _ hS1 (fun _ => ?_)
 clear hK K
 refine take_at 7 (some 12) (.bool (decide (now - 100 < (lst l).1))) rfl rfl (by kernel_rfl) (by kernel_rfl) (by kernel_rfl) (fun _ _ _ h => h) (by rfl) (fun W hSw => by go_simp) hS1 ?_
 simp only [Act.put, List.setIfInBounds_toArray, List.set_cons_zero, List.set_cons_succ]
 refine take_at 8 (some 4) (.bool (decide (now - 100 < (lst l).1))) rfl rfl (by kernel_rfl) (by kernel_rfl) (by kernel_rfl) (fun _ _ _ h => h) (by rfl) (fun W hSw => by have q0 : W.cell? ⟨hb, 0, none⟩ = some (Value.int .i64 now) := hSw; go_simp) hS1 ?_
 simp only [Act.put, List.setIfInBounds_toArray, List.set_cons_zero, List.set_cons_succ]
 refine wpAnyH_done (by kernel_rfl) ?_ _
 refine NoPanic.normal ?_
 have hbe := Below.chain hbd hb1
 go_wp2
 go_ret
 exact ⟨rfl, hbe⟩
/-- A series of the document: where it lies, its set's slice, its samples' slice, its samples. -/
abbrev Rec := Nat × Value × Option Addr × Nat × Nat × List Smp
def r0 : Rec := (0, .slice none 0 0, none, 0, 0, [])
/-- A slice of pointers to these. -/
def Pp (w : World) (ao : Option Addr) (n : Nat) (rs : List Rec) : Prop := rs.length = n ∧ (0 < n → ∃ b off, ao = some ⟨b, off, none⟩ ∧ ∀ j, j < n → w.cell? ⟨b, off + j, none⟩ = some (.pointer (some ⟨(rs.getD j r0).1, 0, none⟩)))
theorem Pp.all {w : World} {ao : Option Addr} {n : Nat} {rs : List Rec} (hs : Pp w ao n rs) (h : 0 < n) : ∃ b off, ao = some ⟨b, off, none⟩ ∧ ∀ W, Below w.heap.size w W → ∀ j, j < n → W.cell? ⟨b, off + j, none⟩ = some (.pointer (some ⟨(rs.getD j r0).1, 0, none⟩)) := by
 obtain ⟨b, off, e, hc⟩ := hs.2 h
 exact ⟨b, off, e, fun W hW j hj => (hW.cell (World.block_lt_of_cell? _ _ (hc j hj))).trans (hc j hj)⟩
theorem Pp.kept {w w' : World} {ao : Option Addr} {n : Nat} {rs : List Rec} (h : Pp w ao n rs) {row : Option Nat} (hg : w.grownBy w' row) (hne : ∀ a, ao = some a → 0 < n → some a.block ≠ row) : Pp w' ao n rs := by
 refine ⟨h.1, fun hp => ?_⟩
 obtain ⟨b, off, e, hc⟩ := h.2 hp
 have hx := hne _ e hp
 exact ⟨b, off, e, fun j hj => hg.cell (hc j hj) hx⟩
/-- One of them in memory. -/
structure Rm (w : World) (r : Rec) : Prop where
 s : Sr w r.1 r.2.1 (.slice r.2.2.1 r.2.2.2.1 r.2.2.2.2.1)
 m : Ms w r.2.2.1 r.2.2.2.1 r.2.2.2.2.2
 n : 0 < r.2.2.2.1 ∧ r.2.2.2.1 ≤ 1000000
theorem Rm.later {w w' : World} {r : Rec} (h : Rm w r) (hb : Below w.heap.size w w') : Rm w' r := ⟨h.s.later hb, h.m.later hb, h.n⟩
/-- A history in memory. -/
structure Hm (w : World) (hb : Nat) (now : Int) (ao : Option Addr) (n cap : Nat) (rs : List Rec) : Prop where
 c0 : w.cell? ⟨hb, 0, none⟩ = some (.int .i64 now)
 c1 : w.cell? ⟨hb, 1, none⟩ = some (.slice ao n cap)
 p : Pp w ao n rs
 r : ∀ r ∈ rs, Rm w r
 now_ : 0 ≤ now ∧ now ≤ 1000000
 n_ : n ≤ 1000000
theorem Hm.lt {w : World} {hb : Nat} {now : Int} {ao : Option Addr} {n cap : Nat} {rs : List Rec} (h : Hm w hb now ao n cap rs) : hb < w.heap.size := World.block_lt_of_cell? _ _ h.c0
theorem Hm.later {w w' : World} {hb : Nat} {now : Int} {ao : Option Addr} {n cap : Nat} {rs : List Rec} (h : Hm w hb now ao n cap rs) (hw : Below w.heap.size w w') : Hm w' hb now ao n cap rs :=
 ⟨(hw.cell (World.block_lt_of_cell? _ _ h.c0)).trans h.c0, (hw.cell (World.block_lt_of_cell? _ _ h.c1)).trans h.c1, h.p.kept (grown_below hw none) (by simp), fun r hr => (h.r r hr).later hw, h.now_, h.n_⟩
theorem getD_memR {rs : List Rec} {j : Nat} (h : j < rs.length) : rs.getD j r0 ∈ rs := by
 rw [List.getD_eq_getElem?_getD, List.getElem?_eq_getElem h]
 exact List.getElem_mem h
/-- Is it there? -/
def thr (now : Int) (r : Rec) : Bool := decide (now - 100 < (lst r.2.2.2.2.2).1)
/-- How many of the first j are there. -/
def lvN (now : Int) (rs : List Rec) : Nat → Nat
 | 0 => 0
 | j + 1 => lvN now rs j + (if thr now (rs.getD j r0) then 1 else 0)
theorem lvN_le (now : Int) (rs : List Rec) : ∀ j, lvN now rs j ≤ j
 | 0 => Nat.le_refl 0
 | j + 1 => by
  have := lvN_le now rs j
  unfold lvN
  split <;> omega
set_option maxHeartbeats 4000000 in
theorem live_any (hb : Nat) (now : Int) (ao : Option Addr) (n cap : Nat) (rs : List Rec) (w : World) (h : Hm w hb now ao n cap rs) :
  Calls Tryz.prog 41 #[.pointer (some ⟨hb, 0, none⟩)] w fun e w' => e = .returned (.int .i64 (lvN now rs n : Nat)) ∧ Below w.heap.size w w' := by
 have HH : Hid (∀ W, Below w.heap.size w W → Hm W hb now ao n cap rs) := fun W hW => h.later hW
 have HC1 : Hid (∀ W, Below w.heap.size w W → W.cell? ⟨hb, 1, none⟩ = some (.slice ao n cap)) := fun W hW => (h.later hW).c1
 have hln : rs.length = n := h.p.1
 have hn6 := h.n_
 have hb0 := Below.refl w.heap.size w
 clear h
 go_enter Tryz.func41, Tryz.ntmps41
 go_wp2_with fail
 go_loopw [4, 3] (fun t v wr => ∃ j : Nat, j ≤ n ∧ t = .int .i64 j ∧ v = .int .i64 (lvN now rs j : Nat) ∧ Below w.heap.size w wr) (fun t _ _ => n - (intOf t).toNat)
 case atStart => exact ⟨0, by omega, rfl, rfl, hb0⟩
 case round =>
  obtain ⟨j, hj, rfl, rfl, hbr⟩ := hrel
  have h1 := HC1.out _ hbr
  by_cases hlt : j < n
  ·
   have hd : decide ((j : Int) < (n : Int)) = true := decide_eq_true (by omega)
   have hh := HH.out _ hbr
   obtain ⟨b, off, rfl, hc⟩ := hh.p.2 (by omega)
   have hcj := hc j hlt
   have hrm := hh.r _ (getD_memR (by omega : j < rs.length))
   have hth := there_any hb _ now _ _ _ _ _ wr hh.c0 (by have := hh.now_; omega) hrm.s hrm.m hrm.n
   have HN : Hid (lvN now rs (j + 1) = lvN now rs j + (if decide (now - 100 < (lst (rs.getD j r0).2.2.2.2.2).1) then 1 else 0)) := rfl
   have hle := lvN_le now rs j
   clear hc hh hrm
   generalize (lst (rs.getD j r0).2.2.2.2.2).1 = T at *
   generalize (rs.getD j r0).1 = p at *
   obtain ⟨u', hu'⟩ : ∃ u', lvN now rs (j + 1) = u' := ⟨_, rfl⟩
   have HU : Hid (lvN now rs (j + 1) = u') := hu'
   rw [hu'] at HN
   clear hu'
   generalize lvN now rs j = u at *
   have hu6 : u ≤ 1000000 := by omega
   obtain ⟨CB, hCB⟩ : ∃ CB : Bool, decide (now - 100 < T) = CB := ⟨_, rfl⟩
   rw [hCB] at hth HN
   clear hCB hle
   go_wp2_with fail
   refine hth.mono ?_
   rintro e w1 ⟨rfl, hb1⟩
   have hb2 := Below.chain hbr hb1
   cases CB with
   | true =>
    have HV : Hid (u' = u + 1) := HN.out
    clear HN
    go_wp2
    go_roundw
    case rel => exact ⟨j + 1, by omega, by go_num, by rw [HU.out, HV.out]; first | rfl | go_num, hb2⟩
    case measure => simp [intOf]; omega
   | false =>
    have HV : Hid (u' = u) := HN.out
    clear HN
    go_wp2
    go_roundw
    case rel => exact ⟨j + 1, by omega, by go_num, by rw [HU.out, HV.out], hb2⟩
    case measure => simp [intOf]; omega
  ·
   have hd : decide ((j : Int) < (n : Int)) = false := decide_eq_false (by omega)
   have hd' : decide (j < n) = false := decide_eq_false hlt
   obtain rfl : j = n := by omega
   go_wp2
   go_ret
   exact ⟨rfl, hbr⟩
end Go.Proofs.YtjgckfcocmhnhaaGreatDoor.Hy
namespace Go.Proofs.YtjgckfcocmhnhaaGreatDoor.Hy
open Go.RowKit
/-- Where the first one lies that fits. -/
def Fst (S : Nat → Bool) (n : Nat) : Option Nat → Prop
 | none => ∀ j, j < n → S j = false
 | some j => j < n ∧ S j = true ∧ ∀ i, i < j → S i = false
def ptO (rs : List Rec) : Option Nat → Value
 | none => .pointer none
 | some j => .pointer (some ⟨(rs.getD j r0).1, 0, none⟩)
set_option maxHeartbeats 4000000 in
theorem find_any (hb : Nat) (now : Int) (ao : Option Addr) (n cap : Nat) (rs : List Rec) (q : Value) (S : Nat → Bool) (w : World) (h : Hm w hb now ao n cap rs)
  (hsame : ∀ j, j < n → ∀ W, Below w.heap.size w W → Calls Tryz.prog 45 #[(rs.getD j r0).2.1, q] W fun e w' => e = .returned (.bool (S j)) ∧ Below W.heap.size W w') :
  Calls Tryz.prog 38 #[.pointer (some ⟨hb, 0, none⟩), q] w fun e w' => ∃ o, e = .returned (ptO rs o) ∧ Fst S n o ∧ Below w.heap.size w w' := by
 have HH : Hid (∀ W, Below w.heap.size w W → Hm W hb now ao n cap rs) := fun W hW => h.later hW
 have HC1 : Hid (∀ W, Below w.heap.size w W → W.cell? ⟨hb, 1, none⟩ = some (.slice ao n cap)) := fun W hW => (h.later hW).c1
 have hln : rs.length = n := h.p.1
 have hn6 := h.n_
 have hb0 := Below.refl w.heap.size w
 clear h
 go_enter Tryz.func38, Tryz.ntmps38
 go_wp2_with fail
 go_loopw [5] (fun t wr => ∃ j : Nat, Hid (j ≤ n ∧ ∀ i, i < j → S i = false) ∧ t = .int .i64 j ∧ Below w.heap.size w wr) (fun t _ => n - (intOf t).toNat)
 case atStart => exact ⟨0, ⟨by omega, fun i hi => absurd hi (Nat.not_lt_zero _)⟩, rfl, hb0⟩
 case round =>
  obtain ⟨j, HJ, rfl, hbr⟩ := hrel
  have hj := HJ.out.1
  have h1 := HC1.out _ hbr
  by_cases hlt : j < n
  ·
   have hd : decide ((j : Int) < (n : Int)) = true := decide_eq_true (by omega)
   have hh := HH.out _ hbr
   obtain ⟨b, off, rfl, hc⟩ := hh.p.all (by omega)
   have hcj := hc _ (Below.refl _ _) j hlt
   have hrm := hh.r _ (getD_memR (by omega : j < rs.length))
   have hc0 := hrm.s.c0
   have hsj := hsame j hlt
   have HP : Hid (ptO rs (some j) = .pointer (some ⟨(rs.getD j r0).1, 0, none⟩)) := rfl
   have HCJ : Hid (∀ W, Below wr.heap.size wr W → W.cell? ⟨b, off + j, none⟩ = some (.pointer (some ⟨(rs.getD j r0).1, 0, none⟩))) := fun W hW => hc W hW j hlt
   clear hh hrm hc
   generalize (rs.getD j r0).2.1 = lv at *
   generalize (rs.getD j r0).1 = p at *
   obtain ⟨CB, hCB⟩ : ∃ CB : Bool, S j = CB := ⟨_, rfl⟩
   have HS : Hid (S j = CB) := hCB
   rw [hCB] at hsj
   clear hCB
   go_wp2_with fail
   refine (hsj _ hbr).mono ?_
   rintro e w1 ⟨rfl, hb1⟩
   have hb2 := Below.chain hbr hb1
   have h2 := HC1.out _ hb2
   have hcj2 := HCJ.out _ hb1
   cases CB with
   | true =>
    go_wp2
    go_ret
    exact ⟨some j, by rw [HP.out]; rfl, ⟨hlt, HS.out, HJ.out.2⟩, hb2⟩
   | false =>
    have HJ2 : Hid (j + 1 ≤ n ∧ ∀ i, i < j + 1 → S i = false) := ⟨hlt, fun i hi => by
     by_cases e : i = j
     ·
      rw [e]; exact HS.out
     ·
      exact HJ.out.2 i (by omega)⟩
    go_wp2
    go_roundw
    case rel => exact ⟨j + 1, HJ2, by go_num, hb2⟩
    case measure => simp [intOf]; omega
  ·
   have hd : decide ((j : Int) < (n : Int)) = false := decide_eq_false (by omega)
   have hd' : decide (j < n) = false := decide_eq_false hlt
   obtain rfl : j = n := by omega
   go_wp2
   go_ret
   exact ⟨none, rfl, HJ.out.2, hbr⟩
def pt (r : Rec) : Value := .pointer (some ⟨r.1, 0, none⟩)
/-- A row of pointers that a call makes. -/
def OwnP (w : World) (base : Nat) (v : Value) (L : List Rec) : Prop := w.ownsRow base 89 1 v L.length (L.map pt)
theorem infoP : (Tryz.prog.info? 89).map (fun i => (i.zero, i.size, i.bytes)) = some (some (.pointer none), 1, 8) := by kernel_rfl
theorem infoP_parts : ∃ i, Tryz.prog.info? 89 = some i ∧ i.zero = some (.pointer none) ∧ i.size = 1 ∧ i.bytes = 8 := by
 have h := infoP
 cases hi : Tryz.prog.info? 89 with
 | none => rw [hi] at h; cases h
 | some i =>
  rw [hi] at h
  simp only [Option.map_some, Option.some.injEq, Prod.mk.injEq] at h
  exact ⟨i, rfl, h.1, h.2.1, h.2.2⟩
theorem zeroP : (Value.pointer none).cells.size = 1 := by kernel_rfl
theorem OwnP.later {w w' : World} {base : Nat} {v : Value} {L : List Rec} (h : OwnP w base v L) (hb : Below w.heap.size w w') : OwnP w' base v L := World.ownsRow.kept h (grown_below hb none) (by cases hv : v.ownBlock <;> simp)
theorem OwnP.slice {w : World} {base : Nat} {v : Value} {L : List Rec} (h : OwnP w base v L) : ∃ ao cap, v = .slice ao L.length cap ∧ Pp w ao L.length L := by
 rcases h.2 with ⟨rfl, h0⟩ | ⟨g, cap, cur, rfl, hb, hg, hn, _, hs, ht⟩
 ·
  have : L = [] := List.length_eq_zero_iff.1 h0
  subst this
  exact ⟨none, 0, rfl, rfl, fun h => by simp at h⟩
 ·
  refine ⟨_, _, rfl, rfl, fun hp => ⟨g, 0, rfl, fun j hj => ?_⟩⟩
  have e := World.ownsRow.cellAt h j (by omega)
  rw [Nat.zero_add, e, List.getElem?_map, List.getElem?_eq_getElem hj, List.getD_eq_getElem?_getD, List.getElem?_eq_getElem hj]
  rfl
theorem ptr_new (w : World) (v : Value) : ∀ i u, [v][i]? = some u → (w.alloc (.cells #[v] 89)).cell? ((⟨w.heap.size, 0, none⟩ : Addr).add i) = some u := by
 intro i u hu
 cases i with
 | zero =>
  injection hu with hu
  subst hu
  show (w.alloc _).cell? ⟨w.heap.size, 0, none⟩ = _
  rw [World.cell?_alloc_new]
  rfl
 | succ i => simp at hu
/-- Those of the first j that are wanted. -/
def stN (G : Nat → Bool) (rs : List Rec) : Nat → List Rec
 | 0 => []
 | j + 1 => stN G rs j ++ (if G j then [rs.getD j r0] else [])
theorem stN_len (G : Nat → Bool) (rs : List Rec) : ∀ j, (stN G rs j).length ≤ j
 | 0 => Nat.le_refl 0
 | j + 1 => by
  have := stN_len G rs j
  unfold stN
  rw [List.length_append]
  split <;> simp <;> omega
set_option maxHeartbeats 8000000 in
theorem sets_any (hb : Nat) (now : Int) (ao : Option Addr) (n cap : Nat) (rs : List Rec) (t : Int) (q : Value) (A : Nat → Bool) (w : World) (h : Hm w hb now ao n cap rs) (ht : -1000000000 ≤ t ∧ t ≤ 1000000000)
  (hall : ∀ j, j < n → ∀ W, Below w.heap.size w W → Calls Tryz.prog 78 #[(rs.getD j r0).2.1, q] W fun e w' => e = .returned (.bool (A j)) ∧ Below W.heap.size W w') :
  Calls Tryz.prog 44 #[.pointer (some ⟨hb, 0, none⟩), .int .i64 t, q] w fun e w' => ∃ v, e = .returned v ∧ OwnP w' w.heap.size v (stN (fun j => decide (0 < (bet (t - 100) t (rs.getD j r0).2.2.2.2.2).length) && A j) rs n) ∧ Below w.heap.size w w' := by
 obtain ⟨i0, hi, hz0, hz1, hz2⟩ := infoP_parts
 obtain ⟨G, hG⟩ : ∃ G : Nat → Bool, (fun j => decide (0 < (bet (t - 100) t (rs.getD j r0).2.2.2.2.2).length) && A j) = G := ⟨_, rfl⟩
 rw [hG]
 have HG : Hid (∀ j, G j = (decide (0 < (bet (t - 100) t (rs.getD j r0).2.2.2.2.2).length) && A j)) := fun j => by rw [← hG]
 clear hG
 have HH : Hid (∀ W, Below w.heap.size w W → Hm W hb now ao n cap rs) := fun W hW => h.later hW
 have HC1 : Hid (∀ W, Below w.heap.size w W → W.cell? ⟨hb, 1, none⟩ = some (.slice ao n cap)) := fun W hW => (h.later hW).c1
 have hln : rs.length = n := h.p.1
 have hn6 := h.n_
 have hb0 := Below.refl w.heap.size w
 have HW : Hid (wrap64 (t - 100) = t - 100) := wf64 (by omega) (by omega)
 clear h ht
 go_enter Tryz.func44, Tryz.ntmps44
 go_wp2_with fail
 go_loopw [8, 7] (fun i v wr => ∃ (j : Nat) (x : Value), Hid (j ≤ n) ∧ i = .int .i64 j ∧ v = x ∧ OwnP wr w.heap.size x (stN G rs j) ∧ Below w.heap.size w wr) (fun i _ _ => n - (intOf i).toNat)
 case atStart => exact ⟨0, _, Nat.zero_le _, rfl, rfl, World.ownsRow_nil w w.heap.size 89 1, hb0⟩
 case round =>
  obtain ⟨j, x, HJ, rfl, hx, ho, hbr⟩ := hrel
  subst hx
  have hj : j ≤ n := HJ.out
  have h1 := HC1.out _ hbr
  by_cases hlt : j < n
  ·
   have hd : decide ((j : Int) < (n : Int)) = true := decide_eq_true (by omega)
   have hh := HH.out _ hbr
   obtain ⟨b, off, rfl, hc⟩ := hh.p.all (by omega)
   have hcj := hc _ (Below.refl _ _) j hlt
   have hrm := hh.r _ (getD_memR (by omega : j < rs.length))
   have hbt := between_any (rs.getD j r0).1 _ _ _ _ _ (t - 100) t wr hrm.s hrm.m hrm.n.2
   have HCL : Hid (∀ W, Below w.heap.size w W → W.cell? ⟨(rs.getD j r0).1, 0, none⟩ = some (rs.getD j r0).2.1) := fun W hW => ((HH.out W hW).r _ (getD_memR (by omega : j < rs.length))).s.c0
   have hsj := hall j hlt
   have HN : Hid (stN G rs (j + 1) = stN G rs j ++ (if G j then [rs.getD j r0] else [])) := rfl
   have hlen : (stN G rs j).length ≤ 1000000 := by have := stN_len G rs j; omega
   have HGj : Hid (G j = (decide (0 < (bet (t - 100) t (rs.getD j r0).2.2.2.2.2).length) && A j)) := HG.out j
   have hlb : (bet (t - 100) t (rs.getD j r0).2.2.2.2.2).length ≤ 1000000 := by
    have := bet_len (t - 100) t (rs.getD j r0).2.2.2.2.2
    have := hrm.m.1
    have := hrm.n.2
    omega
   clear hh hrm
   obtain ⟨rc, hrc⟩ : ∃ rc, rs.getD j r0 = rc := ⟨_, rfl⟩
   rw [hrc] at hcj hbt hsj
   have HCL2 : Hid (∀ W, Below w.heap.size w W → W.cell? ⟨rc.1, 0, none⟩ = some rc.2.1) := by rw [← hrc]; exact HCL.out
   have HN2 : Hid (stN G rs (j + 1) = stN G rs j ++ (if G j then [rc] else [])) := by rw [← hrc]; exact HN.out
   have HCJ : Hid (∀ W, Below wr.heap.size wr W → W.cell? ⟨b, off + j, none⟩ = some (.pointer (some ⟨rc.1, 0, none⟩))) := fun W hW => by rw [← hrc]; exact hc W hW j hlt
   rw [hrc] at HGj hlb
   clear hrc HCL HN hc
   generalize stN G rs j = L at *
   generalize bet (t - 100) t rc.2.2.2.2.2 = B at *
   obtain ⟨p, lv, rc2⟩ := rc
   dsimp only at *
   have hPt : pt (p, lv, rc2) = .pointer (some ⟨p, 0, none⟩) := rfl
   have HPt : Hid _ := hPt
   clear hPt
   have ew := HW.out
   go_wp2_with fail
   refine hbt.mono ?_
   rintro e w1 ⟨v1, rfl, ho1, hb1⟩
   obtain ⟨ax, cx, rfl, mx⟩ := ho1.slice
   have hb2 := Below.chain hbr hb1
   have h2 := HC1.out _ hb2
   have hp2 := HCL2.out _ hb2
   have hcj2 := HCJ.out _ hb1
   have ho2 := ho.later hb1
   clear ho1 mx hbt ew
   by_cases hB : 0 < B.length
   ·
    have dB : decide ((0 : Int) < (B.length : Int)) = true := decide_eq_true (by omega)
    have dB' : decide (0 < B.length) = true := decide_eq_true hB
    obtain ⟨CB, hCB⟩ : ∃ CB : Bool, A j = CB := ⟨_, rfl⟩
    have HGv : Hid (G j = CB) := by show _ = _; rw [HGj.out, hCB, dB']; rfl
    rw [hCB] at hsj
    clear hCB hB HGj
    generalize B.length = bl at *
    go_wp2_with fail
    refine (hsj _ hb2).mono ?_
    rintro e w3 ⟨rfl, hb3⟩
    have hb4 := Below.chain hb2 hb3
    have h4 := HC1.out _ hb4
    have hcj4 := HCJ.out _ (Below.chain hb1 hb3)
    have ho4 := ho2.later hb3
    cases CB with
    | true =>
     have HV : Hid (stN G rs (j + 1) = L ++ [(p, lv, rc2)]) := by show _ = _; rw [HN2.out, HGv.out]; rfl
     have ho5 := ho4.later (bal (Below.refl _ w3) (.cells #[.pointer (some ⟨p, 0, none⟩)] 89))
     have hb5 := bal hb4 (.cells #[.pointer (some ⟨p, 0, none⟩)] 89)
     have hx5 := ptr_new w3 (.pointer (some ⟨p, 0, none⟩))
     clear h2 hp2 hcj2 ho ho2 hb1 hb2 hb3
     go_wp2_with (at_builtin; go_must (refine wpList_append_own _ rfl _ _ 28 rfl w.heap.size 89 i0 (.pointer none) 1 8 Tryz.underlying28 hi hz0 hz1 hz2 zeroP (by decide) _ _ _ rfl ho5 ⟨w3.heap.size, 0, none⟩ 1 1 [pt (p, lv, rc2)] rfl rfl ?hnews (by intro u hu; rw [List.mem_singleton.1 hu]; rfl) ?h63 ?hby ?hbs ?_))
     case hnews => first | exact hx5 | exact fun i u hu => hu
     case h63 => unfold maxLen; omega
     case hby => omega
     case hbs => have := hb4.size; first | omega | (simp; omega)
     intro v' w6 ho6 hg6 _
     go_wp2
     go_roundw
     case rel => exact ⟨j + 1, _, hlt, by go_num, rfl, by rw [HV.out]; show World.ownsRow _ _ _ _ _ (L ++ [(p, lv, rc2)]).length ((L ++ [(p, lv, rc2)]).map pt); rw [List.length_append, List.map_append]; exact ho6, hb5.grown hg6 hb5.size (fun k hk => (World.ownsRow.lt ho5 k hk).1)⟩
     case measure => simp [intOf]; omega
    | false =>
     have HV : Hid (stN G rs (j + 1) = L) := by show _ = _; rw [HN2.out, HGv.out]; exact List.append_nil _
     go_wp2
     go_roundw
     case rel => exact ⟨j + 1, _, hlt, by go_num, rfl, by rw [HV.out]; exact ho4, hb4⟩
     case measure => simp [intOf]; omega
   ·
    have dB : decide ((0 : Int) < (B.length : Int)) = false := decide_eq_false (by omega)
    have dB' : decide (0 < B.length) = false := decide_eq_false hB
    have HGv : Hid (G j = false) := by show _ = _; rw [HGj.out, dB']; rfl
    have HV : Hid (stN G rs (j + 1) = L) := by show _ = _; rw [HN2.out, HGv.out]; exact List.append_nil _
    clear hB HGj
    generalize B.length = bl at *
    go_wp2
    go_roundw
    case rel => exact ⟨j + 1, _, hlt, by go_num, rfl, by rw [HV.out]; exact ho2, hb2⟩
    case measure => simp [intOf]; omega
  ·
   have hd : decide ((j : Int) < (n : Int)) = false := decide_eq_false (by omega)
   have hd' : decide (j < n) = false := decide_eq_false hlt
   obtain rfl : j = n := by omega
   go_wp2
   go_ret
   exact ⟨_, rfl, ho, hbr⟩
end Go.Proofs.YtjgckfcocmhnhaaGreatDoor.Hy
