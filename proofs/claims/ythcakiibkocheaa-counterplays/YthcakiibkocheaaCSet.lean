/- A window in memory, written. -/
import Derived.Test.YthcakiibkocheaaCPlain
namespace Go.Proofs.Ythcakiibkocheaa
open Go.RowKit

theorem set_at {w : World} {b q j : Nat} {u v : Value} (h : w.cell? ⟨b, q, none⟩ = some u) : (w.setCell ⟨b, q, none⟩ v).cell? ⟨b, j, none⟩ = if j = q then some v else w.cell? ⟨b, j, none⟩ := by
  by_cases e : j = q
  · subst e
    rw [if_pos rfl, set_same h]
  · rw [if_neg e, set_other (by intro x; injection x with _ x _; exact e x.symm)]
theorem set_ne {w : World} {b q j : Nat} {v : Value} (h : j ≠ q) : (w.setCell ⟨b, q, none⟩ v).cell? ⟨b, j, none⟩ = w.cell? ⟨b, j, none⟩ := set_other (by intro x; injection x with _ x _; exact h x.symm)
abbrev set3 (w : World) (b q : Nat) (s : Smp) : World := ((w.setCell ⟨b, q, none⟩ (.int .i64 s.1)).setCell ⟨b, q + 1, none⟩ (.bool s.2.1)).setCell ⟨b, q + 2, none⟩ (.int .i64 s.2.2)
theorem grown3 (w : World) (b q : Nat) (s : Smp) : w.grownBy (set3 w b q s) (some b) := ((grown_set _ _ _ _).trans (grown_set _ _ _ _)).trans (grown_set _ _ _ _)
theorem set3_other (w : World) (b q : Nat) (s : Smp) {j : Nat} (h : j < q ∨ q + 2 < j) : (set3 w b q s).cell? ⟨b, j, none⟩ = w.cell? ⟨b, j, none⟩ := by
  rw [set_ne (by omega), set_ne (by omega), set_ne (by omega)]
theorem set3_same {w : World} {b q : Nat} {u0 u1 u2 : Value} (s : Smp) (h0 : w.cell? ⟨b, q, none⟩ = some u0) (h1 : w.cell? ⟨b, q + 1, none⟩ = some u1) (h2 : w.cell? ⟨b, q + 2, none⟩ = some u2) :
    (set3 w b q s).cell? ⟨b, q, none⟩ = some (.int .i64 s.1) ∧ (set3 w b q s).cell? ⟨b, q + 1, none⟩ = some (.bool s.2.1) ∧ (set3 w b q s).cell? ⟨b, q + 2, none⟩ = some (.int .i64 s.2.2) := by
  refine ⟨?_, ?_, ?_⟩
  · rw [set_ne (by omega), set_ne (by omega), set_same h0]
  · rw [set_ne (by omega)]
    exact set_same ((set_ne (by omega)).trans h1)
  · exact set_same ((set_ne (by omega)).trans ((set_ne (by omega)).trans h2))
theorem set3_frozen (w : World) (b q : Nat) (s : Smp) (a : Addr) : (set3 w b q s).frozen? a = w.frozen? a := by simp
theorem Rg.put {w : World} {b : Nat} {f : Nat → Smp} {c : Nat} {k now : Int} (h : Rg w b f c k now) {x : Nat} (hx : x < 100) (s : Smp) : Rg (set3 w b (x * 3) s) b (fun j => if j = x then s else f j) c k now := by
  obtain ⟨p0, p1, p2⟩ := set3_same s (h.ct x hx) (h.cv x hx) (h.cn x hx)
  refine ⟨fun j hj => ?_, fun j hj => ?_, fun j hj => ?_, (set3_other _ _ _ _ (by omega)).trans h.cc, (set3_other _ _ _ _ (by omega)).trans h.ck, (set3_other _ _ _ _ (by omega)).trans h.cw, fun j hj => (set3_frozen _ _ _ _ _).trans (h.fz j hj)⟩
  all_goals
    by_cases e : j = x
    · subst e
      rw [if_pos rfl]
      first | exact p0 | exact p1 | exact p2
    · rw [if_neg e]
      first | exact (set3_other _ _ _ _ (by omega)).trans (h.ct j hj) | exact (set3_other _ _ _ _ (by omega)).trans (h.cv j hj) | exact (set3_other _ _ _ _ (by omega)).trans (h.cn j hj)
theorem Rg.setC {w : World} {b : Nat} {f : Nat → Smp} {c : Nat} {k now : Int} (h : Rg w b f c k now) (c' : Nat) : Rg (w.setCell ⟨b, 300, none⟩ (.int .i64 c')) b f c' k now :=
  ⟨fun j hj => (set_ne (by omega)).trans (h.ct j hj), fun j hj => (set_ne (by omega)).trans (h.cv j hj), fun j hj => (set_ne (by omega)).trans (h.cn j hj), set_same h.cc, (set_ne (by omega)).trans h.ck, (set_ne (by omega)).trans h.cw, fun j hj => by simpa using h.fz j hj⟩
theorem Rg.setN {w : World} {b : Nat} {f : Nat → Smp} {c : Nat} {k now : Int} (h : Rg w b f c k now) (n : Int) : Rg (w.setCell ⟨b, 302, none⟩ (.int .i64 n)) b f c k n :=
  ⟨fun j hj => (set_ne (by omega)).trans (h.ct j hj), fun j hj => (set_ne (by omega)).trans (h.cv j hj), fun j hj => (set_ne (by omega)).trans (h.cn j hj), (set_ne (by omega)).trans h.cc, (set_ne (by omega)).trans h.ck, set_same h.cw, fun j hj => by simpa using h.fz j hj⟩

/-- A sample in a block of its own. -/
structure BoxS (w : World) (b : Nat) (s : Smp) : Prop where
  c0 : w.cell? ⟨b, 0, none⟩ = some (.int .i64 s.1)
  c1 : w.cell? ⟨b, 1, none⟩ = some (.bool s.2.1)
  c2 : w.cell? ⟨b, 2, none⟩ = some (.int .i64 s.2.2)
  f0 : w.frozen? ⟨b, 0, none⟩ = false
  f1 : w.frozen? ⟨b, 1, none⟩ = false
  f2 : w.frozen? ⟨b, 2, none⟩ = false
theorem BoxS.new (w : World) (s : Smp) : BoxS (w.alloc (.cells #[.int .i64 s.1, .bool s.2.1, .int .i64 s.2.2] 32)) w.heap.size s := by
  constructor <;> simp [go_sem]
theorem BoxS.lt {w : World} {b : Nat} {s : Smp} (h : BoxS w b s) : b < w.heap.size := World.block_lt_of_cell? _ _ h.c0
theorem BoxS.kept {w w' : World} {b : Nat} {s : Smp} (h : BoxS w b s) {row : Option Nat} (hg : w.grownBy w' row) (hne : some b ≠ row) : BoxS w' b s :=
  ⟨grown_cell hg h.c0 hne, grown_cell hg h.c1 hne, grown_cell hg h.c2 hne, grown_frozen hg h.lt h.f0 hne, grown_frozen hg h.lt h.f1 hne, grown_frozen hg h.lt h.f2 hne⟩
theorem BoxS.later {w w' : World} {b : Nat} {s : Smp} (h : BoxS w b s) (hb : Below w.heap.size w w') : BoxS w' b s := h.kept (grown_below hb none) (by simp)
theorem BoxS.put {w : World} {b : Nat} {s : Smp} (h : BoxS w b s) (t : Smp) : BoxS (set3 w b 0 t) b t := by
  obtain ⟨p0, p1, p2⟩ := set3_same t h.c0 h.c1 h.c2
  exact ⟨p0, p1, p2, (set3_frozen _ _ _ _ _).trans h.f0, (set3_frozen _ _ _ _ _).trans h.f1, (set3_frozen _ _ _ _ _).trans h.f2⟩
theorem below3 {B : Nat} {a w : World} (h : Below B a w) {b : Nat} (hb : B ≤ b) (q : Nat) (s : Smp) : Below B a (set3 w b q s) := ((h.setCell (p := ⟨b, q, none⟩) hb _).setCell (p := ⟨b, q + 1, none⟩) hb _).setCell (p := ⟨b, q + 2, none⟩) hb _

/-- A counter that holds these samples. -/
def Rl (w : World) (b : Nat) (l : List Smp) (k now : Int) : Prop := ∃ f, l.length ≤ 100 ∧ Rg w b f l.length k now ∧ ∀ i, i < l.length → f i = l.getD i s0
theorem Rl.kept {w w' : World} {b : Nat} {l : List Smp} {k now : Int} (h : Rl w b l k now) {row : Option Nat} (hg : w.grownBy w' row) (hne : some b ≠ row) : Rl w' b l k now := by
  obtain ⟨f, hl, hr, hf⟩ := h
  exact ⟨f, hl, hr.kept hg hne, hf⟩
theorem Rl.later {w w' : World} {b : Nat} {l : List Smp} {k now : Int} (h : Rl w b l k now) (hb : Below w.heap.size w w') : Rl w' b l k now := h.kept (grown_below hb none) (by simp)
theorem Rl.lt {w : World} {b : Nat} {l : List Smp} {k now : Int} (h : Rl w b l k now) : b < w.heap.size := by
  obtain ⟨f, hl, hr, hf⟩ := h
  exact hr.lt
theorem Rl.new {w : World} {b : Nat} {k now : Int} (h : Rg w b (fun _ => s0) 0 k now) : Rl w b [] k now := ⟨_, by simp, h, fun i hi => absurd hi (Nat.not_lt_zero _)⟩
theorem Rl.push {w' : World} {b : Nat} {f : Nat → Smp} {l : List Smp} {k now : Int} {s : Smp} (hl : l.length < 100) (hf : ∀ i, i < l.length → f i = l.getD i s0)
    (h : Rg w' b (fun j => if j = l.length then s else f j) (l.length + 1) k now) : Rl w' b (l ++ [s]) k now := by
  have e : (l ++ [s]).length = l.length + 1 := by simp
  refine ⟨_, by omega, by rw [e]; exact h, fun i hi => ?_⟩
  rw [e] at hi
  by_cases h1 : i = l.length
  · subst h1
    rw [if_pos rfl, List.getD_eq_getElem?_getD, List.getElem?_append_right (Nat.le_refl _), Nat.sub_self]
    rfl
  · rw [if_neg (by omega), hf i (by omega), List.getD_eq_getElem?_getD, List.getD_eq_getElem?_getD, List.getElem?_append_left (by omega)]
theorem Rl.time {w : World} {b : Nat} {l : List Smp} {k now : Int} (h : Rl w b l k now) : w.cell? ⟨b, 302, none⟩ = some (.int .i64 now) := by
  obtain ⟨f, hl, hr, hf⟩ := h
  exact hr.cw
theorem Rl.width {w : World} {b : Nat} {l : List Smp} {k now : Int} (h : Rl w b l k now) : w.cell? ⟨b, 301, none⟩ = some (.int .i64 k) := by
  obtain ⟨f, hl, hr, hf⟩ := h
  exact hr.ck
theorem Rl.count {w : World} {b : Nat} {l : List Smp} {k now : Int} (h : Rl w b l k now) : w.cell? ⟨b, 300, none⟩ = some (.int .i64 l.length) := by
  obtain ⟨f, hl, hr, hf⟩ := h
  exact hr.cc
theorem Rl.le {w : World} {b : Nat} {l : List Smp} {k now : Int} (h : Rl w b l k now) : l.length ≤ 100 := h.choose_spec.1
theorem wI {x : Int} (h0 : -9223372036854775808 ≤ x) (h1 : x ≤ 9223372036854775807) : IntKind.i64.wrap x = x := by rw [IntKind.wrap_i64]; omega
end Go.Proofs.Ythcakiibkocheaa
