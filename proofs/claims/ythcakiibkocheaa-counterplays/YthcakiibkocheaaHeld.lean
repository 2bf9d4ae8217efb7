/- Regions that draw their order: an operation that yields its value in every world that meets the condition is taken first. -/
import Derived.Test.YthcakiibkocheaaLeaf
namespace Go.Proofs.Ythcakiibkocheaa
open Go.RowKit

theorem take_at {P : Program} {ops : Array Oper} {Q : Exit → Act → World → Prop} {md : Region.Mode} {S : World → Prop} (i : Nat) (d : Option Tmp) (v : Value) {oi : Oper} {fuel : Nat} {listed : Array Bool} {a : Act} {w : World} (hi : ops[i]? = some oi) (hd : oi.dst = d)
    (hs : Region.noSelect ops = true) (hf : Region.free md ops listed i = true) (hr : (Region.ready md ops listed).contains i = true)
    (hQ : ∀ c a w, Q (.panic c) (a.put oi.dst v) w → Q (.panic c) a w) (hw : Region.wanted oi (yielded ops a.tmps) = true) (hy : ∀ w, S w → (execOp a.eval oi).run P w = .ok (.value v) w) (hS : S w)
    (h : wpAnyH P md ops Q S fuel (listed.setIfInBounds i true) (a.put d v) w) : wpAnyH P md ops Q S (fuel + 1) listed a w := by
  subst hd
  exact wpAnyH_take hi hs hf hr hQ (Or.inl ⟨hw, hy⟩) hS h
theorem skip_at {P : Program} {ops : Array Oper} {Q : Exit → Act → World → Prop} {md : Region.Mode} {S : World → Prop} (i : Nat) (d : Option Tmp) {oi : Oper} {fuel : Nat} {listed : Array Bool} {a : Act} {w : World} (hi : ops[i]? = some oi) (hd : oi.dst = d)
    (hs : Region.noSelect ops = true) (hf : Region.free md ops listed i = true) (hr : (Region.ready md ops listed).contains i = true)
    (hQ : ∀ c a w, Q (.panic c) (a.put oi.dst undef) w → Q (.panic c) a w) (hw : Region.wanted oi (yielded ops a.tmps) = false) (hS : S w)
    (h : wpAnyH P md ops Q S fuel (listed.setIfInBounds i true) (a.put d undef) w) : wpAnyH P md ops Q S (fuel + 1) listed a w := by
  subst hd
  exact wpAnyH_take hi hs hf hr hQ (Or.inr ⟨hw, rfl⟩) hS h
/-- Another condition on the world, which gives the first. -/
theorem other_cond {P : Program} {ops : Array Oper} {Q : Exit → Act → World → Prop} {md : Region.Mode} (S S' : World → Prop) (hS : ∀ w, S' w → S w) : ∀ (fuel : Nat) (listed : Array Bool) (a : Act) (w : World), wpAnyH P md ops Q S' fuel listed a w → wpAnyH P md ops Q S fuel listed a w
  | 0, _, _, _, h => h
  | fuel + 1, _, _, _, h => ⟨h.1, fun i hi => wpOp_mono (fun a' w' h' => ⟨hS _ h'.1, other_cond S S' hS fuel _ a' w' h'.2⟩) (h.2 i hi)⟩

theorem set_other {w : World} {a b : Addr} {v : Value} (h : a ≠ b) : (w.setCell a v).cell? b = w.cell? b := by apply World.cell?_setCell_other; exact h
theorem set_same {w : World} {a : Addr} {u v : Value} (h : w.cell? a = some u) : (w.setCell a v).cell? a = some v := by apply World.cell?_setCell_same; exact h
/-- A cut behind a piece of code. -/
theorem region_mid {P : Program} {c : Code} {K : Act → World → Prop} {Q : Exit → Act → World → Prop} {a : Act} {w : World} (R : Act → World → Prop) (h1 : c.wp P (Exit.then R Q) a w) (h2 : ∀ a' w', R a' w' → K a' w') : c.wp P (Exit.then K Q) a w := by
  refine Code.wp_mono ?_ h1
  intro e a' w' h
  cases e <;> first | exact h2 _ _ h | exact h
/-- A number's block, wherever the heap has grown. -/
theorem Box.cells {w : World} {b : Nat} {o : Bool} {n : Int} (h : Box w b o n) : ∀ W, Below w.heap.size w W → W.cell? ⟨b, 0, none⟩ = some (.bool o) ∧ W.cell? ⟨b, 1, none⟩ = some (.int .i64 n) := fun _ hb => ⟨(h.later hb).c0, (h.later hb).c1⟩
theorem Box.at0 {w : World} {b : Nat} {o : Bool} {n : Int} (h : Box w b o n) : ∀ W, Below w.heap.size w W → W.cell? ⟨b, 0, none⟩ = some (.bool o) := fun _ hb => (h.later hb).c0
theorem Box.at1 {w : World} {b : Nat} {o : Bool} {n : Int} (h : Box w b o n) : ∀ W, Below w.heap.size w W → W.cell? ⟨b, 1, none⟩ = some (.int .i64 n) := fun _ hb => (h.later hb).c1
theorem Box.fr0 {w : World} {b : Nat} {o : Bool} {n : Int} (h : Box w b o n) : ∀ W, Below w.heap.size w W → W.frozen? ⟨b, 0, none⟩ = false := fun _ hb => (h.later hb).f0
theorem Box.fr1 {w : World} {b : Nat} {o : Bool} {n : Int} (h : Box w b o n) : ∀ W, Below w.heap.size w W → W.frozen? ⟨b, 1, none⟩ = false := fun _ hb => (h.later hb).f1
theorem Box.put {w : World} {b : Nat} {o p : Bool} {n m : Int} (h : Box w b o n) : Box ((w.setCell ⟨b, 0, none⟩ (.bool p)).setCell ⟨b, 1, none⟩ (.int .i64 m)) b p m := by
  obtain ⟨c0, c1, f0, f1⟩ := h
  constructor
  · rw [set_other (by intro e; cases e), set_same c0]
  · rw [set_same ((set_other (by intro e; cases e)).trans c1)]
  · simpa using f0
  · simpa using f1
theorem Box.put_other {w : World} {a b : Nat} {o p : Bool} {n m : Int} (h : Box w b o n) (hab : a ≠ b) : Box ((w.setCell ⟨a, 0, none⟩ (.bool p)).setCell ⟨a, 1, none⟩ (.int .i64 m)) b o n := by
  obtain ⟨c0, c1, f0, f1⟩ := h
  have e : ∀ i j, (⟨a, i, none⟩ : Addr) ≠ ⟨b, j, none⟩ := fun i j e => hab (by cases e; rfl)
  constructor
  · rw [set_other (e _ _), set_other (e _ _)]; exact c0
  · rw [set_other (e _ _), set_other (e _ _)]; exact c1
  · simpa using f0
  · simpa using f1
theorem put2 {B : Nat} {a w : World} (h : Below B a w) {b : Nat} (hp : B ≤ b) (p : Bool) (m : Int) : Below B a ((w.setCell ⟨b, 0, none⟩ (.bool p)).setCell ⟨b, 1, none⟩ (.int .i64 m)) := (h.setCell hp _).setCell hp _
theorem Box.lt {w : World} {b : Nat} {o : Bool} {n : Int} (h : Box w b o n) : b < w.heap.size := World.block_lt_of_cell? _ _ h.c0
theorem boxes1 (w : World) (o : Bool) (n : Int) : Box ((w.alloc (.cells #[.bool o, .int .i64 n] 28)).alloc (.cells #[.bool false, .int .i64 0] 28)) w.heap.size o n ∧ Box ((w.alloc (.cells #[.bool o, .int .i64 n] 28)).alloc (.cells #[.bool false, .int .i64 0] 28)) (w.heap.size + 1) false 0 ∧ Below w.heap.size w ((w.alloc (.cells #[.bool o, .int .i64 n] 28)).alloc (.cells #[.bool false, .int .i64 0] 28)) := by
  have hsz : (w.alloc (.cells #[.bool o, .int .i64 n] 28)).heap.size = w.heap.size + 1 := by simp
  have hy := Box.new (w.alloc (.cells #[.bool o, .int .i64 n] 28)) false 0
  rw [hsz] at hy
  exact ⟨(Box.new w o n).later (bal (Below.refl _ _) _), hy, bal (bal (Below.refl _ _) _) _⟩
theorem boxes2 (w : World) (o p : Bool) (n m : Int) : Box ((w.alloc (.cells #[.bool o, .int .i64 n] 28)).alloc (.cells #[.bool p, .int .i64 m] 28)) w.heap.size o n ∧ Box ((w.alloc (.cells #[.bool o, .int .i64 n] 28)).alloc (.cells #[.bool p, .int .i64 m] 28)) (w.heap.size + 1) p m ∧ Below w.heap.size w ((w.alloc (.cells #[.bool o, .int .i64 n] 28)).alloc (.cells #[.bool p, .int .i64 m] 28)) := by
  have hsz : (w.alloc (.cells #[.bool o, .int .i64 n] 28)).heap.size = w.heap.size + 1 := by simp
  have hy := Box.new (w.alloc (.cells #[.bool o, .int .i64 n] 28)) p m
  rw [hsz] at hy
  exact ⟨(Box.new w o n).later (bal (Below.refl _ _) _), hy, bal (bal (Below.refl _ _) _) _⟩
theorem boxes3 (w : World) (o p q : Bool) (n m k : Int) : Box (((w.alloc (.cells #[.bool o, .int .i64 n] 28)).alloc (.cells #[.bool p, .int .i64 m] 28)).alloc (.cells #[.bool q, .int .i64 k] 28)) w.heap.size o n ∧ Box (((w.alloc (.cells #[.bool o, .int .i64 n] 28)).alloc (.cells #[.bool p, .int .i64 m] 28)).alloc (.cells #[.bool q, .int .i64 k] 28)) (w.heap.size + 1) p m ∧ Box (((w.alloc (.cells #[.bool o, .int .i64 n] 28)).alloc (.cells #[.bool p, .int .i64 m] 28)).alloc (.cells #[.bool q, .int .i64 k] 28)) (w.heap.size + 2) q k ∧ Below w.heap.size w (((w.alloc (.cells #[.bool o, .int .i64 n] 28)).alloc (.cells #[.bool p, .int .i64 m] 28)).alloc (.cells #[.bool q, .int .i64 k] 28)) := by
  obtain ⟨h1, h2, h3⟩ := boxes2 w o p n m
  have hsz : ((w.alloc (.cells #[.bool o, .int .i64 n] 28)).alloc (.cells #[.bool p, .int .i64 m] 28)).heap.size = w.heap.size + 2 := by simp
  have hy := Box.new ((w.alloc (.cells #[.bool o, .int .i64 n] 28)).alloc (.cells #[.bool p, .int .i64 m] 28)) q k
  rw [hsz] at hy
  exact ⟨h1.later (bal (Below.refl _ _) _), h2.later (bal (Below.refl _ _) _), hy, bal h3 _⟩
end Go.Proofs.Ythcakiibkocheaa
