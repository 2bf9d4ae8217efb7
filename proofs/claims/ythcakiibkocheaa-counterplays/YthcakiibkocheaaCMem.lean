/- A counter in memory: its hundred places, how many are taken, how wide, what time it is. -/
import Derived.Test.YthcakiibkocheaaSum
namespace Go.Proofs.Ythcakiibkocheaa
open Go.RowKit

theorem grown_set (W : World) (b o : Nat) (v : Value) : W.grownBy (W.setCell ⟨b, o, none⟩ v) (some b) := ⟨rfl, rfl, rfl, by simp [World.setCell], fun k _ hne => Below.heap_setCell _ _ _ _ (fun e => hne (by rw [e]))⟩
theorem grown_below {w w' : World} (h : Below w.heap.size w w') (row : Option Nat) : w.grownBy w' row := ⟨h.os, h.tape, h.output, h.size, fun k hk _ => h.block k hk⟩
theorem grown_cell {w w' : World} {row : Option Nat} (hg : w.grownBy w' row) {b o : Nat} {v : Value} (h : w.cell? ⟨b, o, none⟩ = some v) (hne : some b ≠ row) : w'.cell? ⟨b, o, none⟩ = some v := hg.cell h hne
theorem grown_frozen {w w' : World} {row : Option Nat} (hg : w.grownBy w' row) {b o : Nat} (hb : b < w.heap.size) (h : w.frozen? ⟨b, o, none⟩ = false) (hne : some b ≠ row) : w'.frozen? ⟨b, o, none⟩ = false :=
  (World.frozen?_of_block (a := ⟨b, o, none⟩) (hg.block b hb hne)).trans h
theorem grown_above {B b : Nat} {a w w' : World} (h : Below B a w) (hg : w.grownBy w' (some b)) (hB : B ≤ w.heap.size) (hb : B ≤ b) : Below B a w' := h.grown hg hB (fun k hk => by cases hk; exact hb)

/-- A sample: its time, and its value's two cells. -/
abbrev Smp := Int × Bool × Int
abbrev sv (s : Smp) : Value := .agg #[.int .i64 s.1, .bool s.2.1, .int .i64 s.2.2]
def s0 : Smp := (0, false, 0)

structure Rg (w : World) (b : Nat) (f : Nat → Smp) (c : Nat) (k now : Int) : Prop where
  ct : ∀ j, j < 100 → w.cell? ⟨b, j * 3, none⟩ = some (.int .i64 (f j).1)
  cv : ∀ j, j < 100 → w.cell? ⟨b, j * 3 + 1, none⟩ = some (.bool (f j).2.1)
  cn : ∀ j, j < 100 → w.cell? ⟨b, j * 3 + 2, none⟩ = some (.int .i64 (f j).2.2)
  cc : w.cell? ⟨b, 300, none⟩ = some (.int .i64 c)
  ck : w.cell? ⟨b, 301, none⟩ = some (.int .i64 k)
  cw : w.cell? ⟨b, 302, none⟩ = some (.int .i64 now)
  fz : ∀ j, j < 303 → w.frozen? ⟨b, j, none⟩ = false
theorem Rg.lt {w : World} {b : Nat} {f : Nat → Smp} {c : Nat} {k now : Int} (h : Rg w b f c k now) : b < w.heap.size := World.block_lt_of_cell? _ _ h.cc
theorem Rg.kept {w w' : World} {b : Nat} {f : Nat → Smp} {c : Nat} {k now : Int} (h : Rg w b f c k now) {row : Option Nat} (hg : w.grownBy w' row) (hne : some b ≠ row) : Rg w' b f c k now :=
  ⟨fun j hj => grown_cell hg (h.ct j hj) hne, fun j hj => grown_cell hg (h.cv j hj) hne, fun j hj => grown_cell hg (h.cn j hj) hne, grown_cell hg h.cc hne, grown_cell hg h.ck hne, grown_cell hg h.cw hne, fun j hj => grown_frozen hg h.lt (h.fz j hj) hne⟩
theorem Rg.later {w w' : World} {b : Nat} {f : Nat → Smp} {c : Nat} {k now : Int} (h : Rg w b f c k now) (hb : Below w.heap.size w w') : Rg w' b f c k now := h.kept (grown_below hb none) (by simp)

/-! ### A new one -/
def many : Nat → List Value → List Value
  | 0, r => r
  | n + 1, r => .int .i64 0 :: .bool false :: .int .i64 0 :: many n r
theorem cellsR_eq (k : Int) : Try.zeroCells56.setIfInBounds 301 (.int .i64 k) = (many 100 [.int .i64 0, .int .i64 k, .int .i64 0]).toArray := by kernel_rfl
theorem many_at : ∀ (n j : Nat) (r : List Value), j < n → (many n r)[j * 3]? = some (.int .i64 0) ∧ (many n r)[j * 3 + 1]? = some (.bool false) ∧ (many n r)[j * 3 + 2]? = some (.int .i64 0)
  | 0, _, _, h => absurd h (Nat.not_lt_zero _)
  | n + 1, 0, r, _ => ⟨rfl, rfl, rfl⟩
  | n + 1, j + 1, r, h => by
    obtain ⟨h0, h1, h2⟩ := many_at n j r (by omega)
    rw [show (j + 1) * 3 = j * 3 + 3 by omega]
    exact ⟨h0, h1, h2⟩
theorem Rg.new (w : World) (k : Int) : Rg (w.alloc (.cells (Try.zeroCells56.setIfInBounds 301 (.int .i64 k)) 56)) w.heap.size (fun _ => s0) 0 k 0 := by
  have hc : ∀ j v, (Try.zeroCells56.setIfInBounds 301 (.int .i64 k))[j]? = some v → (w.alloc (.cells (Try.zeroCells56.setIfInBounds 301 (.int .i64 k)) 56)).cell? ⟨w.heap.size, j, none⟩ = some v := fun j v h => (World.cell?_alloc_new w _ _ j).trans h
  have hm : ∀ j : Nat, (Try.zeroCells56.setIfInBounds 301 (.int .i64 k))[j]? = (many 100 [.int .i64 0, .int .i64 k, .int .i64 0])[j]? := fun j => by rw [cellsR_eq, List.getElem?_toArray]
  refine ⟨fun j hj => hc _ _ ?_, fun j hj => hc _ _ ?_, fun j hj => hc _ _ ?_, hc _ _ ((hm _).trans rfl), hc _ _ ((hm _).trans rfl), hc _ _ ((hm _).trans rfl), fun j _ => by simp [go_sem]⟩
  · rw [hm]; exact (many_at 100 j _ hj).1
  · rw [hm]; exact (many_at 100 j _ hj).2.1
  · rw [hm]; exact (many_at 100 j _ hj).2.2
/-- How wide a window is. -/
def clamp (n : Int) : Int := if n < 1 then 1 else if 100 < n then 100 else n
theorem clamp_range (n : Int) : 1 ≤ clamp n ∧ clamp n ≤ 100 := by unfold clamp; split <;> (try split) <;> omega
set_option maxRecDepth 100000 in
set_option maxHeartbeats 1000000 in
theorem new_any (n : Int) (w : World) : Calls Try.prog 9 #[.int .i64 n] w fun e w' => e = .returned (.pointer (some ⟨w.heap.size, 0, none⟩)) ∧ Rg w' w.heap.size (fun _ => s0) 0 (clamp n) 0 ∧ Below w.heap.size w w' := by
  have H : Hid (∀ k, Rg (w.alloc (.cells (Try.zeroCells56.setIfInBounds 301 (.int .i64 k)) 56)) w.heap.size (fun _ => s0) 0 k 0) := Rg.new w
  rcases (by omega : n < 1 ∨ 100 < n ∨ (1 ≤ n ∧ n ≤ 100)) with h | h | ⟨h, h'⟩
  · rw [show clamp n = 1 by unfold clamp; rw [if_pos h]]
    go_enter Try.func9, Try.ntmps9
    go_wp2_with fail <;> try omega
    go_ret
    exact ⟨rfl, H.out 1, bal (Below.refl _ _) _⟩
  · rw [show clamp n = 100 by unfold clamp; rw [if_neg (by omega), if_pos h]]
    go_enter Try.func9, Try.ntmps9
    go_wp2_with fail <;> try omega
    go_ret
    exact ⟨rfl, H.out 100, bal (Below.refl _ _) _⟩
  · rw [show clamp n = n by unfold clamp; rw [if_neg (by omega), if_neg (by omega)]]
    go_enter Try.func9, Try.ntmps9
    go_wp2_with fail <;> try omega
    all_goals go_ret
    all_goals exact ⟨rfl, H.out _, bal (Below.refl _ _) _⟩

end Go.Proofs.Ythcakiibkocheaa
