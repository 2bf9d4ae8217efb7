
/- byName, byNameThenValue, slices.CompareFunc at these, Cmp: each for every argument. -/
import Derived.Test.YtideieolgjhbiaaGreatDoorIs
import Derived.Test.YtideieolgjhbiaaGreatDoorShelfS
namespace Go.Proofs.YtideieolgjhbiaaGreatDoor
open Go.RowKit Go.Shelf Go.Lib Go.Sort

theorem compare_any (a b : Str) (w : World) : Calls Tryz.prog 67 #[tx a, tx b] w fun e w' => e = .returned (.int .i64 (Lib.compareBytes a b)) ∧ w = w' := by
  refine (Tryz.strings_Compare ⟨a.toArray⟩ ⟨b.toArray⟩ w).mono ?_
  rintro e w' ⟨rfl, rfl⟩
  exact ⟨rfl, rfl⟩
theorem byName_grow (p q : Pr) (w : World) : Calls Tryz.prog 53 #[.agg #[tx p.1, tx p.2], .agg #[tx q.1, tx q.2]] w fun e w' => e = .returned (.int .i64 (Lib.compareBytes p.1 q.1)) ∧ ∃ k os', w' = grow (w.drewN k) os' := by
  have hc := compare_any p.1 q.1
  generalize Lib.compareBytes p.1 q.1 = r at hc ⊢
  go_enter Tryz.func53, Tryz.ntmps53
  go_wp2_with (go_at_call 67; refine (hc _).mono ?_; rintro e w' ⟨rfl, rfl⟩)
  go_ret
  exact ⟨rfl, 0, _, by rw [alloc_eq_grow, alloc_eq_grow, grow_grow]; rfl⟩
theorem byName_any (p q : Pr) (w : World) : Calls Tryz.prog 53 #[.agg #[tx p.1, tx p.2], .agg #[tx q.1, tx q.2]] w fun e w' => e = .returned (.int .i64 (Lib.compareBytes p.1 q.1)) ∧ Below w.heap.size w w' := by
  have hc := compare_any p.1 q.1
  generalize Lib.compareBytes p.1 q.1 = r at hc ⊢
  go_enter Tryz.func53, Tryz.ntmps53
  go_wp2_with (go_at_call 67; refine (hc _).mono ?_; rintro e w' ⟨rfl, rfl⟩)
  go_ret
  exact ⟨rfl, bal (bal (Below.refl _ _) _) _⟩
/-- What is left to compare behind j pairs. -/
theorem cmp_drop_eq {a b : List Pr} {j : Nat} (ha : j < a.length) (hb : j < b.length) (h : pCmp (a.getD j ([], [])) (b.getD j ([], [])) = 0) : fCmp (a.drop j) (b.drop j) = fCmp (a.drop (j + 1)) (b.drop (j + 1)) := by
  rw [List.drop_eq_getElem_cons ha, List.drop_eq_getElem_cons hb, fCmp]
  rw [getD_at ha, getD_at hb] at h
  rw [if_pos h]
theorem cmp_drop_ne {a b : List Pr} {j : Nat} (ha : j < a.length) (hb : j < b.length) (h : pCmp (a.getD j ([], [])) (b.getD j ([], [])) ≠ 0) : fCmp (a.drop j) (b.drop j) = pCmp (a.getD j ([], [])) (b.getD j ([], [])) := by
  rw [List.drop_eq_getElem_cons ha, List.drop_eq_getElem_cons hb, fCmp]
  rw [getD_at ha, getD_at hb] at *
  rw [if_neg h]
theorem cmp_long {a b : List Pr} {j : Nat} (ha : j < a.length) (hb : b.length ≤ j) : fCmp (a.drop j) (b.drop j) = 1 := by
  rw [List.drop_eq_getElem_cons ha, List.drop_eq_nil_of_le hb, fCmp]
theorem cmp_end {a b : List Pr} {j : Nat} (ha : a.length ≤ j) : fCmp (a.drop j) (b.drop j) = if j < b.length then -1 else 0 := by
  rw [List.drop_eq_nil_of_le ha]
  by_cases h : j < b.length
  · rw [if_pos h, List.drop_eq_getElem_cons h, fCmp]
  · rw [if_neg h, List.drop_eq_nil_of_le (by omega), fCmp]

end Go.Proofs.YtideieolgjhbiaaGreatDoor
