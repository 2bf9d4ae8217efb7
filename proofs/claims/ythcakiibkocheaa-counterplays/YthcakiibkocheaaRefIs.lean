/- The document's own Is: for every argument. -/
import Derived.Test.YthcakiibkocheaaSum
namespace Go.Proofs.Ythcakiibkocheaa
open Go.RowKit

theorem rIs_eqs {o : Bool} {n : Int} (h0 : -9223372036854775808 ≤ n) : fIs o n = if o = true then decide (n = 0) else decide (¬ n = -9223372036854775808) := by
  unfold fIs
  cases o with
  | true => rfl
  | false =>
    show decide (-9223372036854775807 ≤ n) = decide (¬ n = -9223372036854775808)
    by_cases h : n = -9223372036854775808
    · rw [decide_eq_false (by omega), decide_eq_false (by omega)]
    · rw [decide_eq_true (by omega), decide_eq_true h]

set_option maxHeartbeats 1000000 in
theorem ris_all (o : Bool) (n : Int) (w : World) (h0 : -9223372036854775808 ≤ n) : Calls Try.prog 24 #[.agg #[.bool o, .int .i64 n]] w fun e w' => e = .returned (.bool (fIs o n)) ∧ Below w.heap.size w w' := by
  have hb0 : Below w.heap.size w (w.alloc (.cells #[.bool o, .int .i64 n] 28)) := bal (Below.refl _ _) _
  rw [rIs_eqs h0]
  cases o with
  | true =>
    by_cases h : n = 0
    · subst h
      go_enter Try.func24, Try.ntmps24
      go_wp2
      go_ret
      exact ⟨rfl, hb0⟩
    · have H : Hid (¬ n = 0) := h
      go_enter Try.func24, Try.ntmps24
      go_wp2
      go_ret
      exact ⟨by simp [H.out], hb0⟩
  | false =>
    by_cases h : n = -9223372036854775808
    · subst h
      go_enter Try.func24, Try.ntmps24
      go_wp2
      go_ret
      exact ⟨rfl, hb0⟩
    · go_enter Try.func24, Try.ntmps24
      go_wp2
      go_ret
      exact ⟨by simp, hb0⟩

/-- What counts: overflow, or a number. -/
theorem cnt_ways {o : Bool} {n : Int} (h0 : -9223372036854775808 ≤ n) : (o = true ∧ cnt o n = none) ∨ (o = false ∧ fIs o n = false ∧ cnt o n = none) ∨ (o = false ∧ fIs o n = true ∧ cnt o n = some n) := by
  cases o with
  | true => exact Or.inl ⟨rfl, by simp [cnt]⟩
  | false =>
    cases h : fIs false n with
    | false => exact Or.inr (Or.inl ⟨rfl, rfl, isnt_cnt h0 h⟩)
    | true =>
      refine Or.inr (Or.inr ⟨rfl, rfl, ?_⟩)
      have hh : -9223372036854775807 ≤ n := by simpa [fIs] using h
      unfold cnt
      rw [if_neg (by intro e; rcases e with e | e; cases e; omega)]

end Go.Proofs.Ythcakiibkocheaa
