/- The document's own Is, none, Add, Neg: each for every argument. -/
import Derived.Test.YthcakiibkocheaaSub
namespace Go.Proofs.Ythcakiibkocheaa
open Go.RowKit

theorem rIs_eq {o : Bool} {n : Int} (h0 : -9223372036854775808 ≤ n) : fIs o n = if o = true then decide (n = 0) else decide (¬ n = -9223372036854775808) := by
  unfold fIs
  cases o with
  | true => rfl
  | false =>
    show decide (-9223372036854775807 ≤ n) = decide (¬ n = -9223372036854775808)
    by_cases h : n = -9223372036854775808
    · rw [decide_eq_false (by omega), decide_eq_false (by omega)]
    · rw [decide_eq_true (by omega), decide_eq_true h]

set_option maxHeartbeats 1000000 in
theorem ris_any (o : Bool) (n : Int) (w : World) (h0 : -9223372036854775808 ≤ n) : Calls Try.prog 24 #[.agg #[.bool o, .int .i64 n]] w fun e w' => e = .returned (.bool (fIs o n)) ∧ Below w.heap.size w w' := by
  have hb0 : Below w.heap.size w (w.alloc (.cells #[.bool o, .int .i64 n] 28)) := bal (Below.refl _ _) _
  rw [rIs_eq h0]
  cases o with
  | true =>
    by_cases h : n = 0
    · subst h
      go_enter Try.func24, Try.ntmps24
      go_wp2
      go_ret
      exact ⟨rfl, hb0⟩
    · have H : Hid (¬ n = 0) := h
      go_enter Try.func24, Try.ntmps24
      go_wp2
      go_ret
      exact ⟨by simp [H.out], hb0⟩
  | false =>
    by_cases h : n = -9223372036854775808
    · subst h
      go_enter Try.func24, Try.ntmps24
      go_wp2
      go_ret
      exact ⟨rfl, hb0⟩
    · go_enter Try.func24, Try.ntmps24
      go_wp2
      go_ret
      exact ⟨by simp, hb0⟩

/-- What counts: overflow, or a number. -/
theorem cnt_cases {o : Bool} {n : Int} (h0 : -9223372036854775808 ≤ n) : (o = true ∧ cnt o n = none) ∨ (o = false ∧ fIs o n = false ∧ cnt o n = none) ∨ (o = false ∧ fIs o n = true ∧ cnt o n = some n) := by
  cases o with
  | true => exact Or.inl ⟨rfl, by simp [cnt]⟩
  | false =>
    cases h : fIs false n with
    | false => exact Or.inr (Or.inl ⟨rfl, rfl, isnt_cnt h0 h⟩)
    | true =>
      refine Or.inr (Or.inr ⟨rfl, rfl, ?_⟩)
      have hh : -9223372036854775807 ≤ n := by simpa [fIs] using h
      unfold cnt
      rw [if_neg (by intro e; rcases e with e | e; cases e; omega)]

def nov (x y : Option Int) : Bool := ov x || ov y
set_option maxHeartbeats 1000000 in
theorem none_any (o p : Bool) (n m : Int) (w : World) (hn : R64 n) (hm : R64 m) : Calls Try.prog 30 #[.agg #[.bool o, .int .i64 n], .agg #[.bool p, .int .i64 m]] w fun e w' => e = .returned (.bool (nov (cnt o n) (cnt p m))) ∧ Below w.heap.size w w' := by
  obtain ⟨hx, hy, hb⟩ := boxes2 w o p n m
  rcases cnt_cases (o := o) hn.1 with ⟨rfl, e1⟩ | ⟨rfl, i1, e1⟩ | ⟨rfl, i1, e1⟩
  · rw [e1]
    go_enter Try.func30, Try.ntmps30
    go_wp2
    go_ret
    exact ⟨rfl, hb⟩
  · rw [e1]
    cases p with
    | true =>
      go_enter Try.func30, Try.ntmps30
      go_wp2
      go_ret
      exact ⟨rfl, hb⟩
    | false =>
      go_enter Try.func30, Try.ntmps30
      go_wp2_with fail
      refine (ris_any _ _ _ hn.1).mono ?_
      rintro e w1 ⟨rfl, hb1⟩
      rw [i1]
      go_wp2
      go_ret
      exact ⟨rfl, Below.chain hb hb1⟩
  · rw [e1]
    rcases cnt_cases (o := p) hm.1 with ⟨rfl, e2⟩ | ⟨rfl, i2, e2⟩ | ⟨rfl, i2, e2⟩
    · rw [e2]
      go_enter Try.func30, Try.ntmps30
      go_wp2
      go_ret
      exact ⟨rfl, hb⟩
    · rw [e2]
      go_enter Try.func30, Try.ntmps30
      go_wp2_with fail
      refine (ris_any _ _ _ hn.1).mono ?_
      rintro e w1 ⟨rfl, hb1⟩
      rw [i1]
      obtain ⟨c0, c1, _, _⟩ := hy.later hb1
      go_wp2_with fail
      refine (ris_any _ _ _ hm.1).mono ?_
      rintro e w2 ⟨rfl, hb2⟩
      rw [i2]
      go_wp2
      go_ret
      exact ⟨rfl, Below.chain (Below.chain hb hb1) hb2⟩
    · rw [e2]
      go_enter Try.func30, Try.ntmps30
      go_wp2_with fail
      refine (ris_any _ _ _ hn.1).mono ?_
      rintro e w1 ⟨rfl, hb1⟩
      rw [i1]
      obtain ⟨c0, c1, _, _⟩ := hy.later hb1
      go_wp2_with fail
      refine (ris_any _ _ _ hm.1).mono ?_
      rintro e w2 ⟨rfl, hb2⟩
      rw [i2]
      go_wp2
      go_ret
      exact ⟨rfl, Below.chain (Below.chain hb hb1) hb2⟩

set_option maxHeartbeats 1000000 in
theorem rneg_any (o : Bool) (n : Int) (w : World) (h : R64 n) : Calls Try.prog 42 #[.agg #[.bool o, .int .i64 n]] w fun e w' => e = .returned (.agg #[.bool (ov (fNeg (cnt o n))), .int .i64 (nn (fNeg (cnt o n)))]) ∧ Below w.heap.size w w' := by
  obtain ⟨hx, hy, hb⟩ := boxes1 w o n
  have key : ∀ w1, Below ((w.alloc (.cells #[.bool o, .int .i64 n] 28)).alloc (.cells #[.bool false, .int .i64 0] 28)).heap.size ((w.alloc (.cells #[.bool o, .int .i64 n] 28)).alloc (.cells #[.bool false, .int .i64 0] 28)) w1 → Box w1 w.heap.size o n ∧ Box w1 (w.heap.size + 1) false 0 ∧ Below w.heap.size w w1 := fun w1 h1 => ⟨hx.later h1, hy.later h1, Below.chain hb h1⟩
  rcases cnt_cases (o := o) h.1 with ⟨rfl, e1⟩ | ⟨rfl, i1, e1⟩ | ⟨rfl, i1, e1⟩
  · rw [e1]
    cases i1 : fIs true n with
    | true =>
      go_enter Try.func42, Try.ntmps42
      go_wp2_with fail
      refine (ris_any _ _ _ h.1).mono ?_
      rintro e w1 ⟨rfl, hb1⟩
      rw [i1]
      obtain ⟨⟨c0, c1, _, _⟩, hy1, hb1'⟩ := key _ hb1
      go_wp2_with fail
      refine (ovf_any _).mono ?_
      rintro e w2 ⟨rfl, hb2⟩
      obtain ⟨d0, d1, g0, g1⟩ := hy1.later hb2
      go_wp2
      exact bodyPost_ret (v := .agg #[.bool true, .int .i64 0]) (by simp [results, Try.results42, go_sem, d0, d1]) rfl ⟨rfl, put2 (Below.chain hb1' hb2) (by omega) _ _⟩
    | false =>
      go_enter Try.func42, Try.ntmps42
      go_wp2_with fail
      refine (ris_any _ _ _ h.1).mono ?_
      rintro e w1 ⟨rfl, hb1⟩
      rw [i1]
      obtain ⟨_, hy1, hb1'⟩ := key _ hb1
      go_wp2_with fail
      refine (ovf_any _).mono ?_
      rintro e w2 ⟨rfl, hb2⟩
      obtain ⟨d0, d1, g0, g1⟩ := hy1.later hb2
      go_wp2
      exact bodyPost_ret (v := .agg #[.bool true, .int .i64 0]) (by simp [results, Try.results42, go_sem, d0, d1]) rfl ⟨rfl, put2 (Below.chain hb1' hb2) (by omega) _ _⟩
  · rw [e1]
    go_enter Try.func42, Try.ntmps42
    go_wp2_with fail
    refine (ris_any _ _ _ h.1).mono ?_
    rintro e w1 ⟨rfl, hb1⟩
    rw [i1]
    obtain ⟨_, hy1, hb1'⟩ := key _ hb1
    go_wp2_with fail
    refine (ovf_any _).mono ?_
    rintro e w2 ⟨rfl, hb2⟩
    obtain ⟨d0, d1, g0, g1⟩ := hy1.later hb2
    go_wp2
    exact bodyPost_ret (v := .agg #[.bool true, .int .i64 0]) (by simp [results, Try.results42, go_sem, d0, d1]) rfl ⟨rfl, put2 (Below.chain hb1' hb2) (by omega) _ _⟩
  · rw [e1]
    have hn0 : -9223372036854775807 ≤ n := by simpa [fIs] using i1
    have hw : wrap64 (-n) = -n := by have := h.2; unfold wrap64; omega
    go_enter Try.func42, Try.ntmps42
    go_wp2_with fail
    refine (ris_any _ _ _ h.1).mono ?_
    rintro e w1 ⟨rfl, hb1⟩
    rw [i1]
    obtain ⟨⟨c0, c1, _, _⟩, ⟨d0, d1, g0, g1⟩, hb1'⟩ := key _ hb1
    go_wp2
    exact bodyPost_ret (v := .agg #[.bool false, .int .i64 (-n)]) (by simp [results, Try.results42, go_sem, d0, d1]) rfl ⟨rfl, put2 hb1' (by omega) _ _⟩
end Go.Proofs.Ythcakiibkocheaa
