/- counted, Neg, and the document's own Is, none, Neg: each for every argument. -/
import Derived.Test.YthcakiibkocheaaIs
namespace Go.Proofs.Ythcakiibkocheaa
open Go.RowKit

theorem is_cnt {o : Bool} {n : Int} (h : fIs o n = true) : ov (cnt o n) = o ∧ nn (cnt o n) = n := by
  cases o with
  | true =>
    have : n = 0 := by simpa [fIs] using h
    subst this
    exact ⟨rfl, rfl⟩
  | false =>
    have : -9223372036854775807 ≤ n := by simpa [fIs] using h
    unfold cnt
    rw [if_neg (by intro e; rcases e with e | e; cases e; omega)]
    exact ⟨rfl, rfl⟩
theorem isnt_cnt {o : Bool} {n : Int} (h0 : -9223372036854775808 ≤ n) (h : fIs o n = false) : cnt o n = none := by
  unfold cnt
  rw [if_pos]
  cases o with
  | true => exact Or.inl rfl
  | false =>
    have : ¬ -9223372036854775807 ≤ n := by simpa [fIs] using h
    exact Or.inr (by omega)

set_option maxHeartbeats 1000000 in
theorem counted_any (o : Bool) (n : Int) (w : World) (h0 : -9223372036854775808 ≤ n) : Calls Try.prog 39 #[.agg #[.bool o, .int .i64 n]] w fun e w' => e = .returned (.agg #[.bool (ov (cnt o n)), .int .i64 (nn (cnt o n))]) ∧ Below w.heap.size w w' := by
  obtain ⟨hx1, hy, hb2⟩ := boxes1 w o n
  cases hi : fIs o n with
  | true =>
    obtain ⟨e1, e2⟩ := is_cnt hi
    rw [e1, e2]
    go_enter Try.func39, Try.ntmps39
    go_wp2_with fail
    refine (is_any _ _ _).mono ?_
    rintro e w1 ⟨rfl, hb3⟩
    rw [hi]
    obtain ⟨c0, c1, f0, f1⟩ := hx1.later hb3
    obtain ⟨d0, d1, g0, g1⟩ := hy.later hb3
    go_wp2
    exact bodyPost_ret (v := .agg #[.bool o, .int .i64 n]) (by simp [results, Try.results39, go_sem, d0, d1]) rfl ⟨rfl, put2 (Below.chain hb2 hb3) (by omega) _ _⟩
  | false =>
    rw [isnt_cnt h0 hi]
    go_enter Try.func39, Try.ntmps39
    go_wp2_with fail
    refine (is_any _ _ _).mono ?_
    rintro e w1 ⟨rfl, hb3⟩
    rw [hi]
    go_wp2_with fail
    refine (overflow_any _).mono ?_
    rintro e w2 ⟨rfl, hb4⟩
    have hb5 := Below.chain hb3 hb4
    obtain ⟨d0, d1, g0, g1⟩ := hy.later hb5
    go_wp2
    exact bodyPost_ret (v := .agg #[.bool true, .int .i64 0]) (by simp [results, Try.results39, go_sem, d0, d1]) rfl ⟨rfl, put2 (Below.chain hb2 hb5) (by omega) _ _⟩

theorem neg_wrap {r : Option Int} (h : V r) : wrap64 (-(nn r)) = nn (fNeg r) ∧ ov (fNeg r) = ov r := by
  cases r with
  | none => exact ⟨by show wrap64 (-0) = 0; unfold wrap64; omega, rfl⟩
  | some n =>
    have h1 : -9223372036854775807 ≤ n := h.1
    have h2 : n ≤ 9223372036854775807 := h.2
    exact ⟨by show wrap64 (-n) = -n; unfold wrap64; omega, rfl⟩

set_option maxHeartbeats 1000000 in
theorem neg_any (o : Bool) (n : Int) (w : World) (h0 : -9223372036854775808 ≤ n) (h1 : n ≤ 9223372036854775807) : Calls Try.prog 54 #[.agg #[.bool o, .int .i64 n]] w fun e w' => e = .returned (.agg #[.bool (ov (fNeg (cnt o n))), .int .i64 (nn (fNeg (cnt o n)))]) ∧ Below w.heap.size w w' := by
  have hv : V (cnt o n) := V.cnt h0 h1
  obtain ⟨e1, e2⟩ := neg_wrap hv
  obtain ⟨hx1, hy, hb2⟩ := boxes1 w o n
  have E1 : Hid _ := e1
  rw [e2]
  clear e1 e2
  go_enter Try.func54, Try.ntmps54
  go_wp2_with fail
  refine (counted_any _ _ _ h0).mono ?_
  rintro e w1 ⟨rfl, hb3⟩
  have hx2 := hx1.later hb3
  obtain ⟨p0, p1, _, _⟩ := hx2.put (p := ov (cnt o n)) (m := nn (cnt o n))
  have q1 := set_same p1 (v := .int .i64 (wrap64 (-nn (cnt o n))))
  obtain ⟨c0, c1, f0, f1⟩ := hx2
  obtain ⟨d0, d1, g0, g1⟩ := hy.later hb3
  go_wp2
  rw [E1.out]
  refine bodyPost_ret (v := .agg #[.bool (ov (cnt o n)), .int .i64 (nn (fNeg (cnt o n)))]) (by simp [results, Try.results54, go_sem, d0, d1]) rfl ⟨rfl, put2 ((put2 (Below.chain hb2 hb3) (by omega) _ _).setCell (by simp) _) (by omega) _ _⟩
end Go.Proofs.Ythcakiibkocheaa
