/- scaled, Of, and the document's own signed, over: each for every argument. -/
import Derived.Test.YthcakiibkocheaaDiv
namespace Go.Proofs.Ythcakiibkocheaa
open Go.RowKit

/-- a times b over c, with a sign. -/
def fScale (neg : Bool) (a b c : Nat) : Option Int := if c = 0 then none else sgn neg (a * b / c)
theorem sgn_big {neg : Bool} {m : Nat} (h : 9223372036854775807 < m) : sgn neg m = none := by unfold sgn; rw [if_pos h]
theorem scale_over {neg : Bool} {a b c : Nat} (h : c ≤ a * b / 18446744073709551616) : fScale neg a b c = none := by
  unfold fScale
  by_cases hc : c = 0
  · rw [if_pos hc]
  · rw [if_neg hc]
    refine sgn_big ?_
    have h1 := (Nat.le_div_iff_mul_le (by omega : 0 < 18446744073709551616)).1 h
    rw [Nat.mul_comm] at h1
    have := (Nat.le_div_iff_mul_le (by omega : 0 < c)).2 h1
    omega
theorem div_any (hi lo y : Nat) (w : World) (hl : lo < 18446744073709551616) (hy : y < 18446744073709551616) (hh : hi < y) :
    Calls Try.prog 44 #[.int .u64 hi, .int .u64 lo, .int .u64 y] w fun e w' => ∃ r : Int, e = .returned (.tuple #[.int .u64 (((hi * 18446744073709551616 + lo) / y : Nat) : Int), .int .u64 r]) ∧ Below w.heap.size w w' := by
  by_cases h0 : hi = 0
  · subst h0
    have e : 0 * 18446744073709551616 + lo = lo := by omega
    rw [e]
    exact div_low lo y w hl (by omega)
  · exact div_high hi lo y w hl hy hh h0

theorem quot_lt {a b c : Nat} (h : ¬ c ≤ a * b / 18446744073709551616) : a * b / c < 18446744073709551616 := by
  have h1 : a * b / 18446744073709551616 < c := by omega
  rw [Nat.div_lt_iff_lt_mul (by omega)] at h1
  rw [Nat.div_lt_iff_lt_mul (by omega)]
  omega

set_option maxHeartbeats 1000000 in
theorem scaled_any (neg : Bool) (a b c : Nat) (w : World) (ha : a < 18446744073709551616) (hb : b < 18446744073709551616) (hc : c < 18446744073709551616) :
    Calls Try.prog 37 #[.bool neg, .int .u64 a, .int .u64 b, .int .u64 c] w fun e w' => e = .returned (.agg #[.bool (ov (fScale neg a b c)), .int .i64 (nn (fScale neg a b c))]) ∧ Below w.heap.size w w' := by
  have hx := Box.new w false 0
  have hb0 : Below w.heap.size w (w.alloc (.cells #[.bool false, .int .i64 0] 28)) := bal (Below.refl _ _) _
  have hm := Try.bits_Mul64 a b ha hb
  have hlo : a * b % 18446744073709551616 < 18446744073709551616 := Nat.mod_lt _ (by omega)
  have hN : a * b / 18446744073709551616 * 18446744073709551616 + a * b % 18446744073709551616 = a * b := Nat.div_add_mod' _ _
  by_cases h : c ≤ a * b / 18446744073709551616
  · rw [scale_over h]
    have h' : (c : Int) ≤ ((a * b / 18446744073709551616 : Nat) : Int) := by omega
    generalize a * b / 18446744073709551616 = H at *
    generalize a * b % 18446744073709551616 = L at *
    clear hN h
    go_enter Try.func37, Try.ntmps37
    go_wp2_with (go_at_call 43; refine (hm _).mono ?_; rintro e w' ⟨rfl, rfl⟩)
    refine (overflow_any _).mono ?_
    rintro e w1 ⟨rfl, hb1⟩
    obtain ⟨c0, c1, f0, f1⟩ := hx.later hb1
    go_wp2
    exact bodyPost_ret (v := .agg #[.bool true, .int .i64 0]) (by simp [results, Try.results37, go_sem, c0, c1]) rfl ⟨rfl, put2 (Below.chain hb0 hb1) (by omega) _ _⟩
  · have hq := quot_lt h
    have e : fScale neg a b c = sgn neg (a * b / c) := by unfold fScale; rw [if_neg (by omega)]
    rw [e]
    have h' : ¬ (c : Int) ≤ ((a * b / 18446744073709551616 : Nat) : Int) := by omega
    generalize a * b / 18446744073709551616 = H at *
    generalize a * b % 18446744073709551616 = L at *
    have hd := fun w => div_any H L c w hlo hc (by omega)
    rw [hN] at hd
    generalize a * b / c = Q at *
    clear hN h
    go_enter Try.func37, Try.ntmps37
    go_wp2_with (go_at_call 43; refine (hm _).mono ?_; rintro e w' ⟨rfl, rfl⟩)
    refine (hd _).mono ?_
    rintro e w1 ⟨r, rfl, hb1⟩
    go_wp2_with fail
    refine (signed_any _ _ _ hq).mono ?_
    rintro e w2 ⟨rfl, hb2⟩
    have hb3 := Below.chain hb1 hb2
    obtain ⟨c0, c1, f0, f1⟩ := hx.later hb3
    go_wp2
    exact bodyPost_ret (v := .agg #[.bool (ov (sgn neg Q)), .int .i64 (nn (sgn neg Q))]) (by simp [results, Try.results37, go_sem, c0, c1]) rfl ⟨rfl, put2 (Below.chain hb0 hb3) (by omega) _ _⟩

theorem sgn_pos (m : Nat) : sgn false m = norm (m : Int) := by
  unfold sgn norm
  by_cases h : 9223372036854775807 < m
  · rw [if_pos h, if_neg (by omega)]
  · rw [if_neg h]
    show some (m : Int) = _
    rw [if_pos (by omega)]
theorem sgn_neg (m : Nat) : sgn true m = norm (-(m : Int)) := by
  unfold sgn norm
  by_cases h : 9223372036854775807 < m
  · rw [if_pos h, if_neg (by omega)]
  · rw [if_neg h]
    show some (-(m : Int)) = _
    rw [if_pos (by omega)]
def fOf (n : Int) : Option Int := norm (n * 1000000)
theorem scale_of (n : Int) : fScale (decide (n < 0)) n.natAbs 1000000 1 = fOf n := by
  unfold fScale fOf
  rw [if_neg (by omega), Nat.div_one]
  by_cases h : n < 0
  · rw [decide_eq_true h, sgn_neg]
    congr 1
    omega
  · rw [decide_eq_false h, sgn_pos]
    congr 1
    omega

set_option maxHeartbeats 1000000 in
theorem of_any (n : Int) (w : World) (hn : R64 n) : Calls Try.prog 21 #[.int .i64 n] w fun e w' => e = .returned (.agg #[.bool (ov (fOf n)), .int .i64 (nn (fOf n))]) ∧ Below w.heap.size w w' := by
  have hx := Box.new w false 0
  have hb0 : Below w.heap.size w (w.alloc (.cells #[.bool false, .int .i64 0] 28)) := bal (Below.refl _ _) _
  have hs := scaled_any (decide (n < 0)) n.natAbs 1000000 1
  rw [scale_of] at hs
  have hu : n.natAbs < 18446744073709551616 := by have := hn.1; have := hn.2; omega
  have H1 := hn.1
  have H2 := hn.2
  go_enter Try.func21, Try.ntmps21
  go_wp2_with (go_at_call 38; refine (mag_any _ _ H1 H2).mono ?_; rintro e w' ⟨rfl, rfl⟩)
  refine (hs _ hu (by omega) (by omega)).mono ?_
  rintro e w1 ⟨rfl, hb1⟩
  obtain ⟨c0, c1, f0, f1⟩ := hx.later hb1
  go_wp2
  exact bodyPost_ret (v := .agg #[.bool (ov (fOf n)), .int .i64 (nn (fOf n))]) (by simp [results, Try.results21, go_sem, c0, c1]) rfl ⟨rfl, put2 (Below.chain hb0 hb1) (by omega) _ _⟩

set_option maxHeartbeats 1000000 in
theorem rsigned_any (b : Bool) (m : Nat) (w : World) (hm : m < 18446744073709551616) : Calls Try.prog 45 #[.int .u64 m, .bool b] w fun e w' => e = .returned (.agg #[.bool (ov (sgn b m)), .int .i64 (nn (sgn b m))]) ∧ Below w.heap.size w w' := by
  unfold sgn
  by_cases h : 9223372036854775807 < m
  · have hd : (9223372036854775807 : Int) < m := by omega
    rw [if_pos h]
    go_enter Try.func45, Try.ntmps45
    go_wp2_with fail
    refine (ovf_any _).mono ?_
    rintro e w1 ⟨rfl, hb1⟩
    obtain ⟨c0, c1, f0, f1⟩ := (Box.new w false 0).later hb1
    go_wp2
    exact bodyPost_ret (v := .agg #[.bool true, .int .i64 0]) (by simp [results, Try.results45, go_sem, c0, c1]) rfl ⟨rfl, put2 (Below.chain (bal (Below.refl _ _) _) hb1) (by omega) _ _⟩
  · have hd : ¬ (9223372036854775807 : Int) < m := by omega
    rw [if_neg h]
    have e1 : IntKind.i64.wrap (m : Int) = m := by rw [IntKind.wrap_i64]; omega
    have e2 : IntKind.i64.wrap (-(m : Int)) = -(m : Int) := by rw [IntKind.wrap_i64]; omega
    cases b with
    | true =>
      go_enter Try.func45, Try.ntmps45
      go_wp2
      exact bodyPost_ret (v := .agg #[.bool false, .int .i64 (-(m : Int))]) (by simp [results, Try.results45, go_sem]) rfl ⟨rfl, bal (Below.refl _ _) _⟩
    | false =>
      go_enter Try.func45, Try.ntmps45
      go_wp2
      exact bodyPost_ret (v := .agg #[.bool false, .int .i64 (m : Int)]) (by simp [results, Try.results45, go_sem]) rfl ⟨rfl, bal (Below.refl _ _) _⟩

set_option maxHeartbeats 1000000 in
theorem over_any (neg : Bool) (a b c : Nat) (w : World) (ha : a < 18446744073709551616) (hb : b < 18446744073709551616) (hc : c < 18446744073709551616) :
    Calls Try.prog 31 #[.int .u64 a, .int .u64 b, .int .u64 c, .bool neg] w fun e w' => e = .returned (.agg #[.bool (ov (fScale neg a b c)), .int .i64 (nn (fScale neg a b c))]) ∧ Below w.heap.size w w' := by
  have hx := Box.new w false 0
  have hb0 : Below w.heap.size w (w.alloc (.cells #[.bool false, .int .i64 0] 28)) := bal (Below.refl _ _) _
  have hm := Try.bits_Mul64 a b ha hb
  have hlo : a * b % 18446744073709551616 < 18446744073709551616 := Nat.mod_lt _ (by omega)
  have hN : a * b / 18446744073709551616 * 18446744073709551616 + a * b % 18446744073709551616 = a * b := Nat.div_add_mod' _ _
  by_cases h : c ≤ a * b / 18446744073709551616
  · rw [scale_over h]
    have h' : (c : Int) ≤ ((a * b / 18446744073709551616 : Nat) : Int) := by omega
    generalize a * b / 18446744073709551616 = H at *
    generalize a * b % 18446744073709551616 = L at *
    clear hN h
    go_enter Try.func31, Try.ntmps31
    go_wp2_with (go_at_call 43; refine (hm _).mono ?_; rintro e w' ⟨rfl, rfl⟩)
    refine (ovf_any _).mono ?_
    rintro e w1 ⟨rfl, hb1⟩
    obtain ⟨c0, c1, f0, f1⟩ := hx.later hb1
    go_wp2
    exact bodyPost_ret (v := .agg #[.bool true, .int .i64 0]) (by simp [results, Try.results31, go_sem, c0, c1]) rfl ⟨rfl, put2 (Below.chain hb0 hb1) (by omega) _ _⟩
  · have hq := quot_lt h
    have e : fScale neg a b c = sgn neg (a * b / c) := by unfold fScale; rw [if_neg (by omega)]
    rw [e]
    have h' : ¬ (c : Int) ≤ ((a * b / 18446744073709551616 : Nat) : Int) := by omega
    generalize a * b / 18446744073709551616 = H at *
    generalize a * b % 18446744073709551616 = L at *
    have hd := fun w => div_any H L c w hlo hc (by omega)
    rw [hN] at hd
    generalize a * b / c = Q at *
    clear hN h
    go_enter Try.func31, Try.ntmps31
    go_wp2_with (go_at_call 43; refine (hm _).mono ?_; rintro e w' ⟨rfl, rfl⟩)
    refine (hd _).mono ?_
    rintro e w1 ⟨r, rfl, hb1⟩
    go_wp2_with fail
    refine (rsigned_any _ _ _ hq).mono ?_
    rintro e w2 ⟨rfl, hb2⟩
    have hb3 := Below.chain hb1 hb2
    obtain ⟨c0, c1, f0, f1⟩ := hx.later hb3
    go_wp2
    exact bodyPost_ret (v := .agg #[.bool (ov (sgn neg Q)), .int .i64 (nn (sgn neg Q))]) (by simp [results, Try.results31, go_sem, c0, c1]) rfl ⟨rfl, put2 (Below.chain hb0 hb3) (by omega) _ _⟩
end Go.Proofs.Ythcakiibkocheaa
