/- Texts that the others lean on. -/
import Derived.Test.YtjgckfcocmhnhaaGreatDoorKMA
import Derived.Test.YtjgckfcocmhnhaaGreatDoorKMB
import Derived.Deep.CutBlock
namespace Go.Proofs.YtjgckfcocmhnhaaGreatDoor
open Go.RowKit
theorem rIs_eqs {o : Bool} {n : Int} (h0 : -9223372036854775808 ≤ n) : fIs o n = if o = true then decide (n = 0) else decide (¬ n = -9223372036854775808) := by
 unfold fIs
 cases o with
 | true => rfl
 | false =>
  show decide (-9223372036854775807 ≤ n) = decide (¬ n = -9223372036854775808)
  by_cases h : n = -9223372036854775808
  ·
   rw [decide_eq_false (by omega), decide_eq_false (by omega)]
  ·
   rw [decide_eq_true (by omega), decide_eq_true h]
set_option maxHeartbeats 1000000 in
theorem ris_all (o : Bool) (n : Int) (w : World) (h0 : -9223372036854775808 ≤ n) : Calls Tryz.prog 75 #[.agg #[.bool o, .int .i64 n]] w fun e w' => e = .returned (.bool (fIs o n)) ∧ Below w.heap.size w w' := by
 have hb0 : Below w.heap.size w (w.alloc (.cells #[.bool o, .int .i64 n] 33)) := bal (Below.refl _ _) _
 rw [rIs_eqs h0]
 cases o with
 | true =>
  by_cases h : n = 0
  ·
   subst h
   go_enter Tryz.func75, Tryz.ntmps75
   go_wp2
   go_ret
   exact ⟨rfl, hb0⟩
  ·
   have H : Hid (¬ n = 0) := h
   go_enter Tryz.func75, Tryz.ntmps75
   go_wp2
   go_ret
   exact ⟨by simp [H.out], hb0⟩
 | false =>
  by_cases h : n = -9223372036854775808
  ·
   subst h
   go_enter Tryz.func75, Tryz.ntmps75
   go_wp2
   go_ret
   exact ⟨rfl, hb0⟩
  ·
   go_enter Tryz.func75, Tryz.ntmps75
   go_wp2
   go_ret
   exact ⟨by simp, hb0⟩
/-- What counts: overflow, or a number. -/
theorem cnt_ways {o : Bool} {n : Int} (h0 : -9223372036854775808 ≤ n) : (o = true ∧ cnt o n = none) ∨ (o = false ∧ fIs o n = false ∧ cnt o n = none) ∨ (o = false ∧ fIs o n = true ∧ cnt o n = some n) := by
 cases o with
 | true => exact Or.inl ⟨rfl, by simp [cnt]⟩
 | false =>
  cases h : fIs false n with
  | false => exact Or.inr (Or.inl ⟨rfl, rfl, isnt_cnt h0 h⟩)
  | true =>
   refine Or.inr (Or.inr ⟨rfl, rfl, ?_⟩)
   have hh : -9223372036854775807 ≤ n := by simpa [fIs] using h
   unfold cnt
   rw [if_neg (by intro e; rcases e with e | e; cases e; omega)]
end Go.Proofs.YtjgckfcocmhnhaaGreatDoor
namespace Go.Proofs.YtjgckfcocmhnhaaGreatDoor
open Go.RowKit
theorem rIs_eq {o : Bool} {n : Int} (h0 : -9223372036854775808 ≤ n) : fIs o n = if o = true then decide (n = 0) else decide (¬ n = -9223372036854775808) := by
 unfold fIs
 cases o with
 | true => rfl
 | false =>
  show decide (-9223372036854775807 ≤ n) = decide (¬ n = -9223372036854775808)
  by_cases h : n = -9223372036854775808
  ·
   rw [decide_eq_false (by omega), decide_eq_false (by omega)]
  ·
   rw [decide_eq_true (by omega), decide_eq_true h]
set_option maxHeartbeats 1000000 in
theorem ris_any (o : Bool) (n : Int) (w : World) (h0 : -9223372036854775808 ≤ n) : Calls Tryz.prog 75 #[.agg #[.bool o, .int .i64 n]] w fun e w' => e = .returned (.bool (fIs o n)) ∧ Below w.heap.size w w' := by
 have hb0 : Below w.heap.size w (w.alloc (.cells #[.bool o, .int .i64 n] 33)) := bal (Below.refl _ _) _
 rw [rIs_eq h0]
 cases o with
 | true =>
  by_cases h : n = 0
  ·
   subst h
   go_enter Tryz.func75, Tryz.ntmps75
   go_wp2
   go_ret
   exact ⟨rfl, hb0⟩
  ·
   have H : Hid (¬ n = 0) := h
   go_enter Tryz.func75, Tryz.ntmps75
   go_wp2
   go_ret
   exact ⟨by simp [H.out], hb0⟩
 | false =>
  by_cases h : n = -9223372036854775808
  ·
   subst h
   go_enter Tryz.func75, Tryz.ntmps75
   go_wp2
   go_ret
   exact ⟨rfl, hb0⟩
  ·
   go_enter Tryz.func75, Tryz.ntmps75
   go_wp2
   go_ret
   exact ⟨by simp, hb0⟩
/-- What counts: overflow, or a number. -/
theorem cnt_cases {o : Bool} {n : Int} (h0 : -9223372036854775808 ≤ n) : (o = true ∧ cnt o n = none) ∨ (o = false ∧ fIs o n = false ∧ cnt o n = none) ∨ (o = false ∧ fIs o n = true ∧ cnt o n = some n) := by
 cases o with
 | true => exact Or.inl ⟨rfl, by simp [cnt]⟩
 | false =>
  cases h : fIs false n with
  | false => exact Or.inr (Or.inl ⟨rfl, rfl, isnt_cnt h0 h⟩)
  | true =>
   refine Or.inr (Or.inr ⟨rfl, rfl, ?_⟩)
   have hh : -9223372036854775807 ≤ n := by simpa [fIs] using h
   unfold cnt
   rw [if_neg (by intro e; rcases e with e | e; cases e; omega)]
def nov (x y : Option Int) : Bool := ov x || ov y
set_option maxHeartbeats 1000000 in
theorem none_any (o p : Bool) (n m : Int) (w : World) (hn : R64 n) (hm : R64 m) : Calls Tryz.prog 109 #[.agg #[.bool o, .int .i64 n], .agg #[.bool p, .int .i64 m]] w fun e w' => e = .returned (.bool (nov (cnt o n) (cnt p m))) ∧ Below w.heap.size w w' := by
 obtain ⟨hx, hy, hb⟩ := boxes2 w o p n m
 rcases cnt_cases (o := o) hn.1 with ⟨rfl, e1⟩ | ⟨rfl, i1, e1⟩ | ⟨rfl, i1, e1⟩
 ·
  rw [e1]
  go_enter Tryz.func109, Tryz.ntmps109
  go_wp2
  go_ret
  exact ⟨rfl, hb⟩
 ·
  rw [e1]
  cases p with
  | true =>
   go_enter Tryz.func109, Tryz.ntmps109
   go_wp2
   go_ret
   exact ⟨rfl, hb⟩
  | false =>
   go_enter Tryz.func109, Tryz.ntmps109
   go_wp2_with fail
   refine (ris_any _ _ _ hn.1).mono ?_
   rintro e w1 ⟨rfl, hb1⟩
   rw [i1]
   go_wp2
   go_ret
   exact ⟨rfl, Below.chain hb hb1⟩
 ·
  rw [e1]
  rcases cnt_cases (o := p) hm.1 with ⟨rfl, e2⟩ | ⟨rfl, i2, e2⟩ | ⟨rfl, i2, e2⟩
  ·
   rw [e2]
   go_enter Tryz.func109, Tryz.ntmps109
   go_wp2
   go_ret
   exact ⟨rfl, hb⟩
  ·
   rw [e2]
   go_enter Tryz.func109, Tryz.ntmps109
   go_wp2_with fail
   refine (ris_any _ _ _ hn.1).mono ?_
   rintro e w1 ⟨rfl, hb1⟩
   rw [i1]
   obtain ⟨c0, c1, _, _⟩ := hy.later hb1
   go_wp2_with fail
   refine (ris_any _ _ _ hm.1).mono ?_
   rintro e w2 ⟨rfl, hb2⟩
   rw [i2]
   go_wp2
   go_ret
   exact ⟨rfl, Below.chain (Below.chain hb hb1) hb2⟩
  ·
   rw [e2]
   go_enter Tryz.func109, Tryz.ntmps109
   go_wp2_with fail
   refine (ris_any _ _ _ hn.1).mono ?_
   rintro e w1 ⟨rfl, hb1⟩
   rw [i1]
   obtain ⟨c0, c1, _, _⟩ := hy.later hb1
   go_wp2_with fail
   refine (ris_any _ _ _ hm.1).mono ?_
   rintro e w2 ⟨rfl, hb2⟩
   rw [i2]
   go_wp2
   go_ret
   exact ⟨rfl, Below.chain (Below.chain hb hb1) hb2⟩
set_option maxHeartbeats 1000000 in
theorem rneg_any (o : Bool) (n : Int) (w : World) (h : R64 n) : Calls Tryz.prog 114 #[.agg #[.bool o, .int .i64 n]] w fun e w' => e = .returned (.agg #[.bool (ov (fNeg (cnt o n))), .int .i64 (nn (fNeg (cnt o n)))]) ∧ Below w.heap.size w w' := by
 obtain ⟨hx, hy, hb⟩ := boxes1 w o n
 have key : ∀ w1, Below ((w.alloc (.cells #[.bool o, .int .i64 n] 33)).alloc (.cells #[.bool false, .int .i64 0] 33)).heap.size ((w.alloc (.cells #[.bool o, .int .i64 n] 33)).alloc (.cells #[.bool false, .int .i64 0] 33)) w1 → Box w1 w.heap.size o n ∧ Box w1 (w.heap.size + 1) false 0 ∧ Below w.heap.size w w1 := fun w1 h1 => ⟨hx.later h1, hy.later h1, Below.chain hb h1⟩
 rcases cnt_cases (o := o) h.1 with ⟨rfl, e1⟩ | ⟨rfl, i1, e1⟩ | ⟨rfl, i1, e1⟩
 ·
  rw [e1]
  cases i1 : fIs true n with
  | true =>
   go_enter Tryz.func114, Tryz.ntmps114
   go_wp2_with fail
   refine (ris_any _ _ _ h.1).mono ?_
   rintro e w1 ⟨rfl, hb1⟩
   rw [i1]
   obtain ⟨⟨c0, c1, _, _⟩, hy1, hb1'⟩ := key _ hb1
   go_wp2_with fail
   refine (ovf_any _).mono ?_
   rintro e w2 ⟨rfl, hb2⟩
   obtain ⟨d0, d1, g0, g1⟩ := hy1.later hb2
   go_wp2
   exact bodyPost_ret (v := .agg #[.bool true, .int .i64 0]) (by simp [results, Tryz.results114, go_sem, d0, d1]) rfl ⟨rfl, put2 (Below.chain hb1' hb2) (by omega) _ _⟩
  | false =>
   go_enter Tryz.func114, Tryz.ntmps114
   go_wp2_with fail
   refine (ris_any _ _ _ h.1).mono ?_
   rintro e w1 ⟨rfl, hb1⟩
   rw [i1]
   obtain ⟨_, hy1, hb1'⟩ := key _ hb1
   go_wp2_with fail
   refine (ovf_any _).mono ?_
   rintro e w2 ⟨rfl, hb2⟩
   obtain ⟨d0, d1, g0, g1⟩ := hy1.later hb2
   go_wp2
   exact bodyPost_ret (v := .agg #[.bool true, .int .i64 0]) (by simp [results, Tryz.results114, go_sem, d0, d1]) rfl ⟨rfl, put2 (Below.chain hb1' hb2) (by omega) _ _⟩
 ·
  rw [e1]
  go_enter Tryz.func114, Tryz.ntmps114
  go_wp2_with fail
  refine (ris_any _ _ _ h.1).mono ?_
  rintro e w1 ⟨rfl, hb1⟩
  rw [i1]
  obtain ⟨_, hy1, hb1'⟩ := key _ hb1
  go_wp2_with fail
  refine (ovf_any _).mono ?_
  rintro e w2 ⟨rfl, hb2⟩
  obtain ⟨d0, d1, g0, g1⟩ := hy1.later hb2
  go_wp2
  exact bodyPost_ret (v := .agg #[.bool true, .int .i64 0]) (by simp [results, Tryz.results114, go_sem, d0, d1]) rfl ⟨rfl, put2 (Below.chain hb1' hb2) (by omega) _ _⟩
 ·
  rw [e1]
  have hn0 : -9223372036854775807 ≤ n := by simpa [fIs] using i1
  have hw : wrap64 (-n) = -n := by have := h.2; unfold wrap64; omega
  go_enter Tryz.func114, Tryz.ntmps114
  go_wp2_with fail
  refine (ris_any _ _ _ h.1).mono ?_
  rintro e w1 ⟨rfl, hb1⟩
  rw [i1]
  obtain ⟨⟨c0, c1, _, _⟩, ⟨d0, d1, g0, g1⟩, hb1'⟩ := key _ hb1
  go_wp2
  exact bodyPost_ret (v := .agg #[.bool false, .int .i64 (-n)]) (by simp [results, Tryz.results114, go_sem, d0, d1]) rfl ⟨rfl, put2 hb1' (by omega) _ _⟩
end Go.Proofs.YtjgckfcocmhnhaaGreatDoor
namespace Go.Proofs.YtjgckfcocmhnhaaGreatDoor
open Go.RowKit
theorem add_cases {a b N : Int} (ha0 : -9223372036854775807 ≤ a) (ha1 : a ≤ 9223372036854775807) (hb0 : -9223372036854775807 ≤ b) (hb1 : b ≤ 9223372036854775807) (hN : wrap64 (a + b) = N) :
  (a > 0 ∧ b > 0 ∧ N ≤ 0 ∧ norm (a + b) = none) ∨ (a > 0 ∧ b > 0 ∧ ¬ N ≤ 0 ∧ ¬ N = -9223372036854775808 ∧ norm (a + b) = some N) ∨ (a > 0 ∧ ¬ b > 0 ∧ ¬ a < 0 ∧ ¬ N = -9223372036854775808 ∧ norm (a + b) = some N) ∨ (¬ a > 0 ∧ a < 0 ∧ b < 0 ∧ N ≥ 0 ∧ norm (a + b) = none) ∨ (¬ a > 0 ∧ a < 0 ∧ b < 0 ∧ ¬ N ≥ 0 ∧ N = -9223372036854775808 ∧ norm (a + b) = none) ∨ (¬ a > 0 ∧ a < 0 ∧ b < 0 ∧ ¬ N ≥ 0 ∧ ¬ N = -9223372036854775808 ∧ norm (a + b) = some N) ∨ (¬ a > 0 ∧ a < 0 ∧ ¬ b < 0 ∧ ¬ N = -9223372036854775808 ∧ norm (a + b) = some N) ∨ (¬ a > 0 ∧ ¬ a < 0 ∧ ¬ N = -9223372036854775808 ∧ norm (a + b) = some N) := by
 have hw : N = a + b ∨ (N = a + b - 18446744073709551616 ∧ 9223372036854775807 < a + b) ∨ (N = a + b + 18446744073709551616 ∧ a + b < -9223372036854775808) := by
  unfold wrap64 at hN
  omega
 have hr : -9223372036854775808 ≤ N ∧ N ≤ 9223372036854775807 := by unfold wrap64 at hN; omega
 clear hN
 rcases hw with h | ⟨h, h'⟩ | ⟨h, h'⟩
 ·
  by_cases hm : N = -9223372036854775808
  ·
   have e : norm (a + b) = none := by unfold norm; rw [if_neg (by omega)]
   rw [e]
   refine Or.inr (Or.inr (Or.inr (Or.inr (Or.inl ⟨by omega, by omega, by omega, by omega, hm, rfl⟩))))
  ·
   have e : norm (a + b) = some N := by unfold norm; rw [if_pos (by omega), h]
   rw [e]
   by_cases p1 : a > 0
   ·
    by_cases p2 : b > 0
    ·
     exact Or.inr (Or.inl ⟨p1, p2, by omega, hm, rfl⟩)
    ·
     exact Or.inr (Or.inr (Or.inl ⟨p1, p2, by omega, hm, rfl⟩))
   ·
    by_cases p3 : a < 0
    ·
     by_cases p4 : b < 0
     ·
      exact Or.inr (Or.inr (Or.inr (Or.inr (Or.inr (Or.inl ⟨p1, p3, p4, by omega, hm, rfl⟩)))))
     ·
      exact Or.inr (Or.inr (Or.inr (Or.inr (Or.inr (Or.inr (Or.inl ⟨p1, p3, p4, hm, rfl⟩))))))
    ·
     exact Or.inr (Or.inr (Or.inr (Or.inr (Or.inr (Or.inr (Or.inr ⟨p1, p3, hm, rfl⟩))))))
 ·
  have e : norm (a + b) = none := by unfold norm; rw [if_neg (by omega)]
  rw [e]
  exact Or.inl ⟨by omega, by omega, by omega, rfl⟩
 ·
  have e : norm (a + b) = none := by unfold norm; rw [if_neg (by omega)]
  rw [e]
  exact Or.inr (Or.inr (Or.inr (Or.inl ⟨by omega, by omega, by omega, by omega, rfl⟩)))
set_option maxHeartbeats 4000000 in
theorem radd_any (o p : Bool) (n m : Int) (w : World) (hn : R64 n) (hm : R64 m) : Calls Tryz.prog 113 #[.agg #[.bool o, .int .i64 n], .agg #[.bool p, .int .i64 m]] w fun e w' => e = .returned (.agg #[.bool (ov (fAdd (cnt o n) (cnt p m))), .int .i64 (nn (fAdd (cnt o n) (cnt p m)))]) ∧ Below w.heap.size w w' := by
 obtain ⟨hx, hy, hz, hb⟩ := boxes3 w o p false n m 0
 have key : ∀ w1, Below (((w.alloc (.cells #[.bool o, .int .i64 n] 33)).alloc (.cells #[.bool p, .int .i64 m] 33)).alloc (.cells #[.bool false, .int .i64 0] 33)).heap.size (((w.alloc (.cells #[.bool o, .int .i64 n] 33)).alloc (.cells #[.bool p, .int .i64 m] 33)).alloc (.cells #[.bool false, .int .i64 0] 33)) w1 → Box w1 w.heap.size o n ∧ Box w1 (w.heap.size + 1) p m ∧ Box w1 (w.heap.size + 2) false 0 ∧ Below w.heap.size w w1 := fun w1 h1 => ⟨hx.later h1, hy.later h1, hz.later h1, Below.chain hb h1⟩
 clear hx hy hz
 cases hN0 : nov (cnt o n) (cnt p m) with
 | true =>
  have HR : Hid (fAdd (cnt o n) (cnt p m) = none) := by
   show _ = _
   unfold nov at hN0
   revert hN0
   generalize cnt o n = x
   generalize cnt p m = y
   intro hN0
   cases x <;> cases y <;> first | rfl | cases hN0
  go_enter Tryz.func113, Tryz.ntmps113
  go_wp2_with fail
  refine (none_any _ _ _ _ _ hn hm).mono ?_
  rintro e w1 ⟨rfl, hb1⟩
  rw [hN0]
  obtain ⟨_, _, hz1, hb1'⟩ := key _ hb1
  go_wp2_with fail
  refine (ovf_any _).mono ?_
  rintro e w2 ⟨rfl, hb2⟩
  obtain ⟨d0, d1, g0, g1⟩ := hz1.later hb2
  go_wp2
  exact bodyPost_ret (v := .agg #[.bool true, .int .i64 0]) (by simp [results, Tryz.results113, go_sem, d0, d1]) rfl ⟨by rw [HR.out]; rfl, put2 (Below.chain hb1' hb2) (by omega) _ _⟩
 | false =>
  rcases cnt_cases (o := o) hn.1 with ⟨rfl, e1⟩ | ⟨rfl, i1, e1⟩ | ⟨rfl, i1, e1⟩
  ·
   rw [e1] at hN0
   cases hN0
  ·
   rw [e1] at hN0
   cases hN0
  ·
   rcases cnt_cases (o := p) hm.1 with ⟨rfl, e2⟩ | ⟨rfl, i2, e2⟩ | ⟨rfl, i2, e2⟩
   ·
    rw [e1, e2] at hN0
    cases hN0
   ·
    rw [e1, e2] at hN0
    cases hN0
   rw [e1, e2] at hN0 ⊢
   have ha0 : -9223372036854775807 ≤ n := by simpa [fIs] using i1
   have hb0 : -9223372036854775807 ≤ m := by simpa [fIs] using i2
   have hcs := add_cases ha0 hn.2 hb0 hm.2 rfl
   have hno := fun w => none_any false false n m w hn hm
   rw [e1, e2, hN0] at hno
   clear e1 e2 i1 i2 ha0 hb0 hN0
   have H1 : Hid (R64 n) := hn
   have H2 : Hid (R64 m) := hm
   clear hn hm
   generalize hNN : wrap64 (n + m) = N at *
   rcases hcs with hh | hh | hh | hh | hh | hh | hh | hh
   ·
    obtain ⟨k0, k1, k2, hR⟩ := hh
    have HR : Hid (fAdd (some n) (some m) = _) := hR
    clear hR
    go_enter Tryz.func113, Tryz.ntmps113
    go_wp2_with fail
    refine (hno _).mono ?_
    rintro e w1 ⟨rfl, hb1⟩
    obtain ⟨⟨c0, c1, _, _⟩, ⟨e0, e1, _, _⟩, hz1, hb1'⟩ := key _ hb1
    go_wp2_with fail
    refine (ovf_any _).mono ?_
    rintro e w2 ⟨rfl, hb2⟩
    obtain ⟨d0, d1, g0, g1⟩ := hz1.later hb2
    go_wp2
    exact bodyPost_ret (v := .agg #[.bool true, .int .i64 0]) (by simp [results, Tryz.results113, go_sem, d0, d1]) rfl ⟨by rw [HR.out]; rfl, put2 (Below.chain hb1' hb2) (by omega) _ _⟩
   ·
    obtain ⟨k0, k1, k2, k3, hR⟩ := hh
    have HR : Hid (fAdd (some n) (some m) = _) := hR
    clear hR
    have kb : (N == -9223372036854775808) = false := by simpa using k3
    go_enter Tryz.func113, Tryz.ntmps113
    go_wp2_with fail
    refine (hno _).mono ?_
    rintro e w1 ⟨rfl, hb1⟩
    obtain ⟨⟨c0, c1, _, _⟩, ⟨e0, e1, _, _⟩, hz1, hb1'⟩ := key _ hb1
    obtain ⟨d0, d1, g0, g1⟩ := hz1
    go_wp2
    exact bodyPost_ret (v := .agg #[.bool false, .int .i64 N]) (by simp [results, Tryz.results113, go_sem, d0, d1]) rfl ⟨by rw [HR.out]; rfl, put2 hb1' (by omega) _ _⟩
   ·
    obtain ⟨k0, k1, k2, k3, hR⟩ := hh
    have HR : Hid (fAdd (some n) (some m) = _) := hR
    clear hR
    have kb : (N == -9223372036854775808) = false := by simpa using k3
    go_enter Tryz.func113, Tryz.ntmps113
    go_wp2_with fail
    refine (hno _).mono ?_
    rintro e w1 ⟨rfl, hb1⟩
    obtain ⟨⟨c0, c1, _, _⟩, ⟨e0, e1, _, _⟩, hz1, hb1'⟩ := key _ hb1
    obtain ⟨d0, d1, g0, g1⟩ := hz1
    go_wp2
    exact bodyPost_ret (v := .agg #[.bool false, .int .i64 N]) (by simp [results, Tryz.results113, go_sem, d0, d1]) rfl ⟨by rw [HR.out]; rfl, put2 hb1' (by omega) _ _⟩
   ·
    obtain ⟨k0, k1, k2, k3, hR⟩ := hh
    have HR : Hid (fAdd (some n) (some m) = _) := hR
    clear hR
    go_enter Tryz.func113, Tryz.ntmps113
    go_wp2_with fail
    refine (hno _).mono ?_
    rintro e w1 ⟨rfl, hb1⟩
    obtain ⟨⟨c0, c1, _, _⟩, ⟨e0, e1, _, _⟩, hz1, hb1'⟩ := key _ hb1
    go_wp2_with fail
    refine (ovf_any _).mono ?_
    rintro e w2 ⟨rfl, hb2⟩
    obtain ⟨d0, d1, g0, g1⟩ := hz1.later hb2
    go_wp2
    exact bodyPost_ret (v := .agg #[.bool true, .int .i64 0]) (by simp [results, Tryz.results113, go_sem, d0, d1]) rfl ⟨by rw [HR.out]; rfl, put2 (Below.chain hb1' hb2) (by omega) _ _⟩
   ·
    obtain ⟨k0, k1, k2, k3, k4, hR⟩ := hh
    have HR : Hid (fAdd (some n) (some m) = _) := hR
    clear hR
    subst k4
    go_enter Tryz.func113, Tryz.ntmps113
    go_wp2_with fail
    refine (hno _).mono ?_
    rintro e w1 ⟨rfl, hb1⟩
    obtain ⟨⟨c0, c1, _, _⟩, ⟨e0, e1, _, _⟩, hz1, hb1'⟩ := key _ hb1
    go_wp2_with fail
    refine (ovf_any _).mono ?_
    rintro e w2 ⟨rfl, hb2⟩
    obtain ⟨d0, d1, g0, g1⟩ := hz1.later hb2
    go_wp2
    exact bodyPost_ret (v := .agg #[.bool true, .int .i64 0]) (by simp [results, Tryz.results113, go_sem, d0, d1]) rfl ⟨by rw [HR.out]; rfl, put2 (Below.chain hb1' hb2) (by omega) _ _⟩
   ·
    obtain ⟨k0, k1, k2, k3, k4, hR⟩ := hh
    have HR : Hid (fAdd (some n) (some m) = _) := hR
    clear hR
    have kb : (N == -9223372036854775808) = false := by simpa using k4
    go_enter Tryz.func113, Tryz.ntmps113
    go_wp2_with fail
    refine (hno _).mono ?_
    rintro e w1 ⟨rfl, hb1⟩
    obtain ⟨⟨c0, c1, _, _⟩, ⟨e0, e1, _, _⟩, hz1, hb1'⟩ := key _ hb1
    obtain ⟨d0, d1, g0, g1⟩ := hz1
    go_wp2
    exact bodyPost_ret (v := .agg #[.bool false, .int .i64 N]) (by simp [results, Tryz.results113, go_sem, d0, d1]) rfl ⟨by rw [HR.out]; rfl, put2 hb1' (by omega) _ _⟩
   ·
    obtain ⟨k0, k1, k2, k3, hR⟩ := hh
    have HR : Hid (fAdd (some n) (some m) = _) := hR
    clear hR
    have kb : (N == -9223372036854775808) = false := by simpa using k3
    go_enter Tryz.func113, Tryz.ntmps113
    go_wp2_with fail
    refine (hno _).mono ?_
    rintro e w1 ⟨rfl, hb1⟩
    obtain ⟨⟨c0, c1, _, _⟩, ⟨e0, e1, _, _⟩, hz1, hb1'⟩ := key _ hb1
    obtain ⟨d0, d1, g0, g1⟩ := hz1
    go_wp2
    exact bodyPost_ret (v := .agg #[.bool false, .int .i64 N]) (by simp [results, Tryz.results113, go_sem, d0, d1]) rfl ⟨by rw [HR.out]; rfl, put2 hb1' (by omega) _ _⟩
   ·
    obtain ⟨k0, k1, k2, hR⟩ := hh
    have HR : Hid (fAdd (some n) (some m) = _) := hR
    clear hR
    have kb : (N == -9223372036854775808) = false := by simpa using k2
    go_enter Tryz.func113, Tryz.ntmps113
    go_wp2_with fail
    refine (hno _).mono ?_
    rintro e w1 ⟨rfl, hb1⟩
    obtain ⟨⟨c0, c1, _, _⟩, ⟨e0, e1, _, _⟩, hz1, hb1'⟩ := key _ hb1
    obtain ⟨d0, d1, g0, g1⟩ := hz1
    go_wp2
    exact bodyPost_ret (v := .agg #[.bool false, .int .i64 N]) (by simp [results, Tryz.results113, go_sem, d0, d1]) rfl ⟨by rw [HR.out]; rfl, put2 hb1' (by omega) _ _⟩
end Go.Proofs.YtjgckfcocmhnhaaGreatDoor
namespace Go.Proofs.YtjgckfcocmhnhaaGreatDoor
open Go.RowKit
theorem both_nums {o p : Bool} {n m : Int} (hn : -9223372036854775808 ≤ n) (hm : -9223372036854775808 ≤ m) (h : nov (cnt o n) (cnt p m) = false) : cnt o n = some n ∧ cnt p m = some m := by
 rcases cnt_cases (o := o) hn with ⟨_, e1⟩ | ⟨_, _, e1⟩ | ⟨_, _, e1⟩
 ·
  rw [e1] at h; cases h
 ·
  rw [e1] at h; cases h
 ·
  rcases cnt_cases (o := p) hm with ⟨_, e2⟩ | ⟨_, _, e2⟩ | ⟨_, _, e2⟩
  ·
   rw [e1, e2] at h; cases h
  ·
   rw [e1, e2] at h; cases h
  ·
   exact ⟨e1, e2⟩
set_option maxHeartbeats 2000000 in
theorem rsub_any (o p : Bool) (n m : Int) (w : World) (hn : R64 n) (hm : R64 m) : Calls Tryz.prog 85 #[.agg #[.bool o, .int .i64 n], .agg #[.bool p, .int .i64 m]] w fun e w' => e = .returned (.agg #[.bool (ov (fAdd (cnt o n) (fNeg (cnt p m)))), .int .i64 (nn (fAdd (cnt o n) (fNeg (cnt p m))))]) ∧ Below w.heap.size w w' := by
 have hv : V (fNeg (cnt p m)) := V.neg (V.cnt hm.1 hm.2)
 have hr := V.r64 hv
 obtain ⟨hx, hy, hz, hb⟩ := boxes3 w o p false n m 0
 go_enter Tryz.func85, Tryz.ntmps85
 go_wp2_with fail
 generalize ((w.alloc (.cells #[.bool o, .int .i64 n] 33)).alloc (.cells #[.bool p, .int .i64 m] 33)).alloc (.cells #[.bool false, .int .i64 0] 33) = w1 at *
 have hzl := hz.lt
 have m0 : ∀ W, Below (w.heap.size + 2) w1 W → W.cell? ⟨w.heap.size, 0, none⟩ = some (.bool o) := fun W h => (h.cell (p := ⟨w.heap.size, 0, none⟩) (by simp)).trans hx.c0
 have m1 : ∀ W, Below (w.heap.size + 2) w1 W → W.cell? ⟨w.heap.size, 1, none⟩ = some (.int .i64 n) := fun W h => (h.cell (p := ⟨w.heap.size, 1, none⟩) (by simp)).trans hx.c1
 have m2 : ∀ W, Below (w.heap.size + 2) w1 W → W.cell? ⟨w.heap.size + 1, 0, none⟩ = some (.bool p) := fun W h => (h.cell (p := ⟨w.heap.size + 1, 0, none⟩) (by simp)).trans hy.c0
 have m3 : ∀ W, Below (w.heap.size + 2) w1 W → W.cell? ⟨w.heap.size + 1, 1, none⟩ = some (.int .i64 m) := fun W h => (h.cell (p := ⟨w.heap.size + 1, 1, none⟩) (by simp)).trans hy.c1
 have B2 : Below (w.heap.size + 2) w1 w1.drew := (Below.refl _ _).drew
 refine wp_region_noPanic ?_
 refine wp_region_held_drew (S := fun W => Below (w.heap.size + 2) w1 W) (by kernel_rfl) ?_ (fun _ => ?_)
 ·
  exact B2
 refine take_at 0 (some 5) (.agg #[.bool o, .int .i64 n]) rfl rfl (by kernel_rfl) (by kernel_rfl) (by kernel_rfl) (fun _ _ _ h => h) (by rfl) (fun W hSw => by go_simp) B2 ?_
 simp only [Act.put, List.setIfInBounds_toArray, List.set_cons_zero, List.set_cons_succ]
 refine take_at 1 (some 6) (.agg #[.bool p, .int .i64 m]) rfl rfl (by kernel_rfl) (by kernel_rfl) (by kernel_rfl) (fun _ _ _ h => h) (by rfl) (fun W hSw => by go_simp) B2 ?_
 simp only [Act.put, List.setIfInBounds_toArray, List.set_cons_zero, List.set_cons_succ]
 refine wpAnyH_ready (rs := [2]) (by kernel_rfl) (by simp) ?_
 refine AllReadyH.cons rfl (fun K hK => ?_) AllReadyH.nil
 go_simp
 refine (rneg_any _ _ _ hm).mono ?_
 rintro e w2 ⟨rfl, hb2⟩
 have C2 := Below.chain (Below.refl _ w1).drew hb2
 have B3 : Below (w.heap.size + 2) w1 w2 := C2.mono (by omega)
 refine hK.out _ _ ?_ (fun _ => ?_)
 ·
  exact B3
 clear hK K
 refine wpAnyH_ready (rs := [3]) (by kernel_rfl) (by simp) ?_
 refine AllReadyH.cons rfl (fun K hK => ?_) AllReadyH.nil
 go_simp
 refine (radd_any _ _ _ _ _ hn hr).mono ?_
 rintro e w3 ⟨rfl, hb3⟩
 rw [cnt_val hv]
 have C4 := Below.chain C2 hb3
 have B4 : Below (w.heap.size + 2) w1 w3 := C4.mono (by omega)
 refine hK.out _ _ ?_ (fun _ => ?_)
 ·
  exact B4
 clear hK K
 have hz6 := hz.later C4
 have c0 := hz6.c0
 have c1 := hz6.c1
 have f0 := hz6.f0
 have f1 := hz6.f1
 refine wpAnyH_ready (rs := [4]) (by kernel_rfl) (by simp) ?_
 refine AllReadyH.cons rfl (fun K hK => ?_) AllReadyH.nil
 go_simp
 refine hK.out _ _ ?_ (fun _ => ?_)
 ·
  exact put2 B4 (by omega) _ _
 clear hK K
 refine wpAnyH_done (by kernel_rfl) ?_ _
 refine NoPanic.normal ?_
 go_wp2
 exact bodyPost_ret (v := .agg #[.bool (ov (fAdd (cnt o n) (fNeg (cnt p m)))), .int .i64 (nn (fAdd (cnt o n) (fNeg (cnt p m))))]) (by simp [results, Tryz.results85, go_sem, c0, c1]) rfl ⟨rfl, put2 (Below.chain hb C4) (by omega) _ _⟩
set_option maxHeartbeats 4000000 in
theorem rmul_any (o p : Bool) (n m : Int) (w : World) (hn : R64 n) (hm : R64 m) : Calls Tryz.prog 129 #[.agg #[.bool o, .int .i64 n], .agg #[.bool p, .int .i64 m]] w fun e w' => e = .returned (.agg #[.bool (ov (fMul (cnt o n) (cnt p m))), .int .i64 (nn (fMul (cnt o n) (cnt p m)))]) ∧ Below w.heap.size w w' := by
 obtain ⟨hx, hy, hz, hb⟩ := boxes3 w o p false n m 0
 have key : ∀ w1, Below (((w.alloc (.cells #[.bool o, .int .i64 n] 33)).alloc (.cells #[.bool p, .int .i64 m] 33)).alloc (.cells #[.bool false, .int .i64 0] 33)).heap.size (((w.alloc (.cells #[.bool o, .int .i64 n] 33)).alloc (.cells #[.bool p, .int .i64 m] 33)).alloc (.cells #[.bool false, .int .i64 0] 33)) w1 → Box w1 w.heap.size o n ∧ Box w1 (w.heap.size + 1) p m ∧ Box w1 (w.heap.size + 2) false 0 ∧ Below w.heap.size w w1 := fun w1 h1 => ⟨hx.later h1, hy.later h1, hz.later h1, Below.chain hb h1⟩
 clear hx hy hz
 have hno := fun w => none_any o p n m w hn hm
 cases hN0 : nov (cnt o n) (cnt p m) with
 | true =>
  rw [hN0] at hno
  have HR : Hid (fMul (cnt o n) (cnt p m) = none) := by
   show _ = _
   unfold nov at hN0
   revert hN0
   generalize cnt o n = x
   generalize cnt p m = y
   intro hN0
   cases x <;> cases y <;> first | rfl | cases hN0
  go_enter Tryz.func129, Tryz.ntmps129
  go_wp2_with fail
  refine (hno _).mono ?_
  rintro e w1 ⟨rfl, hb1⟩
  obtain ⟨_, _, hz1, hb1'⟩ := key _ hb1
  go_wp2_with fail
  refine (ovf_any _).mono ?_
  rintro e w2 ⟨rfl, hb2⟩
  obtain ⟨d0, d1, g0, g1⟩ := hz1.later hb2
  go_wp2
  exact bodyPost_ret (v := .agg #[.bool true, .int .i64 0]) (by simp [results, Tryz.results129, go_sem, d0, d1]) rfl ⟨by rw [HR.out]; rfl, put2 (Below.chain hb1' hb2) (by omega) _ _⟩
 | false =>
  rw [hN0] at hno
  obtain ⟨e1, e2⟩ := both_nums hn.1 hm.1 hN0
  rw [e1, e2]
  have hs := fun w => over_any (decide (n < 0) != decide (m < 0)) n.natAbs m.natAbs 1000000 w (abs_lt hn) (abs_lt hm) (by omega)
  rw [scale_mul] at hs
  clear e1 e2 hN0
  go_enter Tryz.func129, Tryz.ntmps129
  go_wp2_with fail
  refine (hno _).mono ?_
  rintro e w1 ⟨rfl, hb1⟩
  obtain ⟨hx, hy, hz, hb⟩ := key _ hb1
  have x1 := hy.c1
  go_wp2_with fail
  clear x1
  have hzl := hz.lt
  have m0 : ∀ W, Below (w.heap.size + 2) w1 W → W.cell? ⟨w.heap.size, 0, none⟩ = some (.bool o) := fun W h => (h.cell (p := ⟨w.heap.size, 0, none⟩) (by simp)).trans hx.c0
  have m1 : ∀ W, Below (w.heap.size + 2) w1 W → W.cell? ⟨w.heap.size, 1, none⟩ = some (.int .i64 n) := fun W h => (h.cell (p := ⟨w.heap.size, 1, none⟩) (by simp)).trans hx.c1
  have m2 : ∀ W, Below (w.heap.size + 2) w1 W → W.cell? ⟨w.heap.size + 1, 0, none⟩ = some (.bool p) := fun W h => (h.cell (p := ⟨w.heap.size + 1, 0, none⟩) (by simp)).trans hy.c0
  have m3 : ∀ W, Below (w.heap.size + 2) w1 W → W.cell? ⟨w.heap.size + 1, 1, none⟩ = some (.int .i64 m) := fun W h => (h.cell (p := ⟨w.heap.size + 1, 1, none⟩) (by simp)).trans hy.c1
  have B2 : Below (w.heap.size + 2) w1 w1.drew := (Below.refl _ _).drew
  refine wp_region_noPanic ?_
  refine wp_region_held_drew (S := fun W => Below (w.heap.size + 2) w1 W) (by kernel_rfl) ?_ (fun _ => ?_)
  ·
   exact B2
  refine take_at 0 (some 9) (.pointer (some ⟨w.heap.size, 1, none⟩)) rfl rfl (by kernel_rfl) (by kernel_rfl) (by kernel_rfl) (fun _ _ _ h => h) (by rfl) (fun W hSw => by go_simp) B2 ?_
  simp only [Act.put, List.setIfInBounds_toArray, List.set_cons_zero, List.set_cons_succ]
  refine take_at 1 (some 10) (.int .i64 n) rfl rfl (by kernel_rfl) (by kernel_rfl) (by kernel_rfl) (fun _ _ _ h => h) (by rfl) (fun W hSw => by go_simp) B2 ?_
  simp only [Act.put, List.setIfInBounds_toArray, List.set_cons_zero, List.set_cons_succ]
  refine take_at 3 (some 12) (.pointer (some ⟨w.heap.size + 1, 1, none⟩)) rfl rfl (by kernel_rfl) (by kernel_rfl) (by kernel_rfl) (fun _ _ _ h => h) (by rfl) (fun W hSw => by go_simp) B2 ?_
  simp only [Act.put, List.setIfInBounds_toArray, List.set_cons_zero, List.set_cons_succ]
  refine take_at 4 (some 13) (.int .i64 m) rfl rfl (by kernel_rfl) (by kernel_rfl) (by kernel_rfl) (fun _ _ _ h => h) (by rfl) (fun W hSw => by go_simp) B2 ?_
  simp only [Act.put, List.setIfInBounds_toArray, List.set_cons_zero, List.set_cons_succ]
  refine take_at 6 (some 15) (.pointer (some ⟨w.heap.size, 1, none⟩)) rfl rfl (by kernel_rfl) (by kernel_rfl) (by kernel_rfl) (fun _ _ _ h => h) (by rfl) (fun W hSw => by go_simp) B2 ?_
  simp only [Act.put, List.setIfInBounds_toArray, List.set_cons_zero, List.set_cons_succ]
  refine take_at 7 (some 16) (.int .i64 n) rfl rfl (by kernel_rfl) (by kernel_rfl) (by kernel_rfl) (fun _ _ _ h => h) (by rfl) (fun W hSw => by go_simp) B2 ?_
  simp only [Act.put, List.setIfInBounds_toArray, List.set_cons_zero, List.set_cons_succ]
  refine take_at 8 (some 17) (.bool (decide (n < 0))) rfl rfl (by kernel_rfl) (by kernel_rfl) (by kernel_rfl) (fun _ _ _ h => h) (by rfl) (fun W hSw => by go_simp) B2 ?_
  simp only [Act.put, List.setIfInBounds_toArray, List.set_cons_zero, List.set_cons_succ]
  refine take_at 9 (some 18) (.pointer (some ⟨w.heap.size + 1, 1, none⟩)) rfl rfl (by kernel_rfl) (by kernel_rfl) (by kernel_rfl) (fun _ _ _ h => h) (by rfl) (fun W hSw => by go_simp) B2 ?_
  simp only [Act.put, List.setIfInBounds_toArray, List.set_cons_zero, List.set_cons_succ]
  refine take_at 10 (some 19) (.int .i64 m) rfl rfl (by kernel_rfl) (by kernel_rfl) (by kernel_rfl) (fun _ _ _ h => h) (by rfl) (fun W hSw => by go_simp) B2 ?_
  simp only [Act.put, List.setIfInBounds_toArray, List.set_cons_zero, List.set_cons_succ]
  refine take_at 11 (some 20) (.bool (decide (m < 0))) rfl rfl (by kernel_rfl) (by kernel_rfl) (by kernel_rfl) (fun _ _ _ h => h) (by rfl) (fun W hSw => by go_simp) B2 ?_
  simp only [Act.put, List.setIfInBounds_toArray, List.set_cons_zero, List.set_cons_succ]
  refine take_at 12 (some 21) (.bool (decide (n < 0) != decide (m < 0))) rfl rfl (by kernel_rfl) (by kernel_rfl) (by kernel_rfl) (fun _ _ _ h => h) (by rfl) (fun W hSw => by go_simp; cases decide (n < 0) <;> cases decide (m < 0) <;> rfl) B2 ?_
  simp only [Act.put, List.setIfInBounds_toArray, List.set_cons_zero, List.set_cons_succ]
  refine wpAnyH_ready (rs := [2]) (by kernel_rfl) (by simp) ?_
  refine AllReadyH.cons rfl (fun K hK => ?_) AllReadyH.nil
  go_simp
  refine (size_any _ _ hn.1 hn.2).mono ?_
  rintro e w5 ⟨rfl, rfl⟩
  refine hK.out _ _ ?_ (fun _ => ?_)
  ·
   exact B2
  clear hK K
  refine wpAnyH_ready (rs := [5]) (by kernel_rfl) (by simp) ?_
  refine AllReadyH.cons rfl (fun K hK => ?_) AllReadyH.nil
  go_simp
  refine (size_any _ _ hm.1 hm.2).mono ?_
  rintro e w5 ⟨rfl, rfl⟩
  refine hK.out _ _ ?_ (fun _ => ?_)
  ·
   exact B2
  clear hK K
  refine wpAnyH_ready (rs := [13]) (by kernel_rfl) (by simp) ?_
  refine AllReadyH.cons rfl (fun K hK => ?_) AllReadyH.nil
  go_simp
  refine (hs _).mono ?_
  rintro e w6 ⟨rfl, hb6⟩
  have C4 := Below.chain (Below.refl _ w1).drew hb6
  have B3 : Below (w.heap.size + 2) w1 w6 := C4.mono (by omega)
  refine hK.out _ _ ?_ (fun _ => ?_)
  ·
   exact B3
  clear hK K
  have hz6 := hz.later C4
  have c0 := hz6.c0
  have c1 := hz6.c1
  have f0 := hz6.f0
  have f1 := hz6.f1
  refine wpAnyH_ready (rs := [14]) (by kernel_rfl) (by simp) ?_
  refine AllReadyH.cons rfl (fun K hK => ?_) AllReadyH.nil
  go_simp
  refine hK.out _ _ ?_ (fun _ => ?_)
  ·
   exact put2 B3 (by omega) _ _
  clear hK K
  refine wpAnyH_done (by kernel_rfl) ?_ _
  refine NoPanic.normal ?_
  go_wp2
  exact bodyPost_ret (v := .agg #[.bool (ov (fMul (some n) (some m))), .int .i64 (nn (fMul (some n) (some m)))]) (by simp [results, Tryz.results129, go_sem, c0, c1]) rfl ⟨rfl, put2 (Below.chain hb C4) (by omega) _ _⟩
set_option maxHeartbeats 4000000 in
theorem rquo_any (o p : Bool) (n m : Int) (w : World) (hn : R64 n) (hm : R64 m) : Calls Tryz.prog 82 #[.agg #[.bool o, .int .i64 n], .agg #[.bool p, .int .i64 m]] w fun e w' => e = .returned (.agg #[.bool (ov (fDiv (cnt o n) (cnt p m))), .int .i64 (nn (fDiv (cnt o n) (cnt p m)))]) ∧ Below w.heap.size w w' := by
 obtain ⟨hx, hy, hz, hb⟩ := boxes3 w o p false n m 0
 have key : ∀ w1, Below (((w.alloc (.cells #[.bool o, .int .i64 n] 33)).alloc (.cells #[.bool p, .int .i64 m] 33)).alloc (.cells #[.bool false, .int .i64 0] 33)).heap.size (((w.alloc (.cells #[.bool o, .int .i64 n] 33)).alloc (.cells #[.bool p, .int .i64 m] 33)).alloc (.cells #[.bool false, .int .i64 0] 33)) w1 → Box w1 w.heap.size o n ∧ Box w1 (w.heap.size + 1) p m ∧ Box w1 (w.heap.size + 2) false 0 ∧ Below w.heap.size w w1 := fun w1 h1 => ⟨hx.later h1, hy.later h1, hz.later h1, Below.chain hb h1⟩
 clear hx hy hz
 have hno := fun w => none_any o p n m w hn hm
 cases hN0 : nov (cnt o n) (cnt p m) with
 | true =>
  rw [hN0] at hno
  have HR : Hid (fDiv (cnt o n) (cnt p m) = none) := by
   show _ = _
   unfold nov at hN0
   revert hN0
   generalize cnt o n = x
   generalize cnt p m = y
   intro hN0
   cases x <;> cases y <;> first | rfl | cases hN0
  go_enter Tryz.func82, Tryz.ntmps82
  go_wp2_with fail
  refine (hno _).mono ?_
  rintro e w1 ⟨rfl, hb1⟩
  obtain ⟨_, _, hz1, hb1'⟩ := key _ hb1
  go_wp2_with fail
  refine (ovf_any _).mono ?_
  rintro e w2 ⟨rfl, hb2⟩
  obtain ⟨d0, d1, g0, g1⟩ := hz1.later hb2
  go_wp2
  exact bodyPost_ret (v := .agg #[.bool true, .int .i64 0]) (by simp [results, Tryz.results82, go_sem, d0, d1]) rfl ⟨by rw [HR.out]; rfl, put2 (Below.chain hb1' hb2) (by omega) _ _⟩
 | false =>
  rw [hN0] at hno
  obtain ⟨e1, e2⟩ := both_nums hn.1 hm.1 hN0
  rw [e1, e2]
  have hs := fun w => over_any (decide (n < 0) != decide (m < 0)) n.natAbs 1000000 m.natAbs w (abs_lt hn) (by omega) (abs_lt hm)
  rw [scale_div] at hs
  clear e1 e2 hN0
  by_cases hz0 : m = 0
  ·
   subst hz0
   have HR : Hid (fDiv (some n) (some 0) = none) := rfl
   go_enter Tryz.func82, Tryz.ntmps82
   go_wp2_with fail
   refine (hno _).mono ?_
   rintro e w1 ⟨rfl, hb1⟩
   obtain ⟨_, ⟨c0, c1, _, _⟩, hz1, hb1'⟩ := key _ hb1
   go_wp2_with fail
   refine (ovf_any _).mono ?_
   rintro e w2 ⟨rfl, hb2⟩
   obtain ⟨d0, d1, g0, g1⟩ := hz1.later hb2
   go_wp2
   exact bodyPost_ret (v := .agg #[.bool true, .int .i64 0]) (by simp [results, Tryz.results82, go_sem, d0, d1]) rfl ⟨by rw [HR.out]; rfl, put2 (Below.chain hb1' hb2) (by omega) _ _⟩
  have hz0' : (m == 0) = false := by simpa using hz0
  go_enter Tryz.func82, Tryz.ntmps82
  go_wp2_with fail
  refine (hno _).mono ?_
  rintro e w1 ⟨rfl, hb1⟩
  obtain ⟨hx, hy, hz, hb⟩ := key _ hb1
  have x1 := hy.c1
  go_wp2_with fail
  clear x1
  have hzl := hz.lt
  have m0 : ∀ W, Below (w.heap.size + 2) w1 W → W.cell? ⟨w.heap.size, 0, none⟩ = some (.bool o) := fun W h => (h.cell (p := ⟨w.heap.size, 0, none⟩) (by simp)).trans hx.c0
  have m1 : ∀ W, Below (w.heap.size + 2) w1 W → W.cell? ⟨w.heap.size, 1, none⟩ = some (.int .i64 n) := fun W h => (h.cell (p := ⟨w.heap.size, 1, none⟩) (by simp)).trans hx.c1
  have m2 : ∀ W, Below (w.heap.size + 2) w1 W → W.cell? ⟨w.heap.size + 1, 0, none⟩ = some (.bool p) := fun W h => (h.cell (p := ⟨w.heap.size + 1, 0, none⟩) (by simp)).trans hy.c0
  have m3 : ∀ W, Below (w.heap.size + 2) w1 W → W.cell? ⟨w.heap.size + 1, 1, none⟩ = some (.int .i64 m) := fun W h => (h.cell (p := ⟨w.heap.size + 1, 1, none⟩) (by simp)).trans hy.c1
  have B2 : Below (w.heap.size + 2) w1 w1.drew := (Below.refl _ _).drew
  refine wp_region_noPanic ?_
  refine wp_region_held_drew (S := fun W => Below (w.heap.size + 2) w1 W) (by kernel_rfl) ?_ (fun _ => ?_)
  ·
   exact B2
  refine take_at 0 (some 14) (.pointer (some ⟨w.heap.size, 1, none⟩)) rfl rfl (by kernel_rfl) (by kernel_rfl) (by kernel_rfl) (fun _ _ _ h => h) (by rfl) (fun W hSw => by go_simp) B2 ?_
  simp only [Act.put, List.setIfInBounds_toArray, List.set_cons_zero, List.set_cons_succ]
  refine take_at 1 (some 15) (.int .i64 n) rfl rfl (by kernel_rfl) (by kernel_rfl) (by kernel_rfl) (fun _ _ _ h => h) (by rfl) (fun W hSw => by go_simp) B2 ?_
  simp only [Act.put, List.setIfInBounds_toArray, List.set_cons_zero, List.set_cons_succ]
  refine take_at 3 (some 17) (.pointer (some ⟨w.heap.size + 1, 1, none⟩)) rfl rfl (by kernel_rfl) (by kernel_rfl) (by kernel_rfl) (fun _ _ _ h => h) (by rfl) (fun W hSw => by go_simp) B2 ?_
  simp only [Act.put, List.setIfInBounds_toArray, List.set_cons_zero, List.set_cons_succ]
  refine take_at 4 (some 18) (.int .i64 m) rfl rfl (by kernel_rfl) (by kernel_rfl) (by kernel_rfl) (fun _ _ _ h => h) (by rfl) (fun W hSw => by go_simp) B2 ?_
  simp only [Act.put, List.setIfInBounds_toArray, List.set_cons_zero, List.set_cons_succ]
  refine take_at 6 (some 20) (.pointer (some ⟨w.heap.size, 1, none⟩)) rfl rfl (by kernel_rfl) (by kernel_rfl) (by kernel_rfl) (fun _ _ _ h => h) (by rfl) (fun W hSw => by go_simp) B2 ?_
  simp only [Act.put, List.setIfInBounds_toArray, List.set_cons_zero, List.set_cons_succ]
  refine take_at 7 (some 21) (.int .i64 n) rfl rfl (by kernel_rfl) (by kernel_rfl) (by kernel_rfl) (fun _ _ _ h => h) (by rfl) (fun W hSw => by go_simp) B2 ?_
  simp only [Act.put, List.setIfInBounds_toArray, List.set_cons_zero, List.set_cons_succ]
  refine take_at 8 (some 22) (.bool (decide (n < 0))) rfl rfl (by kernel_rfl) (by kernel_rfl) (by kernel_rfl) (fun _ _ _ h => h) (by rfl) (fun W hSw => by go_simp) B2 ?_
  simp only [Act.put, List.setIfInBounds_toArray, List.set_cons_zero, List.set_cons_succ]
  refine take_at 9 (some 23) (.pointer (some ⟨w.heap.size + 1, 1, none⟩)) rfl rfl (by kernel_rfl) (by kernel_rfl) (by kernel_rfl) (fun _ _ _ h => h) (by rfl) (fun W hSw => by go_simp) B2 ?_
  simp only [Act.put, List.setIfInBounds_toArray, List.set_cons_zero, List.set_cons_succ]
  refine take_at 10 (some 24) (.int .i64 m) rfl rfl (by kernel_rfl) (by kernel_rfl) (by kernel_rfl) (fun _ _ _ h => h) (by rfl) (fun W hSw => by go_simp) B2 ?_
  simp only [Act.put, List.setIfInBounds_toArray, List.set_cons_zero, List.set_cons_succ]
  refine take_at 11 (some 25) (.bool (decide (m < 0))) rfl rfl (by kernel_rfl) (by kernel_rfl) (by kernel_rfl) (fun _ _ _ h => h) (by rfl) (fun W hSw => by go_simp) B2 ?_
  simp only [Act.put, List.setIfInBounds_toArray, List.set_cons_zero, List.set_cons_succ]
  refine take_at 12 (some 26) (.bool (decide (n < 0) != decide (m < 0))) rfl rfl (by kernel_rfl) (by kernel_rfl) (by kernel_rfl) (fun _ _ _ h => h) (by rfl) (fun W hSw => by go_simp; cases decide (n < 0) <;> cases decide (m < 0) <;> rfl) B2 ?_
  simp only [Act.put, List.setIfInBounds_toArray, List.set_cons_zero, List.set_cons_succ]
  refine wpAnyH_ready (rs := [2]) (by kernel_rfl) (by simp) ?_
  refine AllReadyH.cons rfl (fun K hK => ?_) AllReadyH.nil
  go_simp
  refine (size_any _ _ hn.1 hn.2).mono ?_
  rintro e w5 ⟨rfl, rfl⟩
  refine hK.out _ _ ?_ (fun _ => ?_)
  ·
   exact B2
  clear hK K
  refine wpAnyH_ready (rs := [5]) (by kernel_rfl) (by simp) ?_
  refine AllReadyH.cons rfl (fun K hK => ?_) AllReadyH.nil
  go_simp
  refine (size_any _ _ hm.1 hm.2).mono ?_
  rintro e w5 ⟨rfl, rfl⟩
  refine hK.out _ _ ?_ (fun _ => ?_)
  ·
   exact B2
  clear hK K
  refine wpAnyH_ready (rs := [13]) (by kernel_rfl) (by simp) ?_
  refine AllReadyH.cons rfl (fun K hK => ?_) AllReadyH.nil
  go_simp
  refine (hs _).mono ?_
  rintro e w6 ⟨rfl, hb6⟩
  have C4 := Below.chain (Below.refl _ w1).drew hb6
  have B3 : Below (w.heap.size + 2) w1 w6 := C4.mono (by omega)
  refine hK.out _ _ ?_ (fun _ => ?_)
  ·
   exact B3
  clear hK K
  have hz6 := hz.later C4
  have c0 := hz6.c0
  have c1 := hz6.c1
  have f0 := hz6.f0
  have f1 := hz6.f1
  refine wpAnyH_ready (rs := [14]) (by kernel_rfl) (by simp) ?_
  refine AllReadyH.cons rfl (fun K hK => ?_) AllReadyH.nil
  go_simp
  refine hK.out _ _ ?_ (fun _ => ?_)
  ·
   exact put2 B3 (by omega) _ _
  clear hK K
  refine wpAnyH_done (by kernel_rfl) ?_ _
  refine NoPanic.normal ?_
  go_wp2
  exact bodyPost_ret (v := .agg #[.bool (ov (fDiv (some n) (some m))), .int .i64 (nn (fDiv (some n) (some m)))]) (by simp [results, Tryz.results82, go_sem, c0, c1]) rfl ⟨rfl, put2 (Below.chain hb C4) (by omega) _ _⟩
theorem of_mul (n : Int) (hn : R64 n) : fMul (cnt false n) (some 1000000000000) = fOf n := by
 unfold fOf
 by_cases h : n = -9223372036854775808
 ·
  subst h
  have e : cnt false (-9223372036854775808) = none := by decide +kernel
  rw [e]
  decide +kernel
 ·
  rw [ex_cnt _ (by have := hn.1; omega)]
  show norm _ = norm _
  have : n * 1000000000000 = (n * 1000000) * 1000000 := by omega
  rw [this, Int.mul_tdiv_cancel _ (by decide)]
set_option maxHeartbeats 1000000 in
theorem rof_any (n : Int) (w : World) (hn : R64 n) : Calls Tryz.prog 112 #[.int .i64 n] w fun e w' => e = .returned (.agg #[.bool (ov (fOf n)), .int .i64 (nn (fOf n))]) ∧ Below w.heap.size w w' := by
 have hx := Box.new w false 0
 have hb0 : Below w.heap.size w (w.alloc (.cells #[.bool false, .int .i64 0] 33)) := bal (Below.refl _ _) _
 have hs := fun w => rmul_any false false n 1000000000000 w hn ⟨by decide, by decide⟩
 rw [ex_cnt 1000000000000 (by decide), of_mul n hn] at hs
 go_enter Tryz.func112, Tryz.ntmps112
 go_wp2_with fail
 refine (hs _).mono ?_
 rintro e w1 ⟨rfl, hb1⟩
 obtain ⟨c0, c1, f0, f1⟩ := hx.later hb1
 go_wp2
 exact bodyPost_ret (v := .agg #[.bool (ov (fOf n)), .int .i64 (nn (fOf n))]) (by simp [results, Tryz.results112, go_sem, c0, c1]) rfl ⟨rfl, put2 (Below.chain hb0 hb1) (by omega) _ _⟩
end Go.Proofs.YtjgckfcocmhnhaaGreatDoor
namespace Go.Proofs.YtjgckfcocmhnhaaGreatDoor
open Go.RowKit
theorem cnt_two (o : Bool) (n : Int) : cnt o n = none ∨ cnt o n = some n := by
 unfold cnt
 split
 ·
  exact Or.inl rfl
 ·
  exact Or.inr rfl
set_option maxHeartbeats 4000000 in
theorem rcmp_any (o p : Bool) (n m : Int) (w : World) (hn : R64 n) (hm : R64 m) : Calls Tryz.prog 108 #[.agg #[.bool o, .int .i64 n], .agg #[.bool p, .int .i64 m]] w fun e w' => e = .returned (.int .i64 (fCmp (cnt o n) (cnt p m))) ∧ Below w.heap.size w w' := by
 obtain ⟨hx, hy, hb⟩ := boxes2 w o p n m
 go_enter Tryz.func108, Tryz.ntmps108
 go_upto_region 1 with fail
 generalize (w.alloc (.cells #[.bool o, .int .i64 n] 33)).alloc (.cells #[.bool p, .int .i64 m] 33) = w1 at *
 go_cut [5, 6] from 7 to 20 (fun a b wx => a = .bool (ov (cnt o n)) ∧ b = .bool (ov (cnt p m)) ∧ Box wx w.heap.size o n ∧ Box wx (w.heap.size + 1) p m ∧ Below w.heap.size w wx)
 case first =>
  rcases cnt_cases (o := o) hn.1 with ⟨rfl, e1⟩ | ⟨rfl, i1, e1⟩ | ⟨rfl, i1, e1⟩
  ·
   rcases cnt_cases (o := p) hm.1 with ⟨rfl, e2⟩ | ⟨rfl, i2, e2⟩ | ⟨rfl, i2, e2⟩
   ·
    have E1 : Hid _ := e1
    have E2 : Hid _ := e2
    clear e1 e2
    have m0 := hx.at0
    have m1 := hx.at1
    have m2 := hy.at0
    have m3 := hy.at1
    refine wp_region_noPanic ?_
    refine wp_region_held_drew (S := fun W => Below w1.heap.size w1 W) (by kernel_rfl) ?_ (fun _ => ?_)
    ·
     exact (Below.refl _ _).drew
    have B2 : Below w1.heap.size w1 w1.drew := (Below.refl _ _).drew
    refine take_at 0 (some 7) (.pointer (some ⟨w.heap.size, 0, none⟩)) rfl rfl (by kernel_rfl) (by kernel_rfl) (by kernel_rfl) (fun _ _ _ h => h) (by rfl) (fun W hSw => by go_simp) B2 ?_
    simp only [Act.put, List.setIfInBounds_toArray, List.set_cons_zero, List.set_cons_succ]
    refine take_at 1 (some 8) (.bool true) rfl rfl (by kernel_rfl) (by kernel_rfl) (by kernel_rfl) (fun _ _ _ h => h) (by rfl) (fun W hSw => by go_simp) B2 ?_
    simp only [Act.put, List.setIfInBounds_toArray, List.set_cons_zero, List.set_cons_succ]
    refine take_at 7 (some 14) (.pointer (some ⟨w.heap.size + 1, 0, none⟩)) rfl rfl (by kernel_rfl) (by kernel_rfl) (by kernel_rfl) (fun _ _ _ h => h) (by rfl) (fun W hSw => by go_simp) B2 ?_
    simp only [Act.put, List.setIfInBounds_toArray, List.set_cons_zero, List.set_cons_succ]
    refine take_at 8 (some 15) (.bool true) rfl rfl (by kernel_rfl) (by kernel_rfl) (by kernel_rfl) (fun _ _ _ h => h) (by rfl) (fun W hSw => by go_simp) B2 ?_
    simp only [Act.put, List.setIfInBounds_toArray, List.set_cons_zero, List.set_cons_succ]
    refine take_at 2 (some 9) (.bool true) rfl rfl (by kernel_rfl) (by kernel_rfl) (by kernel_rfl) (fun _ _ _ h => h) (by rfl) (fun W hSw => by go_simp) B2 ?_
    simp only [Act.put, List.setIfInBounds_toArray, List.set_cons_zero, List.set_cons_succ]
    refine skip_at 3 (some 10) rfl rfl (by kernel_rfl) (by kernel_rfl) (by kernel_rfl) (fun _ _ _ h => h) (by rfl) B2 ?_
    simp only [Act.put, List.setIfInBounds_toArray, List.set_cons_zero, List.set_cons_succ]
    refine skip_at 4 (some 11) rfl rfl (by kernel_rfl) (by kernel_rfl) (by kernel_rfl) (fun _ _ _ h => h) (by rfl) B2 ?_
    simp only [Act.put, List.setIfInBounds_toArray, List.set_cons_zero, List.set_cons_succ]
    refine skip_at 5 (some 12) rfl rfl (by kernel_rfl) (by kernel_rfl) (by kernel_rfl) (fun _ _ _ h => h) (by rfl) B2 ?_
    simp only [Act.put, List.setIfInBounds_toArray, List.set_cons_zero, List.set_cons_succ]
    refine take_at 6 (some 13) (.bool true) rfl rfl (by kernel_rfl) (by kernel_rfl) (by kernel_rfl) (fun _ _ _ h => h) (by rfl) (fun W hSw => by go_simp) B2 ?_
    simp only [Act.put, List.setIfInBounds_toArray, List.set_cons_zero, List.set_cons_succ]
    refine take_at 9 (some 16) (.bool true) rfl rfl (by kernel_rfl) (by kernel_rfl) (by kernel_rfl) (fun _ _ _ h => h) (by rfl) (fun W hSw => by go_simp) B2 ?_
    simp only [Act.put, List.setIfInBounds_toArray, List.set_cons_zero, List.set_cons_succ]
    refine skip_at 10 (some 17) rfl rfl (by kernel_rfl) (by kernel_rfl) (by kernel_rfl) (fun _ _ _ h => h) (by rfl) B2 ?_
    simp only [Act.put, List.setIfInBounds_toArray, List.set_cons_zero, List.set_cons_succ]
    refine skip_at 11 (some 18) rfl rfl (by kernel_rfl) (by kernel_rfl) (by kernel_rfl) (fun _ _ _ h => h) (by rfl) B2 ?_
    simp only [Act.put, List.setIfInBounds_toArray, List.set_cons_zero, List.set_cons_succ]
    refine skip_at 12 (some 19) rfl rfl (by kernel_rfl) (by kernel_rfl) (by kernel_rfl) (fun _ _ _ h => h) (by rfl) B2 ?_
    simp only [Act.put, List.setIfInBounds_toArray, List.set_cons_zero, List.set_cons_succ]
    refine take_at 13 (some 20) (.bool true) rfl rfl (by kernel_rfl) (by kernel_rfl) (by kernel_rfl) (fun _ _ _ h => h) (by rfl) (fun W hSw => by go_simp) B2 ?_
    simp only [Act.put, List.setIfInBounds_toArray, List.set_cons_zero, List.set_cons_succ]
    refine take_at 14 (some 5) (.bool true) rfl rfl (by kernel_rfl) (by kernel_rfl) (by kernel_rfl) (fun _ _ _ h => h) (by rfl) (fun W hSw => by go_simp) B2 ?_
    simp only [Act.put, List.setIfInBounds_toArray, List.set_cons_zero, List.set_cons_succ]
    refine take_at 15 (some 6) (.bool true) rfl rfl (by kernel_rfl) (by kernel_rfl) (by kernel_rfl) (fun _ _ _ h => h) (by rfl) (fun W hSw => by go_simp) B2 ?_
    simp only [Act.put, List.setIfInBounds_toArray, List.set_cons_zero, List.set_cons_succ]
    refine wpAnyH_done (by kernel_rfl) ?_ _
    refine NoPanic.normal ?_
    go_wp2_with fail
    go_meet
    exact ⟨by rw [E1.out]; rfl, by rw [E2.out]; rfl, hx.later B2, hy.later B2, Below.chain hb B2⟩
   ·
    have E1 : Hid _ := e1
    have E2 : Hid _ := e2
    clear e1 e2
    have m0 := hx.at0
    have m1 := hx.at1
    have m2 := hy.at0
    have m3 := hy.at1
    refine wp_region_noPanic ?_
    refine wp_region_held_drew (S := fun W => Below w1.heap.size w1 W) (by kernel_rfl) ?_ (fun _ => ?_)
    ·
     exact (Below.refl _ _).drew
    have B2 : Below w1.heap.size w1 w1.drew := (Below.refl _ _).drew
    refine take_at 0 (some 7) (.pointer (some ⟨w.heap.size, 0, none⟩)) rfl rfl (by kernel_rfl) (by kernel_rfl) (by kernel_rfl) (fun _ _ _ h => h) (by rfl) (fun W hSw => by go_simp) B2 ?_
    simp only [Act.put, List.setIfInBounds_toArray, List.set_cons_zero, List.set_cons_succ]
    refine take_at 1 (some 8) (.bool true) rfl rfl (by kernel_rfl) (by kernel_rfl) (by kernel_rfl) (fun _ _ _ h => h) (by rfl) (fun W hSw => by go_simp) B2 ?_
    simp only [Act.put, List.setIfInBounds_toArray, List.set_cons_zero, List.set_cons_succ]
    refine take_at 7 (some 14) (.pointer (some ⟨w.heap.size + 1, 0, none⟩)) rfl rfl (by kernel_rfl) (by kernel_rfl) (by kernel_rfl) (fun _ _ _ h => h) (by rfl) (fun W hSw => by go_simp) B2 ?_
    simp only [Act.put, List.setIfInBounds_toArray, List.set_cons_zero, List.set_cons_succ]
    refine take_at 8 (some 15) (.bool false) rfl rfl (by kernel_rfl) (by kernel_rfl) (by kernel_rfl) (fun _ _ _ h => h) (by rfl) (fun W hSw => by go_simp) B2 ?_
    simp only [Act.put, List.setIfInBounds_toArray, List.set_cons_zero, List.set_cons_succ]
    refine take_at 2 (some 9) (.bool true) rfl rfl (by kernel_rfl) (by kernel_rfl) (by kernel_rfl) (fun _ _ _ h => h) (by rfl) (fun W hSw => by go_simp) B2 ?_
    simp only [Act.put, List.setIfInBounds_toArray, List.set_cons_zero, List.set_cons_succ]
    refine skip_at 3 (some 10) rfl rfl (by kernel_rfl) (by kernel_rfl) (by kernel_rfl) (fun _ _ _ h => h) (by rfl) B2 ?_
    simp only [Act.put, List.setIfInBounds_toArray, List.set_cons_zero, List.set_cons_succ]
    refine skip_at 4 (some 11) rfl rfl (by kernel_rfl) (by kernel_rfl) (by kernel_rfl) (fun _ _ _ h => h) (by rfl) B2 ?_
    simp only [Act.put, List.setIfInBounds_toArray, List.set_cons_zero, List.set_cons_succ]
    refine skip_at 5 (some 12) rfl rfl (by kernel_rfl) (by kernel_rfl) (by kernel_rfl) (fun _ _ _ h => h) (by rfl) B2 ?_
    simp only [Act.put, List.setIfInBounds_toArray, List.set_cons_zero, List.set_cons_succ]
    refine take_at 6 (some 13) (.bool true) rfl rfl (by kernel_rfl) (by kernel_rfl) (by kernel_rfl) (fun _ _ _ h => h) (by rfl) (fun W hSw => by go_simp) B2 ?_
    simp only [Act.put, List.setIfInBounds_toArray, List.set_cons_zero, List.set_cons_succ]
    refine take_at 9 (some 16) (.bool false) rfl rfl (by kernel_rfl) (by kernel_rfl) (by kernel_rfl) (fun _ _ _ h => h) (by rfl) (fun W hSw => by go_simp) B2 ?_
    simp only [Act.put, List.setIfInBounds_toArray, List.set_cons_zero, List.set_cons_succ]
    refine take_at 10 (some 17) (.agg #[.bool false, .int .i64 m]) rfl rfl (by kernel_rfl) (by kernel_rfl) (by kernel_rfl) (fun _ _ _ h => h) (by rfl) (fun W hSw => by go_simp) B2 ?_
    simp only [Act.put, List.setIfInBounds_toArray, List.set_cons_zero, List.set_cons_succ]
    refine wpAnyH_ready (rs := [11]) (by kernel_rfl) (by simp) ?_
    refine AllReadyH.cons rfl (fun K hK => ?_) AllReadyH.nil
    go_simp
    refine (ris_any _ _ _ hm.1).mono ?_
    rintro e w4 ⟨rfl, hb4⟩
    rw [i2]
    have B4 := Below.chain B2 hb4
    refine hK.out _ _ ?_ (fun _ => ?_)
    ·
     exact B4
    clear hK K
    refine take_at 12 (some 19) (.bool true) rfl rfl (by kernel_rfl) (by kernel_rfl) (by kernel_rfl) (fun _ _ _ h => h) (by rfl) (fun W hSw => by go_simp) B4 ?_
    simp only [Act.put, List.setIfInBounds_toArray, List.set_cons_zero, List.set_cons_succ]
    refine take_at 13 (some 20) (.bool true) rfl rfl (by kernel_rfl) (by kernel_rfl) (by kernel_rfl) (fun _ _ _ h => h) (by rfl) (fun W hSw => by go_simp) B4 ?_
    simp only [Act.put, List.setIfInBounds_toArray, List.set_cons_zero, List.set_cons_succ]
    refine take_at 14 (some 5) (.bool true) rfl rfl (by kernel_rfl) (by kernel_rfl) (by kernel_rfl) (fun _ _ _ h => h) (by rfl) (fun W hSw => by go_simp) B4 ?_
    simp only [Act.put, List.setIfInBounds_toArray, List.set_cons_zero, List.set_cons_succ]
    refine take_at 15 (some 6) (.bool true) rfl rfl (by kernel_rfl) (by kernel_rfl) (by kernel_rfl) (fun _ _ _ h => h) (by rfl) (fun W hSw => by go_simp) B4 ?_
    simp only [Act.put, List.setIfInBounds_toArray, List.set_cons_zero, List.set_cons_succ]
    refine wpAnyH_done (by kernel_rfl) ?_ _
    refine NoPanic.normal ?_
    go_wp2_with fail
    go_meet
    exact ⟨by rw [E1.out]; rfl, by rw [E2.out]; rfl, hx.later B4, hy.later B4, Below.chain hb B4⟩
   ·
    have E1 : Hid _ := e1
    have E2 : Hid _ := e2
    clear e1 e2
    have m0 := hx.at0
    have m1 := hx.at1
    have m2 := hy.at0
    have m3 := hy.at1
    refine wp_region_noPanic ?_
    refine wp_region_held_drew (S := fun W => Below w1.heap.size w1 W) (by kernel_rfl) ?_ (fun _ => ?_)
    ·
     exact (Below.refl _ _).drew
    have B2 : Below w1.heap.size w1 w1.drew := (Below.refl _ _).drew
    refine take_at 0 (some 7) (.pointer (some ⟨w.heap.size, 0, none⟩)) rfl rfl (by kernel_rfl) (by kernel_rfl) (by kernel_rfl) (fun _ _ _ h => h) (by rfl) (fun W hSw => by go_simp) B2 ?_
    simp only [Act.put, List.setIfInBounds_toArray, List.set_cons_zero, List.set_cons_succ]
    refine take_at 1 (some 8) (.bool true) rfl rfl (by kernel_rfl) (by kernel_rfl) (by kernel_rfl) (fun _ _ _ h => h) (by rfl) (fun W hSw => by go_simp) B2 ?_
    simp only [Act.put, List.setIfInBounds_toArray, List.set_cons_zero, List.set_cons_succ]
    refine take_at 7 (some 14) (.pointer (some ⟨w.heap.size + 1, 0, none⟩)) rfl rfl (by kernel_rfl) (by kernel_rfl) (by kernel_rfl) (fun _ _ _ h => h) (by rfl) (fun W hSw => by go_simp) B2 ?_
    simp only [Act.put, List.setIfInBounds_toArray, List.set_cons_zero, List.set_cons_succ]
    refine take_at 8 (some 15) (.bool false) rfl rfl (by kernel_rfl) (by kernel_rfl) (by kernel_rfl) (fun _ _ _ h => h) (by rfl) (fun W hSw => by go_simp) B2 ?_
    simp only [Act.put, List.setIfInBounds_toArray, List.set_cons_zero, List.set_cons_succ]
    refine take_at 2 (some 9) (.bool true) rfl rfl (by kernel_rfl) (by kernel_rfl) (by kernel_rfl) (fun _ _ _ h => h) (by rfl) (fun W hSw => by go_simp) B2 ?_
    simp only [Act.put, List.setIfInBounds_toArray, List.set_cons_zero, List.set_cons_succ]
    refine skip_at 3 (some 10) rfl rfl (by kernel_rfl) (by kernel_rfl) (by kernel_rfl) (fun _ _ _ h => h) (by rfl) B2 ?_
    simp only [Act.put, List.setIfInBounds_toArray, List.set_cons_zero, List.set_cons_succ]
    refine skip_at 4 (some 11) rfl rfl (by kernel_rfl) (by kernel_rfl) (by kernel_rfl) (fun _ _ _ h => h) (by rfl) B2 ?_
    simp only [Act.put, List.setIfInBounds_toArray, List.set_cons_zero, List.set_cons_succ]
    refine skip_at 5 (some 12) rfl rfl (by kernel_rfl) (by kernel_rfl) (by kernel_rfl) (fun _ _ _ h => h) (by rfl) B2 ?_
    simp only [Act.put, List.setIfInBounds_toArray, List.set_cons_zero, List.set_cons_succ]
    refine take_at 6 (some 13) (.bool true) rfl rfl (by kernel_rfl) (by kernel_rfl) (by kernel_rfl) (fun _ _ _ h => h) (by rfl) (fun W hSw => by go_simp) B2 ?_
    simp only [Act.put, List.setIfInBounds_toArray, List.set_cons_zero, List.set_cons_succ]
    refine take_at 9 (some 16) (.bool false) rfl rfl (by kernel_rfl) (by kernel_rfl) (by kernel_rfl) (fun _ _ _ h => h) (by rfl) (fun W hSw => by go_simp) B2 ?_
    simp only [Act.put, List.setIfInBounds_toArray, List.set_cons_zero, List.set_cons_succ]
    refine take_at 10 (some 17) (.agg #[.bool false, .int .i64 m]) rfl rfl (by kernel_rfl) (by kernel_rfl) (by kernel_rfl) (fun _ _ _ h => h) (by rfl) (fun W hSw => by go_simp) B2 ?_
    simp only [Act.put, List.setIfInBounds_toArray, List.set_cons_zero, List.set_cons_succ]
    refine wpAnyH_ready (rs := [11]) (by kernel_rfl) (by simp) ?_
    refine AllReadyH.cons rfl (fun K hK => ?_) AllReadyH.nil
    go_simp
    refine (ris_any _ _ _ hm.1).mono ?_
    rintro e w4 ⟨rfl, hb4⟩
    rw [i2]
    have B4 := Below.chain B2 hb4
    refine hK.out _ _ ?_ (fun _ => ?_)
    ·
     exact B4
    clear hK K
    refine take_at 12 (some 19) (.bool false) rfl rfl (by kernel_rfl) (by kernel_rfl) (by kernel_rfl) (fun _ _ _ h => h) (by rfl) (fun W hSw => by go_simp) B4 ?_
    simp only [Act.put, List.setIfInBounds_toArray, List.set_cons_zero, List.set_cons_succ]
    refine take_at 13 (some 20) (.bool false) rfl rfl (by kernel_rfl) (by kernel_rfl) (by kernel_rfl) (fun _ _ _ h => h) (by rfl) (fun W hSw => by go_simp) B4 ?_
    simp only [Act.put, List.setIfInBounds_toArray, List.set_cons_zero, List.set_cons_succ]
    refine take_at 14 (some 5) (.bool true) rfl rfl (by kernel_rfl) (by kernel_rfl) (by kernel_rfl) (fun _ _ _ h => h) (by rfl) (fun W hSw => by go_simp) B4 ?_
    simp only [Act.put, List.setIfInBounds_toArray, List.set_cons_zero, List.set_cons_succ]
    refine take_at 15 (some 6) (.bool false) rfl rfl (by kernel_rfl) (by kernel_rfl) (by kernel_rfl) (fun _ _ _ h => h) (by rfl) (fun W hSw => by go_simp) B4 ?_
    simp only [Act.put, List.setIfInBounds_toArray, List.set_cons_zero, List.set_cons_succ]
    refine wpAnyH_done (by kernel_rfl) ?_ _
    refine NoPanic.normal ?_
    go_wp2_with fail
    go_meet
    exact ⟨by rw [E1.out]; rfl, by rw [E2.out]; rfl, hx.later B4, hy.later B4, Below.chain hb B4⟩
  ·
   rcases cnt_cases (o := p) hm.1 with ⟨rfl, e2⟩ | ⟨rfl, i2, e2⟩ | ⟨rfl, i2, e2⟩
   ·
    have E1 : Hid _ := e1
    have E2 : Hid _ := e2
    clear e1 e2
    have m0 := hx.at0
    have m1 := hx.at1
    have m2 := hy.at0
    have m3 := hy.at1
    refine wp_region_noPanic ?_
    refine wp_region_held_drew (S := fun W => Below w1.heap.size w1 W) (by kernel_rfl) ?_ (fun _ => ?_)
    ·
     exact (Below.refl _ _).drew
    have B2 : Below w1.heap.size w1 w1.drew := (Below.refl _ _).drew
    refine take_at 0 (some 7) (.pointer (some ⟨w.heap.size, 0, none⟩)) rfl rfl (by kernel_rfl) (by kernel_rfl) (by kernel_rfl) (fun _ _ _ h => h) (by rfl) (fun W hSw => by go_simp) B2 ?_
    simp only [Act.put, List.setIfInBounds_toArray, List.set_cons_zero, List.set_cons_succ]
    refine take_at 1 (some 8) (.bool false) rfl rfl (by kernel_rfl) (by kernel_rfl) (by kernel_rfl) (fun _ _ _ h => h) (by rfl) (fun W hSw => by go_simp) B2 ?_
    simp only [Act.put, List.setIfInBounds_toArray, List.set_cons_zero, List.set_cons_succ]
    refine take_at 7 (some 14) (.pointer (some ⟨w.heap.size + 1, 0, none⟩)) rfl rfl (by kernel_rfl) (by kernel_rfl) (by kernel_rfl) (fun _ _ _ h => h) (by rfl) (fun W hSw => by go_simp) B2 ?_
    simp only [Act.put, List.setIfInBounds_toArray, List.set_cons_zero, List.set_cons_succ]
    refine take_at 8 (some 15) (.bool true) rfl rfl (by kernel_rfl) (by kernel_rfl) (by kernel_rfl) (fun _ _ _ h => h) (by rfl) (fun W hSw => by go_simp) B2 ?_
    simp only [Act.put, List.setIfInBounds_toArray, List.set_cons_zero, List.set_cons_succ]
    refine take_at 2 (some 9) (.bool false) rfl rfl (by kernel_rfl) (by kernel_rfl) (by kernel_rfl) (fun _ _ _ h => h) (by rfl) (fun W hSw => by go_simp) B2 ?_
    simp only [Act.put, List.setIfInBounds_toArray, List.set_cons_zero, List.set_cons_succ]
    refine take_at 3 (some 10) (.agg #[.bool false, .int .i64 n]) rfl rfl (by kernel_rfl) (by kernel_rfl) (by kernel_rfl) (fun _ _ _ h => h) (by rfl) (fun W hSw => by go_simp) B2 ?_
    simp only [Act.put, List.setIfInBounds_toArray, List.set_cons_zero, List.set_cons_succ]
    refine wpAnyH_ready (rs := [4]) (by kernel_rfl) (by simp) ?_
    refine AllReadyH.cons rfl (fun K hK => ?_) AllReadyH.nil
    go_simp
    refine (ris_any _ _ _ hn.1).mono ?_
    rintro e w3 ⟨rfl, hb3⟩
    rw [i1]
    have B3 := Below.chain B2 hb3
    refine hK.out _ _ ?_ (fun _ => ?_)
    ·
     exact B3
    clear hK K
    refine take_at 5 (some 12) (.bool true) rfl rfl (by kernel_rfl) (by kernel_rfl) (by kernel_rfl) (fun _ _ _ h => h) (by rfl) (fun W hSw => by go_simp) B3 ?_
    simp only [Act.put, List.setIfInBounds_toArray, List.set_cons_zero, List.set_cons_succ]
    refine take_at 6 (some 13) (.bool true) rfl rfl (by kernel_rfl) (by kernel_rfl) (by kernel_rfl) (fun _ _ _ h => h) (by rfl) (fun W hSw => by go_simp) B3 ?_
    simp only [Act.put, List.setIfInBounds_toArray, List.set_cons_zero, List.set_cons_succ]
    refine take_at 9 (some 16) (.bool true) rfl rfl (by kernel_rfl) (by kernel_rfl) (by kernel_rfl) (fun _ _ _ h => h) (by rfl) (fun W hSw => by go_simp) B3 ?_
    simp only [Act.put, List.setIfInBounds_toArray, List.set_cons_zero, List.set_cons_succ]
    refine skip_at 10 (some 17) rfl rfl (by kernel_rfl) (by kernel_rfl) (by kernel_rfl) (fun _ _ _ h => h) (by rfl) B3 ?_
    simp only [Act.put, List.setIfInBounds_toArray, List.set_cons_zero, List.set_cons_succ]
    refine skip_at 11 (some 18) rfl rfl (by kernel_rfl) (by kernel_rfl) (by kernel_rfl) (fun _ _ _ h => h) (by rfl) B3 ?_
    simp only [Act.put, List.setIfInBounds_toArray, List.set_cons_zero, List.set_cons_succ]
    refine skip_at 12 (some 19) rfl rfl (by kernel_rfl) (by kernel_rfl) (by kernel_rfl) (fun _ _ _ h => h) (by rfl) B3 ?_
    simp only [Act.put, List.setIfInBounds_toArray, List.set_cons_zero, List.set_cons_succ]
    refine take_at 13 (some 20) (.bool true) rfl rfl (by kernel_rfl) (by kernel_rfl) (by kernel_rfl) (fun _ _ _ h => h) (by rfl) (fun W hSw => by go_simp) B3 ?_
    simp only [Act.put, List.setIfInBounds_toArray, List.set_cons_zero, List.set_cons_succ]
    refine take_at 14 (some 5) (.bool true) rfl rfl (by kernel_rfl) (by kernel_rfl) (by kernel_rfl) (fun _ _ _ h => h) (by rfl) (fun W hSw => by go_simp) B3 ?_
    simp only [Act.put, List.setIfInBounds_toArray, List.set_cons_zero, List.set_cons_succ]
    refine take_at 15 (some 6) (.bool true) rfl rfl (by kernel_rfl) (by kernel_rfl) (by kernel_rfl) (fun _ _ _ h => h) (by rfl) (fun W hSw => by go_simp) B3 ?_
    simp only [Act.put, List.setIfInBounds_toArray, List.set_cons_zero, List.set_cons_succ]
    refine wpAnyH_done (by kernel_rfl) ?_ _
    refine NoPanic.normal ?_
    go_wp2_with fail
    go_meet
    exact ⟨by rw [E1.out]; rfl, by rw [E2.out]; rfl, hx.later B3, hy.later B3, Below.chain hb B3⟩
   ·
    have E1 : Hid _ := e1
    have E2 : Hid _ := e2
    clear e1 e2
    have m0 := hx.at0
    have m1 := hx.at1
    have m2 := hy.at0
    have m3 := hy.at1
    refine wp_region_noPanic ?_
    refine wp_region_held_drew (S := fun W => Below w1.heap.size w1 W) (by kernel_rfl) ?_ (fun _ => ?_)
    ·
     exact (Below.refl _ _).drew
    have B2 : Below w1.heap.size w1 w1.drew := (Below.refl _ _).drew
    refine take_at 0 (some 7) (.pointer (some ⟨w.heap.size, 0, none⟩)) rfl rfl (by kernel_rfl) (by kernel_rfl) (by kernel_rfl) (fun _ _ _ h => h) (by rfl) (fun W hSw => by go_simp) B2 ?_
    simp only [Act.put, List.setIfInBounds_toArray, List.set_cons_zero, List.set_cons_succ]
    refine take_at 1 (some 8) (.bool false) rfl rfl (by kernel_rfl) (by kernel_rfl) (by kernel_rfl) (fun _ _ _ h => h) (by rfl) (fun W hSw => by go_simp) B2 ?_
    simp only [Act.put, List.setIfInBounds_toArray, List.set_cons_zero, List.set_cons_succ]
    refine take_at 7 (some 14) (.pointer (some ⟨w.heap.size + 1, 0, none⟩)) rfl rfl (by kernel_rfl) (by kernel_rfl) (by kernel_rfl) (fun _ _ _ h => h) (by rfl) (fun W hSw => by go_simp) B2 ?_
    simp only [Act.put, List.setIfInBounds_toArray, List.set_cons_zero, List.set_cons_succ]
    refine take_at 8 (some 15) (.bool false) rfl rfl (by kernel_rfl) (by kernel_rfl) (by kernel_rfl) (fun _ _ _ h => h) (by rfl) (fun W hSw => by go_simp) B2 ?_
    simp only [Act.put, List.setIfInBounds_toArray, List.set_cons_zero, List.set_cons_succ]
    refine take_at 2 (some 9) (.bool false) rfl rfl (by kernel_rfl) (by kernel_rfl) (by kernel_rfl) (fun _ _ _ h => h) (by rfl) (fun W hSw => by go_simp) B2 ?_
    simp only [Act.put, List.setIfInBounds_toArray, List.set_cons_zero, List.set_cons_succ]
    refine take_at 3 (some 10) (.agg #[.bool false, .int .i64 n]) rfl rfl (by kernel_rfl) (by kernel_rfl) (by kernel_rfl) (fun _ _ _ h => h) (by rfl) (fun W hSw => by go_simp) B2 ?_
    simp only [Act.put, List.setIfInBounds_toArray, List.set_cons_zero, List.set_cons_succ]
    refine wpAnyH_ready (rs := [4]) (by kernel_rfl) (by simp) ?_
    refine AllReadyH.cons rfl (fun K hK => ?_) AllReadyH.nil
    go_simp
    refine (ris_any _ _ _ hn.1).mono ?_
    rintro e w3 ⟨rfl, hb3⟩
    rw [i1]
    have B3 := Below.chain B2 hb3
    refine hK.out _ _ ?_ (fun _ => ?_)
    ·
     exact B3
    clear hK K
    refine take_at 5 (some 12) (.bool true) rfl rfl (by kernel_rfl) (by kernel_rfl) (by kernel_rfl) (fun _ _ _ h => h) (by rfl) (fun W hSw => by go_simp) B3 ?_
    simp only [Act.put, List.setIfInBounds_toArray, List.set_cons_zero, List.set_cons_succ]
    refine take_at 6 (some 13) (.bool true) rfl rfl (by kernel_rfl) (by kernel_rfl) (by kernel_rfl) (fun _ _ _ h => h) (by rfl) (fun W hSw => by go_simp) B3 ?_
    simp only [Act.put, List.setIfInBounds_toArray, List.set_cons_zero, List.set_cons_succ]
    refine take_at 9 (some 16) (.bool false) rfl rfl (by kernel_rfl) (by kernel_rfl) (by kernel_rfl) (fun _ _ _ h => h) (by rfl) (fun W hSw => by go_simp) B3 ?_
    simp only [Act.put, List.setIfInBounds_toArray, List.set_cons_zero, List.set_cons_succ]
    refine take_at 10 (some 17) (.agg #[.bool false, .int .i64 m]) rfl rfl (by kernel_rfl) (by kernel_rfl) (by kernel_rfl) (fun _ _ _ h => h) (by rfl) (fun W hSw => by go_simp) B3 ?_
    simp only [Act.put, List.setIfInBounds_toArray, List.set_cons_zero, List.set_cons_succ]
    refine wpAnyH_ready (rs := [11]) (by kernel_rfl) (by simp) ?_
    refine AllReadyH.cons rfl (fun K hK => ?_) AllReadyH.nil
    go_simp
    refine (ris_any _ _ _ hm.1).mono ?_
    rintro e w4 ⟨rfl, hb4⟩
    rw [i2]
    have B4 := Below.chain B3 hb4
    refine hK.out _ _ ?_ (fun _ => ?_)
    ·
     exact B4
    clear hK K
    refine take_at 12 (some 19) (.bool true) rfl rfl (by kernel_rfl) (by kernel_rfl) (by kernel_rfl) (fun _ _ _ h => h) (by rfl) (fun W hSw => by go_simp) B4 ?_
    simp only [Act.put, List.setIfInBounds_toArray, List.set_cons_zero, List.set_cons_succ]
    refine take_at 13 (some 20) (.bool true) rfl rfl (by kernel_rfl) (by kernel_rfl) (by kernel_rfl) (fun _ _ _ h => h) (by rfl) (fun W hSw => by go_simp) B4 ?_
    simp only [Act.put, List.setIfInBounds_toArray, List.set_cons_zero, List.set_cons_succ]
    refine take_at 14 (some 5) (.bool true) rfl rfl (by kernel_rfl) (by kernel_rfl) (by kernel_rfl) (fun _ _ _ h => h) (by rfl) (fun W hSw => by go_simp) B4 ?_
    simp only [Act.put, List.setIfInBounds_toArray, List.set_cons_zero, List.set_cons_succ]
    refine take_at 15 (some 6) (.bool true) rfl rfl (by kernel_rfl) (by kernel_rfl) (by kernel_rfl) (fun _ _ _ h => h) (by rfl) (fun W hSw => by go_simp) B4 ?_
    simp only [Act.put, List.setIfInBounds_toArray, List.set_cons_zero, List.set_cons_succ]
    refine wpAnyH_done (by kernel_rfl) ?_ _
    refine NoPanic.normal ?_
    go_wp2_with fail
    go_meet
    exact ⟨by rw [E1.out]; rfl, by rw [E2.out]; rfl, hx.later B4, hy.later B4, Below.chain hb B4⟩
   ·
    have E1 : Hid _ := e1
    have E2 : Hid _ := e2
    clear e1 e2
    have m0 := hx.at0
    have m1 := hx.at1
    have m2 := hy.at0
    have m3 := hy.at1
    refine wp_region_noPanic ?_
    refine wp_region_held_drew (S := fun W => Below w1.heap.size w1 W) (by kernel_rfl) ?_ (fun _ => ?_)
    ·
     exact (Below.refl _ _).drew
    have B2 : Below w1.heap.size w1 w1.drew := (Below.refl _ _).drew
    refine take_at 0 (some 7) (.pointer (some ⟨w.heap.size, 0, none⟩)) rfl rfl (by kernel_rfl) (by kernel_rfl) (by kernel_rfl) (fun _ _ _ h => h) (by rfl) (fun W hSw => by go_simp) B2 ?_
    simp only [Act.put, List.setIfInBounds_toArray, List.set_cons_zero, List.set_cons_succ]
    refine take_at 1 (some 8) (.bool false) rfl rfl (by kernel_rfl) (by kernel_rfl) (by kernel_rfl) (fun _ _ _ h => h) (by rfl) (fun W hSw => by go_simp) B2 ?_
    simp only [Act.put, List.setIfInBounds_toArray, List.set_cons_zero, List.set_cons_succ]
    refine take_at 7 (some 14) (.pointer (some ⟨w.heap.size + 1, 0, none⟩)) rfl rfl (by kernel_rfl) (by kernel_rfl) (by kernel_rfl) (fun _ _ _ h => h) (by rfl) (fun W hSw => by go_simp) B2 ?_
    simp only [Act.put, List.setIfInBounds_toArray, List.set_cons_zero, List.set_cons_succ]
    refine take_at 8 (some 15) (.bool false) rfl rfl (by kernel_rfl) (by kernel_rfl) (by kernel_rfl) (fun _ _ _ h => h) (by rfl) (fun W hSw => by go_simp) B2 ?_
    simp only [Act.put, List.setIfInBounds_toArray, List.set_cons_zero, List.set_cons_succ]
    refine take_at 2 (some 9) (.bool false) rfl rfl (by kernel_rfl) (by kernel_rfl) (by kernel_rfl) (fun _ _ _ h => h) (by rfl) (fun W hSw => by go_simp) B2 ?_
    simp only [Act.put, List.setIfInBounds_toArray, List.set_cons_zero, List.set_cons_succ]
    refine take_at 3 (some 10) (.agg #[.bool false, .int .i64 n]) rfl rfl (by kernel_rfl) (by kernel_rfl) (by kernel_rfl) (fun _ _ _ h => h) (by rfl) (fun W hSw => by go_simp) B2 ?_
    simp only [Act.put, List.setIfInBounds_toArray, List.set_cons_zero, List.set_cons_succ]
    refine wpAnyH_ready (rs := [4]) (by kernel_rfl) (by simp) ?_
    refine AllReadyH.cons rfl (fun K hK => ?_) AllReadyH.nil
    go_simp
    refine (ris_any _ _ _ hn.1).mono ?_
    rintro e w3 ⟨rfl, hb3⟩
    rw [i1]
    have B3 := Below.chain B2 hb3
    refine hK.out _ _ ?_ (fun _ => ?_)
    ·
     exact B3
    clear hK K
    refine take_at 5 (some 12) (.bool true) rfl rfl (by kernel_rfl) (by kernel_rfl) (by kernel_rfl) (fun _ _ _ h => h) (by rfl) (fun W hSw => by go_simp) B3 ?_
    simp only [Act.put, List.setIfInBounds_toArray, List.set_cons_zero, List.set_cons_succ]
    refine take_at 6 (some 13) (.bool true) rfl rfl (by kernel_rfl) (by kernel_rfl) (by kernel_rfl) (fun _ _ _ h => h) (by rfl) (fun W hSw => by go_simp) B3 ?_
    simp only [Act.put, List.setIfInBounds_toArray, List.set_cons_zero, List.set_cons_succ]
    refine take_at 9 (some 16) (.bool false) rfl rfl (by kernel_rfl) (by kernel_rfl) (by kernel_rfl) (fun _ _ _ h => h) (by rfl) (fun W hSw => by go_simp) B3 ?_
    simp only [Act.put, List.setIfInBounds_toArray, List.set_cons_zero, List.set_cons_succ]
    refine take_at 10 (some 17) (.agg #[.bool false, .int .i64 m]) rfl rfl (by kernel_rfl) (by kernel_rfl) (by kernel_rfl) (fun _ _ _ h => h) (by rfl) (fun W hSw => by go_simp) B3 ?_
    simp only [Act.put, List.setIfInBounds_toArray, List.set_cons_zero, List.set_cons_succ]
    refine wpAnyH_ready (rs := [11]) (by kernel_rfl) (by simp) ?_
    refine AllReadyH.cons rfl (fun K hK => ?_) AllReadyH.nil
    go_simp
    refine (ris_any _ _ _ hm.1).mono ?_
    rintro e w4 ⟨rfl, hb4⟩
    rw [i2]
    have B4 := Below.chain B3 hb4
    refine hK.out _ _ ?_ (fun _ => ?_)
    ·
     exact B4
    clear hK K
    refine take_at 12 (some 19) (.bool false) rfl rfl (by kernel_rfl) (by kernel_rfl) (by kernel_rfl) (fun _ _ _ h => h) (by rfl) (fun W hSw => by go_simp) B4 ?_
    simp only [Act.put, List.setIfInBounds_toArray, List.set_cons_zero, List.set_cons_succ]
    refine take_at 13 (some 20) (.bool false) rfl rfl (by kernel_rfl) (by kernel_rfl) (by kernel_rfl) (fun _ _ _ h => h) (by rfl) (fun W hSw => by go_simp) B4 ?_
    simp only [Act.put, List.setIfInBounds_toArray, List.set_cons_zero, List.set_cons_succ]
    refine take_at 14 (some 5) (.bool true) rfl rfl (by kernel_rfl) (by kernel_rfl) (by kernel_rfl) (fun _ _ _ h => h) (by rfl) (fun W hSw => by go_simp) B4 ?_
    simp only [Act.put, List.setIfInBounds_toArray, List.set_cons_zero, List.set_cons_succ]
    refine take_at 15 (some 6) (.bool false) rfl rfl (by kernel_rfl) (by kernel_rfl) (by kernel_rfl) (fun _ _ _ h => h) (by rfl) (fun W hSw => by go_simp) B4 ?_
    simp only [Act.put, List.setIfInBounds_toArray, List.set_cons_zero, List.set_cons_succ]
    refine wpAnyH_done (by kernel_rfl) ?_ _
    refine NoPanic.normal ?_
    go_wp2_with fail
    go_meet
    exact ⟨by rw [E1.out]; rfl, by rw [E2.out]; rfl, hx.later B4, hy.later B4, Below.chain hb B4⟩
  ·
   rcases cnt_cases (o := p) hm.1 with ⟨rfl, e2⟩ | ⟨rfl, i2, e2⟩ | ⟨rfl, i2, e2⟩
   ·
    have E1 : Hid _ := e1
    have E2 : Hid _ := e2
    clear e1 e2
    have m0 := hx.at0
    have m1 := hx.at1
    have m2 := hy.at0
    have m3 := hy.at1
    refine wp_region_noPanic ?_
    refine wp_region_held_drew (S := fun W => Below w1.heap.size w1 W) (by kernel_rfl) ?_ (fun _ => ?_)
    ·
     exact (Below.refl _ _).drew
    have B2 : Below w1.heap.size w1 w1.drew := (Below.refl _ _).drew
    refine take_at 0 (some 7) (.pointer (some ⟨w.heap.size, 0, none⟩)) rfl rfl (by kernel_rfl) (by kernel_rfl) (by kernel_rfl) (fun _ _ _ h => h) (by rfl) (fun W hSw => by go_simp) B2 ?_
    simp only [Act.put, List.setIfInBounds_toArray, List.set_cons_zero, List.set_cons_succ]
    refine take_at 1 (some 8) (.bool false) rfl rfl (by kernel_rfl) (by kernel_rfl) (by kernel_rfl) (fun _ _ _ h => h) (by rfl) (fun W hSw => by go_simp) B2 ?_
    simp only [Act.put, List.setIfInBounds_toArray, List.set_cons_zero, List.set_cons_succ]
    refine take_at 7 (some 14) (.pointer (some ⟨w.heap.size + 1, 0, none⟩)) rfl rfl (by kernel_rfl) (by kernel_rfl) (by kernel_rfl) (fun _ _ _ h => h) (by rfl) (fun W hSw => by go_simp) B2 ?_
    simp only [Act.put, List.setIfInBounds_toArray, List.set_cons_zero, List.set_cons_succ]
    refine take_at 8 (some 15) (.bool true) rfl rfl (by kernel_rfl) (by kernel_rfl) (by kernel_rfl) (fun _ _ _ h => h) (by rfl) (fun W hSw => by go_simp) B2 ?_
    simp only [Act.put, List.setIfInBounds_toArray, List.set_cons_zero, List.set_cons_succ]
    refine take_at 2 (some 9) (.bool false) rfl rfl (by kernel_rfl) (by kernel_rfl) (by kernel_rfl) (fun _ _ _ h => h) (by rfl) (fun W hSw => by go_simp) B2 ?_
    simp only [Act.put, List.setIfInBounds_toArray, List.set_cons_zero, List.set_cons_succ]
    refine take_at 3 (some 10) (.agg #[.bool false, .int .i64 n]) rfl rfl (by kernel_rfl) (by kernel_rfl) (by kernel_rfl) (fun _ _ _ h => h) (by rfl) (fun W hSw => by go_simp) B2 ?_
    simp only [Act.put, List.setIfInBounds_toArray, List.set_cons_zero, List.set_cons_succ]
    refine wpAnyH_ready (rs := [4]) (by kernel_rfl) (by simp) ?_
    refine AllReadyH.cons rfl (fun K hK => ?_) AllReadyH.nil
    go_simp
    refine (ris_any _ _ _ hn.1).mono ?_
    rintro e w3 ⟨rfl, hb3⟩
    rw [i1]
    have B3 := Below.chain B2 hb3
    refine hK.out _ _ ?_ (fun _ => ?_)
    ·
     exact B3
    clear hK K
    refine take_at 5 (some 12) (.bool false) rfl rfl (by kernel_rfl) (by kernel_rfl) (by kernel_rfl) (fun _ _ _ h => h) (by rfl) (fun W hSw => by go_simp) B3 ?_
    simp only [Act.put, List.setIfInBounds_toArray, List.set_cons_zero, List.set_cons_succ]
    refine take_at 6 (some 13) (.bool false) rfl rfl (by kernel_rfl) (by kernel_rfl) (by kernel_rfl) (fun _ _ _ h => h) (by rfl) (fun W hSw => by go_simp) B3 ?_
    simp only [Act.put, List.setIfInBounds_toArray, List.set_cons_zero, List.set_cons_succ]
    refine take_at 9 (some 16) (.bool true) rfl rfl (by kernel_rfl) (by kernel_rfl) (by kernel_rfl) (fun _ _ _ h => h) (by rfl) (fun W hSw => by go_simp) B3 ?_
    simp only [Act.put, List.setIfInBounds_toArray, List.set_cons_zero, List.set_cons_succ]
    refine skip_at 10 (some 17) rfl rfl (by kernel_rfl) (by kernel_rfl) (by kernel_rfl) (fun _ _ _ h => h) (by rfl) B3 ?_
    simp only [Act.put, List.setIfInBounds_toArray, List.set_cons_zero, List.set_cons_succ]
    refine skip_at 11 (some 18) rfl rfl (by kernel_rfl) (by kernel_rfl) (by kernel_rfl) (fun _ _ _ h => h) (by rfl) B3 ?_
    simp only [Act.put, List.setIfInBounds_toArray, List.set_cons_zero, List.set_cons_succ]
    refine skip_at 12 (some 19) rfl rfl (by kernel_rfl) (by kernel_rfl) (by kernel_rfl) (fun _ _ _ h => h) (by rfl) B3 ?_
    simp only [Act.put, List.setIfInBounds_toArray, List.set_cons_zero, List.set_cons_succ]
    refine take_at 13 (some 20) (.bool true) rfl rfl (by kernel_rfl) (by kernel_rfl) (by kernel_rfl) (fun _ _ _ h => h) (by rfl) (fun W hSw => by go_simp) B3 ?_
    simp only [Act.put, List.setIfInBounds_toArray, List.set_cons_zero, List.set_cons_succ]
    refine take_at 14 (some 5) (.bool false) rfl rfl (by kernel_rfl) (by kernel_rfl) (by kernel_rfl) (fun _ _ _ h => h) (by rfl) (fun W hSw => by go_simp) B3 ?_
    simp only [Act.put, List.setIfInBounds_toArray, List.set_cons_zero, List.set_cons_succ]
    refine take_at 15 (some 6) (.bool true) rfl rfl (by kernel_rfl) (by kernel_rfl) (by kernel_rfl) (fun _ _ _ h => h) (by rfl) (fun W hSw => by go_simp) B3 ?_
    simp only [Act.put, List.setIfInBounds_toArray, List.set_cons_zero, List.set_cons_succ]
    refine wpAnyH_done (by kernel_rfl) ?_ _
    refine NoPanic.normal ?_
    go_wp2_with fail
    go_meet
    exact ⟨by rw [E1.out]; rfl, by rw [E2.out]; rfl, hx.later B3, hy.later B3, Below.chain hb B3⟩
   ·
    have E1 : Hid _ := e1
    have E2 : Hid _ := e2
    clear e1 e2
    have m0 := hx.at0
    have m1 := hx.at1
    have m2 := hy.at0
    have m3 := hy.at1
    refine wp_region_noPanic ?_
    refine wp_region_held_drew (S := fun W => Below w1.heap.size w1 W) (by kernel_rfl) ?_ (fun _ => ?_)
    ·
     exact (Below.refl _ _).drew
    have B2 : Below w1.heap.size w1 w1.drew := (Below.refl _ _).drew
    refine take_at 0 (some 7) (.pointer (some ⟨w.heap.size, 0, none⟩)) rfl rfl (by kernel_rfl) (by kernel_rfl) (by kernel_rfl) (fun _ _ _ h => h) (by rfl) (fun W hSw => by go_simp) B2 ?_
    simp only [Act.put, List.setIfInBounds_toArray, List.set_cons_zero, List.set_cons_succ]
    refine take_at 1 (some 8) (.bool false) rfl rfl (by kernel_rfl) (by kernel_rfl) (by kernel_rfl) (fun _ _ _ h => h) (by rfl) (fun W hSw => by go_simp) B2 ?_
    simp only [Act.put, List.setIfInBounds_toArray, List.set_cons_zero, List.set_cons_succ]
    refine take_at 7 (some 14) (.pointer (some ⟨w.heap.size + 1, 0, none⟩)) rfl rfl (by kernel_rfl) (by kernel_rfl) (by kernel_rfl) (fun _ _ _ h => h) (by rfl) (fun W hSw => by go_simp) B2 ?_
    simp only [Act.put, List.setIfInBounds_toArray, List.set_cons_zero, List.set_cons_succ]
    refine take_at 8 (some 15) (.bool false) rfl rfl (by kernel_rfl) (by kernel_rfl) (by kernel_rfl) (fun _ _ _ h => h) (by rfl) (fun W hSw => by go_simp) B2 ?_
    simp only [Act.put, List.setIfInBounds_toArray, List.set_cons_zero, List.set_cons_succ]
    refine take_at 2 (some 9) (.bool false) rfl rfl (by kernel_rfl) (by kernel_rfl) (by kernel_rfl) (fun _ _ _ h => h) (by rfl) (fun W hSw => by go_simp) B2 ?_
    simp only [Act.put, List.setIfInBounds_toArray, List.set_cons_zero, List.set_cons_succ]
    refine take_at 3 (some 10) (.agg #[.bool false, .int .i64 n]) rfl rfl (by kernel_rfl) (by kernel_rfl) (by kernel_rfl) (fun _ _ _ h => h) (by rfl) (fun W hSw => by go_simp) B2 ?_
    simp only [Act.put, List.setIfInBounds_toArray, List.set_cons_zero, List.set_cons_succ]
    refine wpAnyH_ready (rs := [4]) (by kernel_rfl) (by simp) ?_
    refine AllReadyH.cons rfl (fun K hK => ?_) AllReadyH.nil
    go_simp
    refine (ris_any _ _ _ hn.1).mono ?_
    rintro e w3 ⟨rfl, hb3⟩
    rw [i1]
    have B3 := Below.chain B2 hb3
    refine hK.out _ _ ?_ (fun _ => ?_)
    ·
     exact B3
    clear hK K
    refine take_at 5 (some 12) (.bool false) rfl rfl (by kernel_rfl) (by kernel_rfl) (by kernel_rfl) (fun _ _ _ h => h) (by rfl) (fun W hSw => by go_simp) B3 ?_
    simp only [Act.put, List.setIfInBounds_toArray, List.set_cons_zero, List.set_cons_succ]
    refine take_at 6 (some 13) (.bool false) rfl rfl (by kernel_rfl) (by kernel_rfl) (by kernel_rfl) (fun _ _ _ h => h) (by rfl) (fun W hSw => by go_simp) B3 ?_
    simp only [Act.put, List.setIfInBounds_toArray, List.set_cons_zero, List.set_cons_succ]
    refine take_at 9 (some 16) (.bool false) rfl rfl (by kernel_rfl) (by kernel_rfl) (by kernel_rfl) (fun _ _ _ h => h) (by rfl) (fun W hSw => by go_simp) B3 ?_
    simp only [Act.put, List.setIfInBounds_toArray, List.set_cons_zero, List.set_cons_succ]
    refine take_at 10 (some 17) (.agg #[.bool false, .int .i64 m]) rfl rfl (by kernel_rfl) (by kernel_rfl) (by kernel_rfl) (fun _ _ _ h => h) (by rfl) (fun W hSw => by go_simp) B3 ?_
    simp only [Act.put, List.setIfInBounds_toArray, List.set_cons_zero, List.set_cons_succ]
    refine wpAnyH_ready (rs := [11]) (by kernel_rfl) (by simp) ?_
    refine AllReadyH.cons rfl (fun K hK => ?_) AllReadyH.nil
    go_simp
    refine (ris_any _ _ _ hm.1).mono ?_
    rintro e w4 ⟨rfl, hb4⟩
    rw [i2]
    have B4 := Below.chain B3 hb4
    refine hK.out _ _ ?_ (fun _ => ?_)
    ·
     exact B4
    clear hK K
    refine take_at 12 (some 19) (.bool true) rfl rfl (by kernel_rfl) (by kernel_rfl) (by kernel_rfl) (fun _ _ _ h => h) (by rfl) (fun W hSw => by go_simp) B4 ?_
    simp only [Act.put, List.setIfInBounds_toArray, List.set_cons_zero, List.set_cons_succ]
    refine take_at 13 (some 20) (.bool true) rfl rfl (by kernel_rfl) (by kernel_rfl) (by kernel_rfl) (fun _ _ _ h => h) (by rfl) (fun W hSw => by go_simp) B4 ?_
    simp only [Act.put, List.setIfInBounds_toArray, List.set_cons_zero, List.set_cons_succ]
    refine take_at 14 (some 5) (.bool false) rfl rfl (by kernel_rfl) (by kernel_rfl) (by kernel_rfl) (fun _ _ _ h => h) (by rfl) (fun W hSw => by go_simp) B4 ?_
    simp only [Act.put, List.setIfInBounds_toArray, List.set_cons_zero, List.set_cons_succ]
    refine take_at 15 (some 6) (.bool true) rfl rfl (by kernel_rfl) (by kernel_rfl) (by kernel_rfl) (fun _ _ _ h => h) (by rfl) (fun W hSw => by go_simp) B4 ?_
    simp only [Act.put, List.setIfInBounds_toArray, List.set_cons_zero, List.set_cons_succ]
    refine wpAnyH_done (by kernel_rfl) ?_ _
    refine NoPanic.normal ?_
    go_wp2_with fail
    go_meet
    exact ⟨by rw [E1.out]; rfl, by rw [E2.out]; rfl, hx.later B4, hy.later B4, Below.chain hb B4⟩
   ·
    have E1 : Hid _ := e1
    have E2 : Hid _ := e2
    clear e1 e2
    have m0 := hx.at0
    have m1 := hx.at1
    have m2 := hy.at0
    have m3 := hy.at1
    refine wp_region_noPanic ?_
    refine wp_region_held_drew (S := fun W => Below w1.heap.size w1 W) (by kernel_rfl) ?_ (fun _ => ?_)
    ·
     exact (Below.refl _ _).drew
    have B2 : Below w1.heap.size w1 w1.drew := (Below.refl _ _).drew
    refine take_at 0 (some 7) (.pointer (some ⟨w.heap.size, 0, none⟩)) rfl rfl (by kernel_rfl) (by kernel_rfl) (by kernel_rfl) (fun _ _ _ h => h) (by rfl) (fun W hSw => by go_simp) B2 ?_
    simp only [Act.put, List.setIfInBounds_toArray, List.set_cons_zero, List.set_cons_succ]
    refine take_at 1 (some 8) (.bool false) rfl rfl (by kernel_rfl) (by kernel_rfl) (by kernel_rfl) (fun _ _ _ h => h) (by rfl) (fun W hSw => by go_simp) B2 ?_
    simp only [Act.put, List.setIfInBounds_toArray, List.set_cons_zero, List.set_cons_succ]
    refine take_at 7 (some 14) (.pointer (some ⟨w.heap.size + 1, 0, none⟩)) rfl rfl (by kernel_rfl) (by kernel_rfl) (by kernel_rfl) (fun _ _ _ h => h) (by rfl) (fun W hSw => by go_simp) B2 ?_
    simp only [Act.put, List.setIfInBounds_toArray, List.set_cons_zero, List.set_cons_succ]
    refine take_at 8 (some 15) (.bool false) rfl rfl (by kernel_rfl) (by kernel_rfl) (by kernel_rfl) (fun _ _ _ h => h) (by rfl) (fun W hSw => by go_simp) B2 ?_
    simp only [Act.put, List.setIfInBounds_toArray, List.set_cons_zero, List.set_cons_succ]
    refine take_at 2 (some 9) (.bool false) rfl rfl (by kernel_rfl) (by kernel_rfl) (by kernel_rfl) (fun _ _ _ h => h) (by rfl) (fun W hSw => by go_simp) B2 ?_
    simp only [Act.put, List.setIfInBounds_toArray, List.set_cons_zero, List.set_cons_succ]
    refine take_at 3 (some 10) (.agg #[.bool false, .int .i64 n]) rfl rfl (by kernel_rfl) (by kernel_rfl) (by kernel_rfl) (fun _ _ _ h => h) (by rfl) (fun W hSw => by go_simp) B2 ?_
    simp only [Act.put, List.setIfInBounds_toArray, List.set_cons_zero, List.set_cons_succ]
    refine wpAnyH_ready (rs := [4]) (by kernel_rfl) (by simp) ?_
    refine AllReadyH.cons rfl (fun K hK => ?_) AllReadyH.nil
    go_simp
    refine (ris_any _ _ _ hn.1).mono ?_
    rintro e w3 ⟨rfl, hb3⟩
    rw [i1]
    have B3 := Below.chain B2 hb3
    refine hK.out _ _ ?_ (fun _ => ?_)
    ·
     exact B3
    clear hK K
    refine take_at 5 (some 12) (.bool false) rfl rfl (by kernel_rfl) (by kernel_rfl) (by kernel_rfl) (fun _ _ _ h => h) (by rfl) (fun W hSw => by go_simp) B3 ?_
    simp only [Act.put, List.setIfInBounds_toArray, List.set_cons_zero, List.set_cons_succ]
    refine take_at 6 (some 13) (.bool false) rfl rfl (by kernel_rfl) (by kernel_rfl) (by kernel_rfl) (fun _ _ _ h => h) (by rfl) (fun W hSw => by go_simp) B3 ?_
    simp only [Act.put, List.setIfInBounds_toArray, List.set_cons_zero, List.set_cons_succ]
    refine take_at 9 (some 16) (.bool false) rfl rfl (by kernel_rfl) (by kernel_rfl) (by kernel_rfl) (fun _ _ _ h => h) (by rfl) (fun W hSw => by go_simp) B3 ?_
    simp only [Act.put, List.setIfInBounds_toArray, List.set_cons_zero, List.set_cons_succ]
    refine take_at 10 (some 17) (.agg #[.bool false, .int .i64 m]) rfl rfl (by kernel_rfl) (by kernel_rfl) (by kernel_rfl) (fun _ _ _ h => h) (by rfl) (fun W hSw => by go_simp) B3 ?_
    simp only [Act.put, List.setIfInBounds_toArray, List.set_cons_zero, List.set_cons_succ]
    refine wpAnyH_ready (rs := [11]) (by kernel_rfl) (by simp) ?_
    refine AllReadyH.cons rfl (fun K hK => ?_) AllReadyH.nil
    go_simp
    refine (ris_any _ _ _ hm.1).mono ?_
    rintro e w4 ⟨rfl, hb4⟩
    rw [i2]
    have B4 := Below.chain B3 hb4
    refine hK.out _ _ ?_ (fun _ => ?_)
    ·
     exact B4
    clear hK K
    refine take_at 12 (some 19) (.bool false) rfl rfl (by kernel_rfl) (by kernel_rfl) (by kernel_rfl) (fun _ _ _ h => h) (by rfl) (fun W hSw => by go_simp) B4 ?_
    simp only [Act.put, List.setIfInBounds_toArray, List.set_cons_zero, List.set_cons_succ]
    refine take_at 13 (some 20) (.bool false) rfl rfl (by kernel_rfl) (by kernel_rfl) (by kernel_rfl) (fun _ _ _ h => h) (by rfl) (fun W hSw => by go_simp) B4 ?_
    simp only [Act.put, List.setIfInBounds_toArray, List.set_cons_zero, List.set_cons_succ]
    refine take_at 14 (some 5) (.bool false) rfl rfl (by kernel_rfl) (by kernel_rfl) (by kernel_rfl) (fun _ _ _ h => h) (by rfl) (fun W hSw => by go_simp) B4 ?_
    simp only [Act.put, List.setIfInBounds_toArray, List.set_cons_zero, List.set_cons_succ]
    refine take_at 15 (some 6) (.bool false) rfl rfl (by kernel_rfl) (by kernel_rfl) (by kernel_rfl) (fun _ _ _ h => h) (by rfl) (fun W hSw => by go_simp) B4 ?_
    simp only [Act.put, List.setIfInBounds_toArray, List.set_cons_zero, List.set_cons_succ]
    refine wpAnyH_done (by kernel_rfl) ?_ _
    refine NoPanic.normal ?_
    go_wp2_with fail
    go_meet
    exact ⟨by rw [E1.out]; rfl, by rw [E2.out]; rfl, hx.later B4, hy.later B4, Below.chain hb B4⟩
 case rest =>
  obtain ⟨rfl, rfl, hx2, hy2, hb2⟩ := hcut
  obtain ⟨c0, c1, _, _⟩ := hx2
  obtain ⟨d0, d1, _, _⟩ := hy2
  rcases cnt_two o n with e1 | e1 <;> rcases cnt_two p m with e2 | e2
  all_goals
   rw [e1, e2]
   have E1 : Hid _ := e1
   have E2 : Hid _ := e2
   clear e1 e2
   simp only [ov]
  iterate 3
   ·
    go_wp2
    go_ret
    exact ⟨by rw [E1.out, E2.out]; rfl, hb2⟩
  by_cases h1 : n < m
  ·
   go_wp2
   go_ret
   exact ⟨ret_int (by rw [E1.out, E2.out]; show (-1 : Int) = if n = m then 0 else if m < n then 1 else -1; rw [if_neg (by omega), if_neg (by omega)]), hb2⟩
  ·
   by_cases h2 : m < n
   ·
    go_wp2
    go_ret
    exact ⟨ret_int (by rw [E1.out, E2.out]; show (1 : Int) = if n = m then 0 else if m < n then 1 else -1; rw [if_neg (by omega), if_pos (by omega)]), hb2⟩
   ·
    go_wp2
    go_ret
    exact ⟨ret_int (by rw [E1.out, E2.out]; show (0 : Int) = if n = m then 0 else if m < n then 1 else -1; rw [if_pos (by omega)]), hb2⟩
end Go.Proofs.YtjgckfcocmhnhaaGreatDoor
namespace Go.Proofs.YtjgckfcocmhnhaaGreatDoor
open Go.RowKit
theorem and_low (m : Int) : bits BinOp.and IntKind.i64 m 4294967295 = m % 4294967296 := by
 have e : (4294967295 : Nat) = 2 ^ 32 - 1 := by decide
 have h : (BitVec.ofInt IntKind.i64.bits m &&& BitVec.ofInt IntKind.i64.bits 4294967295).toNat = (m % 18446744073709551616).toNat % 4294967296 := by
  rw [BitVec.toNat_and, BitVec.toNat_ofInt, BitVec.toNat_ofInt]
  show (m % 18446744073709551616).toNat &&& 4294967295 = _
  rw [e, Nat.and_two_pow_sub_one_eq_mod]
 show IntKind.i64.wrap _ = _
 rw [h, IntKind.wrap_i64]
 omega
theorem or_low (h lo : Int) (h0 : -2147483648 ≤ h) (h1 : h < 2147483648) (l0 : 0 ≤ lo) (l1 : lo < 4294967296) : bits BinOp.or IntKind.i64 (h * 4294967296) lo = h * 4294967296 + lo := by
 have e : (BitVec.ofInt IntKind.i64.bits (h * 4294967296) ||| BitVec.ofInt IntKind.i64.bits lo).toNat = 4294967296 * (h % 4294967296).toNat + lo.toNat := by
  rw [BitVec.toNat_or, BitVec.toNat_ofInt, BitVec.toNat_ofInt]
  show (h * 4294967296 % 18446744073709551616).toNat ||| (lo % 18446744073709551616).toNat = _
  have e1 : (h * 4294967296 % 18446744073709551616).toNat = 2 ^ 32 * (h % 4294967296).toNat := by
   show _ = 4294967296 * _
   omega
  have e2 : (lo % 18446744073709551616).toNat = lo.toNat := by omega
  have hl : lo.toNat < 2 ^ 32 := by
   show _ < 4294967296
   omega
  rw [e1, e2, ← Nat.two_pow_add_eq_or_of_lt hl]
 show IntKind.i64.wrap _ = _
 rw [e, IntKind.wrap_i64]
 omega
theorem or_least (lo : Int) (l0 : 0 ≤ lo) (l1 : lo < 4294967296) : bits BinOp.or IntKind.i64 (-9223372036854775808) lo = -9223372036854775808 + lo := by
 have h := or_low (-2147483648) lo (by omega) (by omega) l0 l1
 have e : (-2147483648 : Int) * 4294967296 = -9223372036854775808 := by omega
 rw [e] at h
 exact h
set_option maxHeartbeats 1000000 in
theorem rsum_any (ao : Option Addr) (n cap : Nat) (l : List (Bool × Int)) (w : World) (hn : n ≤ 100) (hs : Ns w ao n l) (hl : ∀ x ∈ l, -9223372036854775808 ≤ x.2 ∧ x.2 ≤ 9223372036854775807) :
  Calls Tryz.prog 81 #[.slice ao n cap] w fun e w' => e = .returned (.agg #[.bool (ov (fSum (cnts l))), .int .i64 (nn (fSum (cnts l)))]) ∧ Below w.heap.size w w' := by
 have hx := Box.new w false 0
 have hb0 : Below w.heap.size w (w.alloc (.cells #[.bool false, .int .i64 0] 33)) := bal (Below.refl _ _) _
 go_enter Tryz.func81, Tryz.ntmps81
 go_wp2_with fail
 go_loopw [3, 4, 5] (fun h o i wr => ∃ (j : Nat) (s hi lo : Int), j ≤ n ∧ i = .int .i64 j ∧ h = .int .i64 hi ∧ o = .int .i64 lo ∧ s = hi * 4294967296 + lo ∧ 0 ≤ lo ∧ lo < 4294967296 ∧ sumL (cnts (l.take j)) = some s ∧ Box wr w.heap.size false 0 ∧ Below w.heap.size w wr) (fun _ _ i _ => n - (intOf i).toNat)
 case atStart => exact ⟨0, 0, 0, 0, by omega, rfl, rfl, rfl, by omega, by omega, by omega, rfl, hx, hb0⟩
 case round =>
  obtain ⟨j, s, hi, lo, hj, rfl, rfl, rfl, hs1, hlo0, hlo1, hsum, hbx, hbw⟩ := hrel
  have hrg : -(j * 9223372036854775808 : Int) ≤ s ∧ s ≤ j * 9223372036854775808 := by
   have := sumL_range (l.take j) (fun x hx => hl x (List.mem_of_mem_take hx)) s hsum
   rw [List.length_take, hs.1, Nat.min_eq_left hj] at this
   exact this
  have hhi : -214748364800 ≤ hi ∧ hi ≤ 214748364800 := by omega
  have HS1 : Hid _ := hs1
  clear hs1
  by_cases hlt : j < n
  ·
   obtain ⟨b, off, rfl, hcell⟩ := hs.2 (by omega)
   obtain ⟨k0, k1⟩ := hcell j hlt
   have k0' := (hbw.cell (World.block_lt_of_cell? _ _ k0)).trans k0
   have k1' := (hbw.cell (World.block_lt_of_cell? _ _ k1)).trans k1
   have hlen : j < l.length := by rw [hs.1]; exact hlt
   have hm := hl _ (getD_mem hlen)
   rcases cnt_ways (o := (l.getD j (false, 0)).1) hm.1 with ⟨ho, hr⟩ | ⟨ho, hi0, hr⟩ | ⟨ho, hi0, hr⟩
   ·
    have hsn : Hid _ := sumL_none hlen hr
    generalize (l.getD j (false, 0)) = x at *
    obtain ⟨o, m⟩ := x
    have ho' : o = true := ho
    subst ho'
    clear k0 k1 hcell
    go_wp2_with fail
    refine (ovf_any _).mono ?_
    rintro e w2 ⟨rfl, hb4⟩
    obtain ⟨d0, d1, g0, g1⟩ := hbx.later hb4
    go_wp2
    refine bodyPost_ret (v := .agg #[.bool true, .int .i64 0]) (by simp [results, Tryz.results81, go_sem, d0, d1]) rfl ⟨?_, put2 (Below.chain hbw hb4) (by omega) _ _⟩
    unfold fSum
    rw [hsn.out]
    rfl
   ·
    have hsn : Hid _ := sumL_none hlen hr
    generalize (l.getD j (false, 0)) = x at *
    obtain ⟨o, m⟩ := x
    have ho' : o = false := ho
    subst ho'
    clear k0 k1 hcell
    go_wp2_with fail
    refine (ris_all _ _ _ hm.1).mono ?_
    rintro e w1 ⟨rfl, hb2⟩
    rw [hi0]
    go_wp2_with fail
    refine (ovf_any _).mono ?_
    rintro e w2 ⟨rfl, hb4⟩
    obtain ⟨d0, d1, g0, g1⟩ := (hbx.later hb2).later hb4
    go_wp2
    refine bodyPost_ret (v := .agg #[.bool true, .int .i64 0]) (by simp [results, Tryz.results81, go_sem, d0, d1]) rfl ⟨?_, put2 (Below.chain (Below.chain hbw hb2) hb4) (by omega) _ _⟩
    unfold fSum
    rw [hsn.out]
    rfl
   ·
    have hsn : Hid _ := sumL_snoc hlen hsum hr
    generalize (l.getD j (false, 0)) = x at *
    obtain ⟨o, m⟩ := x
    have ho' : o = false := ho
    subst ho'
    clear k0 k1 hcell
    go_wp2_with fail
    refine (ris_all _ _ _ hm.1).mono ?_
    rintro e w1 ⟨rfl, hb2⟩
    rw [hi0]
    have k2 := (hb2.cell (World.block_lt_of_cell? _ _ k1')).trans k1'
    go_wp2_with fail
    rw [and_low, and_low]
    have hm' : -9223372036854775808 ≤ m ∧ m ≤ 9223372036854775807 := hm
    have e1 : wrap64 (lo + m % 4294967296) = lo + m % 4294967296 := by unfold wrap64; omega
    have e2 : wrap64 (hi + m / 4294967296 + (lo + m % 4294967296) / 4294967296) = hi + m / 4294967296 + (lo + m % 4294967296) / 4294967296 := by unfold wrap64; omega
    rw [e1, e2]
    go_roundw
    case rel =>
     have hs2 := HS1.out
     exact ⟨j + 1, s + m, _, _, by omega, by go_num, rfl, rfl, by omega, by omega, by omega, hsn.out, hbx.later hb2, Below.chain hbw hb2⟩
    case measure => simp [intOf]; omega
  ·
   obtain rfl : j = n := by omega
   have hsl : sumL (cnts l) = some s := by rw [← hsum, List.take_of_length_le (by rw [hs.1]; omega)]
   have hres : fSum (cnts l) = norm s := by unfold fSum; rw [hsl]
   have Hres : Hid _ := hres
   clear hres hsl hsum
   by_cases c1 : hi < -2147483648
   ·
    go_wp2_with fail
    refine (ovf_any _).mono ?_
    rintro e w2 ⟨rfl, hb4⟩
    obtain ⟨d0, d1, g0, g1⟩ := hbx.later hb4
    go_wp2
    exact bodyPost_ret (v := .agg #[.bool true, .int .i64 0]) (by simp [results, Tryz.results81, go_sem, d0, d1]) rfl ⟨by rw [Hres.out, norm_out (by have := HS1.out; omega)]; rfl, put2 (Below.chain hbw hb4) (by omega) _ _⟩
   ·
    by_cases c2 : 2147483648 ≤ hi
    ·
     go_wp2_with fail
     refine (ovf_any _).mono ?_
     rintro e w2 ⟨rfl, hb4⟩
     obtain ⟨d0, d1, g0, g1⟩ := hbx.later hb4
     go_wp2
     exact bodyPost_ret (v := .agg #[.bool true, .int .i64 0]) (by simp [results, Tryz.results81, go_sem, d0, d1]) rfl ⟨by rw [Hres.out, norm_out (by have := HS1.out; omega)]; rfl, put2 (Below.chain hbw hb4) (by omega) _ _⟩
    ·
     by_cases c3 : hi = -2147483648
     ·
      subst c3
      by_cases c4 : lo = 0
      ·
       subst c4
       go_wp2_with fail
       refine (ovf_any _).mono ?_
       rintro e w2 ⟨rfl, hb4⟩
       obtain ⟨d0, d1, g0, g1⟩ := hbx.later hb4
       go_wp2
       have hs3 : norm s = none := by
        have := HS1.out
        unfold norm
        rw [if_neg (by omega)]
       exact bodyPost_ret (v := .agg #[.bool true, .int .i64 0]) (by simp [results, Tryz.results81, go_sem, d0, d1]) rfl ⟨by rw [Hres.out, hs3]; rfl, put2 (Below.chain hbw hb4) (by omega) _ _⟩
      ·
       have c4' : (lo == 0) = false := by simp [c4]
       obtain ⟨d0, d1, g0, g1⟩ := id hbx
       go_wp2_with fail
       rw [or_least lo hlo0 hlo1]
       have hs3 : norm s = some (-9223372036854775808 + lo) := by
        have := HS1.out
        unfold norm
        rw [if_pos (by omega)]
        exact congrArg some (by omega)
       obtain ⟨p0, p1, _, _⟩ := hbx.put (p := false) (m := -9223372036854775808 + lo)
       exact bodyPost_ret (v := .agg #[.bool false, .int .i64 (-9223372036854775808 + lo)]) (by simp [results, Tryz.results81, go_sem, p0, p1]) rfl ⟨by rw [Hres.out, hs3]; rfl, put2 hbw (by omega) _ _⟩
     ·
      have c3' : (hi == -2147483648) = false := by simp [c3]
      obtain ⟨d0, d1, g0, g1⟩ := id hbx
      go_wp2_with fail
      rw [or_low hi lo (by omega) (by omega) hlo0 hlo1]
      have hs3 : norm s = some (hi * 4294967296 + lo) := by
       have := HS1.out
       unfold norm
       rw [if_pos (by omega)]
       exact congrArg some (by omega)
      obtain ⟨p0, p1, _, _⟩ := hbx.put (p := false) (m := hi * 4294967296 + lo)
      exact bodyPost_ret (v := .agg #[.bool false, .int .i64 (hi * 4294967296 + lo)]) (by simp [results, Tryz.results81, go_sem, p0, p1]) rfl ⟨by rw [Hres.out, hs3]; rfl, put2 hbw (by omega) _ _⟩
end Go.Proofs.YtjgckfcocmhnhaaGreatDoor
namespace Go.Proofs.YtjgckfcocmhnhaaGreatDoor
open Go.RowKit
theorem Ns.laterS {w w' : World} {ao : Option Addr} {n : Nat} {l : List (Bool × Int)} (h : Ns w ao n l) (hb : Below w.heap.size w w') : Ns w' ao n l := by
 refine ⟨h.1, fun hp => ?_⟩
 obtain ⟨b, off, e, hc⟩ := h.2 hp
 refine ⟨b, off, e, fun j hj => ?_⟩
 obtain ⟨c0, c1⟩ := hc j hj
 exact ⟨(hb.cell (World.block_lt_of_cell? _ _ c0)).trans c0, (hb.cell (World.block_lt_of_cell? _ _ c1)).trans c1⟩
end Go.Proofs.YtjgckfcocmhnhaaGreatDoor
