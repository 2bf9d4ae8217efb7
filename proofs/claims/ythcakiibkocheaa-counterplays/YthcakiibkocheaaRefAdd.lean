/- The document's own Add, Sub, Mul, Div, Of: each for every argument. -/
import Derived.Test.YthcakiibkocheaaRef
namespace Go.Proofs.Ythcakiibkocheaa
open Go.RowKit

theorem add_cases {a b N : Int} (ha0 : -9223372036854775807 ≤ a) (ha1 : a ≤ 9223372036854775807) (hb0 : -9223372036854775807 ≤ b) (hb1 : b ≤ 9223372036854775807) (hN : wrap64 (a + b) = N) :
    (a > 0 ∧ b > 0 ∧ N ≤ 0 ∧ norm (a + b) = none) ∨ (a > 0 ∧ b > 0 ∧ ¬ N ≤ 0 ∧ ¬ N = -9223372036854775808 ∧ norm (a + b) = some N) ∨ (a > 0 ∧ ¬ b > 0 ∧ ¬ a < 0 ∧ ¬ N = -9223372036854775808 ∧ norm (a + b) = some N) ∨ (¬ a > 0 ∧ a < 0 ∧ b < 0 ∧ N ≥ 0 ∧ norm (a + b) = none) ∨ (¬ a > 0 ∧ a < 0 ∧ b < 0 ∧ ¬ N ≥ 0 ∧ N = -9223372036854775808 ∧ norm (a + b) = none) ∨ (¬ a > 0 ∧ a < 0 ∧ b < 0 ∧ ¬ N ≥ 0 ∧ ¬ N = -9223372036854775808 ∧ norm (a + b) = some N) ∨ (¬ a > 0 ∧ a < 0 ∧ ¬ b < 0 ∧ ¬ N = -9223372036854775808 ∧ norm (a + b) = some N) ∨ (¬ a > 0 ∧ ¬ a < 0 ∧ ¬ N = -9223372036854775808 ∧ norm (a + b) = some N) := by
  have hw : N = a + b ∨ (N = a + b - 18446744073709551616 ∧ 9223372036854775807 < a + b) ∨ (N = a + b + 18446744073709551616 ∧ a + b < -9223372036854775808) := by
    unfold wrap64 at hN
    omega
  have hr : -9223372036854775808 ≤ N ∧ N ≤ 9223372036854775807 := by unfold wrap64 at hN; omega
  clear hN
  rcases hw with h | ⟨h, h'⟩ | ⟨h, h'⟩
  · by_cases hm : N = -9223372036854775808
    · have e : norm (a + b) = none := by unfold norm; rw [if_neg (by omega)]
      rw [e]
      refine Or.inr (Or.inr (Or.inr (Or.inr (Or.inl ⟨by omega, by omega, by omega, by omega, hm, rfl⟩))))
    · have e : norm (a + b) = some N := by unfold norm; rw [if_pos (by omega), h]
      rw [e]
      by_cases p1 : a > 0
      · by_cases p2 : b > 0
        · exact Or.inr (Or.inl ⟨p1, p2, by omega, hm, rfl⟩)
        · exact Or.inr (Or.inr (Or.inl ⟨p1, p2, by omega, hm, rfl⟩))
      · by_cases p3 : a < 0
        · by_cases p4 : b < 0
          · exact Or.inr (Or.inr (Or.inr (Or.inr (Or.inr (Or.inl ⟨p1, p3, p4, by omega, hm, rfl⟩)))))
          · exact Or.inr (Or.inr (Or.inr (Or.inr (Or.inr (Or.inr (Or.inl ⟨p1, p3, p4, hm, rfl⟩))))))
        · exact Or.inr (Or.inr (Or.inr (Or.inr (Or.inr (Or.inr (Or.inr ⟨p1, p3, hm, rfl⟩))))))
  · have e : norm (a + b) = none := by unfold norm; rw [if_neg (by omega)]
    rw [e]
    exact Or.inl ⟨by omega, by omega, by omega, rfl⟩
  · have e : norm (a + b) = none := by unfold norm; rw [if_neg (by omega)]
    rw [e]
    exact Or.inr (Or.inr (Or.inr (Or.inl ⟨by omega, by omega, by omega, by omega, rfl⟩)))

set_option maxHeartbeats 4000000 in
theorem radd_any (o p : Bool) (n m : Int) (w : World) (hn : R64 n) (hm : R64 m) : Calls Try.prog 41 #[.agg #[.bool o, .int .i64 n], .agg #[.bool p, .int .i64 m]] w fun e w' => e = .returned (.agg #[.bool (ov (fAdd (cnt o n) (cnt p m))), .int .i64 (nn (fAdd (cnt o n) (cnt p m)))]) ∧ Below w.heap.size w w' := by
  obtain ⟨hx, hy, hz, hb⟩ := boxes3 w o p false n m 0
  have key : ∀ w1, Below (((w.alloc (.cells #[.bool o, .int .i64 n] 28)).alloc (.cells #[.bool p, .int .i64 m] 28)).alloc (.cells #[.bool false, .int .i64 0] 28)).heap.size (((w.alloc (.cells #[.bool o, .int .i64 n] 28)).alloc (.cells #[.bool p, .int .i64 m] 28)).alloc (.cells #[.bool false, .int .i64 0] 28)) w1 → Box w1 w.heap.size o n ∧ Box w1 (w.heap.size + 1) p m ∧ Box w1 (w.heap.size + 2) false 0 ∧ Below w.heap.size w w1 := fun w1 h1 => ⟨hx.later h1, hy.later h1, hz.later h1, Below.chain hb h1⟩
  clear hx hy hz
  cases hN0 : nov (cnt o n) (cnt p m) with
  | true =>
    have HR : Hid (fAdd (cnt o n) (cnt p m) = none) := by
      show _ = _
      unfold nov at hN0
      revert hN0
      generalize cnt o n = x
      generalize cnt p m = y
      intro hN0
      cases x <;> cases y <;> first | rfl | cases hN0
    go_enter Try.func41, Try.ntmps41
    go_wp2_with fail
    refine (none_any _ _ _ _ _ hn hm).mono ?_
    rintro e w1 ⟨rfl, hb1⟩
    rw [hN0]
    obtain ⟨_, _, hz1, hb1'⟩ := key _ hb1
    go_wp2_with fail
    refine (ovf_any _).mono ?_
    rintro e w2 ⟨rfl, hb2⟩
    obtain ⟨d0, d1, g0, g1⟩ := hz1.later hb2
    go_wp2
    exact bodyPost_ret (v := .agg #[.bool true, .int .i64 0]) (by simp [results, Try.results41, go_sem, d0, d1]) rfl ⟨by rw [HR.out]; rfl, put2 (Below.chain hb1' hb2) (by omega) _ _⟩
  | false =>
    rcases cnt_cases (o := o) hn.1 with ⟨rfl, e1⟩ | ⟨rfl, i1, e1⟩ | ⟨rfl, i1, e1⟩
    · rw [e1] at hN0
      cases hN0
    · rw [e1] at hN0
      cases hN0
    · rcases cnt_cases (o := p) hm.1 with ⟨rfl, e2⟩ | ⟨rfl, i2, e2⟩ | ⟨rfl, i2, e2⟩
      · rw [e1, e2] at hN0
        cases hN0
      · rw [e1, e2] at hN0
        cases hN0
      rw [e1, e2] at hN0 ⊢
      have ha0 : -9223372036854775807 ≤ n := by simpa [fIs] using i1
      have hb0 : -9223372036854775807 ≤ m := by simpa [fIs] using i2
      have hcs := add_cases ha0 hn.2 hb0 hm.2 rfl
      have hno := fun w => none_any false false n m w hn hm
      rw [e1, e2, hN0] at hno
      clear e1 e2 i1 i2 ha0 hb0 hN0
      have H1 : Hid (R64 n) := hn
      have H2 : Hid (R64 m) := hm
      clear hn hm
      generalize hNN : wrap64 (n + m) = N at *
      rcases hcs with hh | hh | hh | hh | hh | hh | hh | hh
      · obtain ⟨k0, k1, k2, hR⟩ := hh
        have HR : Hid (fAdd (some n) (some m) = _) := hR
        clear hR
        go_enter Try.func41, Try.ntmps41
        go_wp2_with fail
        refine (hno _).mono ?_
        rintro e w1 ⟨rfl, hb1⟩
        obtain ⟨⟨c0, c1, _, _⟩, ⟨e0, e1, _, _⟩, hz1, hb1'⟩ := key _ hb1
        go_wp2_with fail
        refine (ovf_any _).mono ?_
        rintro e w2 ⟨rfl, hb2⟩
        obtain ⟨d0, d1, g0, g1⟩ := hz1.later hb2
        go_wp2
        exact bodyPost_ret (v := .agg #[.bool true, .int .i64 0]) (by simp [results, Try.results41, go_sem, d0, d1]) rfl ⟨by rw [HR.out]; rfl, put2 (Below.chain hb1' hb2) (by omega) _ _⟩
      · obtain ⟨k0, k1, k2, k3, hR⟩ := hh
        have HR : Hid (fAdd (some n) (some m) = _) := hR
        clear hR
        have kb : (N == -9223372036854775808) = false := by simpa using k3
        go_enter Try.func41, Try.ntmps41
        go_wp2_with fail
        refine (hno _).mono ?_
        rintro e w1 ⟨rfl, hb1⟩
        obtain ⟨⟨c0, c1, _, _⟩, ⟨e0, e1, _, _⟩, hz1, hb1'⟩ := key _ hb1
        obtain ⟨d0, d1, g0, g1⟩ := hz1
        go_wp2
        exact bodyPost_ret (v := .agg #[.bool false, .int .i64 N]) (by simp [results, Try.results41, go_sem, d0, d1]) rfl ⟨by rw [HR.out]; rfl, put2 hb1' (by omega) _ _⟩
      · obtain ⟨k0, k1, k2, k3, hR⟩ := hh
        have HR : Hid (fAdd (some n) (some m) = _) := hR
        clear hR
        have kb : (N == -9223372036854775808) = false := by simpa using k3
        go_enter Try.func41, Try.ntmps41
        go_wp2_with fail
        refine (hno _).mono ?_
        rintro e w1 ⟨rfl, hb1⟩
        obtain ⟨⟨c0, c1, _, _⟩, ⟨e0, e1, _, _⟩, hz1, hb1'⟩ := key _ hb1
        obtain ⟨d0, d1, g0, g1⟩ := hz1
        go_wp2
        exact bodyPost_ret (v := .agg #[.bool false, .int .i64 N]) (by simp [results, Try.results41, go_sem, d0, d1]) rfl ⟨by rw [HR.out]; rfl, put2 hb1' (by omega) _ _⟩
      · obtain ⟨k0, k1, k2, k3, hR⟩ := hh
        have HR : Hid (fAdd (some n) (some m) = _) := hR
        clear hR
        go_enter Try.func41, Try.ntmps41
        go_wp2_with fail
        refine (hno _).mono ?_
        rintro e w1 ⟨rfl, hb1⟩
        obtain ⟨⟨c0, c1, _, _⟩, ⟨e0, e1, _, _⟩, hz1, hb1'⟩ := key _ hb1
        go_wp2_with fail
        refine (ovf_any _).mono ?_
        rintro e w2 ⟨rfl, hb2⟩
        obtain ⟨d0, d1, g0, g1⟩ := hz1.later hb2
        go_wp2
        exact bodyPost_ret (v := .agg #[.bool true, .int .i64 0]) (by simp [results, Try.results41, go_sem, d0, d1]) rfl ⟨by rw [HR.out]; rfl, put2 (Below.chain hb1' hb2) (by omega) _ _⟩
      · obtain ⟨k0, k1, k2, k3, k4, hR⟩ := hh
        have HR : Hid (fAdd (some n) (some m) = _) := hR
        clear hR
        subst k4
        go_enter Try.func41, Try.ntmps41
        go_wp2_with fail
        refine (hno _).mono ?_
        rintro e w1 ⟨rfl, hb1⟩
        obtain ⟨⟨c0, c1, _, _⟩, ⟨e0, e1, _, _⟩, hz1, hb1'⟩ := key _ hb1
        go_wp2_with fail
        refine (ovf_any _).mono ?_
        rintro e w2 ⟨rfl, hb2⟩
        obtain ⟨d0, d1, g0, g1⟩ := hz1.later hb2
        go_wp2
        exact bodyPost_ret (v := .agg #[.bool true, .int .i64 0]) (by simp [results, Try.results41, go_sem, d0, d1]) rfl ⟨by rw [HR.out]; rfl, put2 (Below.chain hb1' hb2) (by omega) _ _⟩
      · obtain ⟨k0, k1, k2, k3, k4, hR⟩ := hh
        have HR : Hid (fAdd (some n) (some m) = _) := hR
        clear hR
        have kb : (N == -9223372036854775808) = false := by simpa using k4
        go_enter Try.func41, Try.ntmps41
        go_wp2_with fail
        refine (hno _).mono ?_
        rintro e w1 ⟨rfl, hb1⟩
        obtain ⟨⟨c0, c1, _, _⟩, ⟨e0, e1, _, _⟩, hz1, hb1'⟩ := key _ hb1
        obtain ⟨d0, d1, g0, g1⟩ := hz1
        go_wp2
        exact bodyPost_ret (v := .agg #[.bool false, .int .i64 N]) (by simp [results, Try.results41, go_sem, d0, d1]) rfl ⟨by rw [HR.out]; rfl, put2 hb1' (by omega) _ _⟩
      · obtain ⟨k0, k1, k2, k3, hR⟩ := hh
        have HR : Hid (fAdd (some n) (some m) = _) := hR
        clear hR
        have kb : (N == -9223372036854775808) = false := by simpa using k3
        go_enter Try.func41, Try.ntmps41
        go_wp2_with fail
        refine (hno _).mono ?_
        rintro e w1 ⟨rfl, hb1⟩
        obtain ⟨⟨c0, c1, _, _⟩, ⟨e0, e1, _, _⟩, hz1, hb1'⟩ := key _ hb1
        obtain ⟨d0, d1, g0, g1⟩ := hz1
        go_wp2
        exact bodyPost_ret (v := .agg #[.bool false, .int .i64 N]) (by simp [results, Try.results41, go_sem, d0, d1]) rfl ⟨by rw [HR.out]; rfl, put2 hb1' (by omega) _ _⟩
      · obtain ⟨k0, k1, k2, hR⟩ := hh
        have HR : Hid (fAdd (some n) (some m) = _) := hR
        clear hR
        have kb : (N == -9223372036854775808) = false := by simpa using k2
        go_enter Try.func41, Try.ntmps41
        go_wp2_with fail
        refine (hno _).mono ?_
        rintro e w1 ⟨rfl, hb1⟩
        obtain ⟨⟨c0, c1, _, _⟩, ⟨e0, e1, _, _⟩, hz1, hb1'⟩ := key _ hb1
        obtain ⟨d0, d1, g0, g1⟩ := hz1
        go_wp2
        exact bodyPost_ret (v := .agg #[.bool false, .int .i64 N]) (by simp [results, Try.results41, go_sem, d0, d1]) rfl ⟨by rw [HR.out]; rfl, put2 hb1' (by omega) _ _⟩

end Go.Proofs.Ythcakiibkocheaa
