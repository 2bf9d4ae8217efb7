
/- Mul, Div: each for every argument. -/
import Derived.Test.YthcakiibkocheaaScale
import Derived.Test.YthcakiibkocheaaCmp
namespace Go.Proofs.Ythcakiibkocheaa
open Go.RowKit

theorem abs_lt {a : Int} (h : R64 a) : a.natAbs < 18446744073709551616 := by have := h.1; have := h.2; omega
theorem sgn_tdiv (a b : Int) (k : Nat) : sgn (decide (a < 0) != decide (b < 0)) (a.natAbs * b.natAbs / k) = norm ((a * b).tdiv k) := by
  have hp : ∀ A B : Nat, ((A : Int) * (B : Int)).tdiv k = ((A * B / k : Nat) : Int) := fun A B => by
    rw [← Int.natCast_mul]
    rfl
  rcases Int.lt_or_le a 0 with ha | ha <;> rcases Int.lt_or_le b 0 with hb | hb
  · obtain ⟨A, rfl⟩ : ∃ A : Nat, a = -(A : Int) := ⟨a.natAbs, by omega⟩
    obtain ⟨B, rfl⟩ : ∃ B : Nat, b = -(B : Int) := ⟨b.natAbs, by omega⟩
    rw [decide_eq_true ha, decide_eq_true hb, Int.neg_mul_neg, hp, Int.natAbs_neg, Int.natAbs_neg, Int.natAbs_natCast, Int.natAbs_natCast]
    exact sgn_pos _
  · obtain ⟨A, rfl⟩ : ∃ A : Nat, a = -(A : Int) := ⟨a.natAbs, by omega⟩
    obtain ⟨B, rfl⟩ : ∃ B : Nat, b = (B : Int) := ⟨b.natAbs, by omega⟩
    rw [decide_eq_true ha, decide_eq_false (by omega), Int.neg_mul, Int.neg_tdiv, hp, Int.natAbs_neg, Int.natAbs_natCast, Int.natAbs_natCast]
    exact sgn_neg _
  · obtain ⟨A, rfl⟩ : ∃ A : Nat, a = (A : Int) := ⟨a.natAbs, by omega⟩
    obtain ⟨B, rfl⟩ : ∃ B : Nat, b = -(B : Int) := ⟨b.natAbs, by omega⟩
    rw [decide_eq_false (by omega), decide_eq_true hb, Int.mul_neg, Int.neg_tdiv, hp, Int.natAbs_neg, Int.natAbs_natCast, Int.natAbs_natCast]
    exact sgn_neg _
  · obtain ⟨A, rfl⟩ : ∃ A : Nat, a = (A : Int) := ⟨a.natAbs, by omega⟩
    obtain ⟨B, rfl⟩ : ∃ B : Nat, b = (B : Int) := ⟨b.natAbs, by omega⟩
    rw [decide_eq_false (by omega), decide_eq_false (by omega), hp, Int.natAbs_natCast, Int.natAbs_natCast]
    exact sgn_pos _
theorem scale_mul (a b : Int) : fScale (decide (a < 0) != decide (b < 0)) a.natAbs b.natAbs 1000000 = fMul (some a) (some b) := by
  unfold fScale
  rw [if_neg (by omega)]
  exact sgn_tdiv a b 1000000
theorem scale_div (a b : Int) : fScale (decide (a < 0) != decide (b < 0)) a.natAbs 1000000 b.natAbs = fDiv (some a) (some b) := by
  unfold fScale
  show _ = if b = 0 then none else _
  by_cases h : b = 0
  · rw [if_pos h, if_pos (by omega)]
  · rw [if_neg h, if_neg (by omega)]
    rcases Int.lt_or_le b 0 with hb | hb
    · obtain ⟨B, rfl⟩ : ∃ B : Nat, b = -(B : Int) := ⟨b.natAbs, by omega⟩
      have e := sgn_tdiv (-a) 1000000 B
      rw [Int.natAbs_neg, Int.neg_mul, Int.neg_tdiv] at e
      rw [Int.tdiv_neg, ← e, Int.natAbs_neg, Int.natAbs_natCast, decide_eq_true hb]
      by_cases h0 : a = 0
      · subst h0
        simp [sgn]
      · congr 1
        rcases Int.lt_or_le a 0 with ha | ha
        · rw [decide_eq_true ha, decide_eq_false (by omega)]
          rfl
        · rw [decide_eq_false (by omega), decide_eq_true (by omega)]
          rfl
    · obtain ⟨B, rfl⟩ : ∃ B : Nat, b = (B : Int) := ⟨b.natAbs, by omega⟩
      have e := sgn_tdiv a 1000000 B
      rw [← e, Int.natAbs_natCast, decide_eq_false (by omega : ¬ (B : Int) < 0)]
      rfl

set_option maxHeartbeats 2000000 in
theorem quo_any (o p : Bool) (n m : Int) (w : World) (hn : R64 n) (hm : R64 m) : Calls Try.prog 22 #[.agg #[.bool o, .int .i64 n], .agg #[.bool p, .int .i64 m]] w fun e w' => e = .returned (.agg #[.bool (ov (fDiv (cnt o n) (cnt p m))), .int .i64 (nn (fDiv (cnt o n) (cnt p m)))]) ∧ Below w.heap.size w w' := by
  have hVx : V (cnt o n) := V.cnt hn.1 hn.2
  have hVy : V (cnt p m) := V.cnt hm.1 hm.2
  obtain ⟨hx, hy, hz, hb⟩ := boxes3 w o p false n m 0
  generalize hX : cnt o n = x at *
  generalize hY : cnt p m = y at *
  go_enter Try.func22, Try.ntmps22
  go_wp2_with fail
  generalize ((w.alloc (.cells #[.bool o, .int .i64 n] 28)).alloc (.cells #[.bool p, .int .i64 m] 28)).alloc (.cells #[.bool false, .int .i64 0] 28) = w1 at *
  have B2 : Below w1.heap.size w1 w1.drew := (Below.refl _ _).drew
  refine region_mid (fun a' W => a' = { tmps := #[Value.agg #[.bool o, .int .i64 n], Value.agg #[.bool p, .int .i64 m], Value.pointer (some ⟨w.heap.size, 0, none⟩), Value.pointer (some ⟨w.heap.size + 1, 0, none⟩), Value.pointer (some ⟨w.heap.size + 2, 0, none⟩), Value.agg #[.bool o, .int .i64 n], Value.agg #[.bool (ov x), .int .i64 (nn x)], Value.agg #[.bool p, .int .i64 m], Value.agg #[.bool (ov y), .int .i64 (nn y)], undef, undef, undef, undef, undef, undef, undef, undef, undef, undef, undef, undef, undef, undef, undef, undef, undef, undef, undef, undef, undef], defers := [] } ∧ Box W w.heap.size (ov x) (nn x) ∧ Box W (w.heap.size + 1) (ov y) (nn y) ∧ Box W (w.heap.size + 2) false 0 ∧ Below w.heap.size w W) ?_ ?_
  · refine wp_region_noPanic ?_
    refine wp_region_held_drew (S := fun _ => True) (by kernel_rfl) ?_ (fun _ => ?_)
    · exact trivial
    refine wpAnyH_ready (rs := [0, 2]) (by kernel_rfl) (by simp) ?_
    refine AllReadyH.cons rfl (fun K hK => ?_) (AllReadyH.cons rfl (fun K hK => ?_) AllReadyH.nil)
    · have c0 := (hx.later B2).c0
      have c1 := (hx.later B2).c1
      go_simp
      refine hK.out _ _ ?_ (fun _ => ?_)
      · exact trivial
      clear hK K
      clear c0 c1
      refine wpAnyH_ready (rs := [1, 2]) (by kernel_rfl) (by simp) ?_
      refine AllReadyH.cons rfl (fun K hK => ?_) (AllReadyH.cons rfl (fun K hK => ?_) AllReadyH.nil)
      · go_simp
        refine (counted_any o n _ hn.1).mono ?_
        rintro e w2 ⟨rfl, hg2⟩
        rw [hX]
        have g2 := Below.chain B2 hg2
        refine hK.out _ _ ?_ (fun _ => ?_)
        · exact trivial
        clear hK K
        refine wpAnyH_ready (rs := [2]) (by kernel_rfl) (by simp) ?_
        refine AllReadyH.cons rfl (fun K hK => ?_) AllReadyH.nil
        have c0 := (hy.later g2).c0
        have c1 := (hy.later g2).c1
        go_simp
        refine hK.out _ _ ?_ (fun _ => ?_)
        · exact trivial
        clear hK K
        clear c0 c1
        refine wpAnyH_ready (rs := [3]) (by kernel_rfl) (by simp) ?_
        refine AllReadyH.cons rfl (fun K hK => ?_) AllReadyH.nil
        go_simp
        refine (counted_any p m _ hm.1).mono ?_
        rintro e w3 ⟨rfl, hg3⟩
        rw [hY]
        have g3 := Below.chain g2 hg3
        refine hK.out _ _ ?_ (fun _ => ?_)
        · exact trivial
        clear hK K
        have hx4 := (hx.later g3).put (p := ov x) (m := nn x)
        have hy4 := (hy.later g3).put_other (a := w.heap.size) (p := ov x) (m := nn x) (by omega)
        have hb4 := put2 (Below.chain hb g3) (b := w.heap.size) (by omega) (ov x) (nn x)
        have hx3 := hx.later g3
        have c0 := hx3.c0
        have c1 := hx3.c1
        have f0 := hx3.f0
        have f1 := hx3.f1
        have hz4 := (hz.later g3).put_other (a := w.heap.size) (p := ov x) (m := nn x) (by omega)
        refine wpAnyH_ready (rs := [4]) (by kernel_rfl) (by simp) ?_
        refine AllReadyH.cons rfl (fun K hK => ?_) AllReadyH.nil
        go_simp
        refine hK.out _ _ ?_ (fun _ => ?_)
        · exact trivial
        clear hK K
        clear c0 c1 f0 f1
        have hx5 := hx4.put_other (a := w.heap.size + 1) (p := ov y) (m := nn y) (by omega)
        have hy5 := hy4.put (p := ov y) (m := nn y)
        have hb5 := put2 hb4 (b := w.heap.size + 1) (by omega) (ov y) (nn y)
        have c0 := hy4.c0
        have c1 := hy4.c1
        have f0 := hy4.f0
        have f1 := hy4.f1
        have hz5 := hz4.put_other (a := w.heap.size + 1) (p := ov y) (m := nn y) (by omega)
        refine wpAnyH_ready (rs := [5]) (by kernel_rfl) (by simp) ?_
        refine AllReadyH.cons rfl (fun K hK => ?_) AllReadyH.nil
        go_simp
        refine hK.out _ _ ?_ (fun _ => ?_)
        · exact trivial
        clear hK K
        clear c0 c1 f0 f1
        refine wpAnyH_done (by kernel_rfl) ?_ _
        refine NoPanic.normal ?_
        exact ⟨rfl, hx5, hy5, hz5, hb5⟩
      · have c0 := (hy.later B2).c0
        have c1 := (hy.later B2).c1
        go_simp
        refine hK.out _ _ ?_ (fun _ => ?_)
        · exact trivial
        clear hK K
        clear c0 c1
        refine wpAnyH_ready (rs := [1]) (by kernel_rfl) (by simp) ?_
        refine AllReadyH.cons rfl (fun K hK => ?_) AllReadyH.nil
        go_simp
        refine (counted_any o n _ hn.1).mono ?_
        rintro e w2 ⟨rfl, hg2⟩
        rw [hX]
        have g2 := Below.chain B2 hg2
        refine hK.out _ _ ?_ (fun _ => ?_)
        · exact trivial
        clear hK K
        refine wpAnyH_ready (rs := [3]) (by kernel_rfl) (by simp) ?_
        refine AllReadyH.cons rfl (fun K hK => ?_) AllReadyH.nil
        go_simp
        refine (counted_any p m _ hm.1).mono ?_
        rintro e w3 ⟨rfl, hg3⟩
        rw [hY]
        have g3 := Below.chain g2 hg3
        refine hK.out _ _ ?_ (fun _ => ?_)
        · exact trivial
        clear hK K
        have hx4 := (hx.later g3).put (p := ov x) (m := nn x)
        have hy4 := (hy.later g3).put_other (a := w.heap.size) (p := ov x) (m := nn x) (by omega)
        have hb4 := put2 (Below.chain hb g3) (b := w.heap.size) (by omega) (ov x) (nn x)
        have hx3 := hx.later g3
        have c0 := hx3.c0
        have c1 := hx3.c1
        have f0 := hx3.f0
        have f1 := hx3.f1
        have hz4 := (hz.later g3).put_other (a := w.heap.size) (p := ov x) (m := nn x) (by omega)
        refine wpAnyH_ready (rs := [4]) (by kernel_rfl) (by simp) ?_
        refine AllReadyH.cons rfl (fun K hK => ?_) AllReadyH.nil
        go_simp
        refine hK.out _ _ ?_ (fun _ => ?_)
        · exact trivial
        clear hK K
        clear c0 c1 f0 f1
        have hx5 := hx4.put_other (a := w.heap.size + 1) (p := ov y) (m := nn y) (by omega)
        have hy5 := hy4.put (p := ov y) (m := nn y)
        have hb5 := put2 hb4 (b := w.heap.size + 1) (by omega) (ov y) (nn y)
        have c0 := hy4.c0
        have c1 := hy4.c1
        have f0 := hy4.f0
        have f1 := hy4.f1
        have hz5 := hz4.put_other (a := w.heap.size + 1) (p := ov y) (m := nn y) (by omega)
        refine wpAnyH_ready (rs := [5]) (by kernel_rfl) (by simp) ?_
        refine AllReadyH.cons rfl (fun K hK => ?_) AllReadyH.nil
        go_simp
        refine hK.out _ _ ?_ (fun _ => ?_)
        · exact trivial
        clear hK K
        clear c0 c1 f0 f1
        refine wpAnyH_done (by kernel_rfl) ?_ _
        refine NoPanic.normal ?_
        exact ⟨rfl, hx5, hy5, hz5, hb5⟩
    · have c0 := (hy.later B2).c0
      have c1 := (hy.later B2).c1
      go_simp
      refine hK.out _ _ ?_ (fun _ => ?_)
      · exact trivial
      clear hK K
      clear c0 c1
      refine wpAnyH_ready (rs := [0]) (by kernel_rfl) (by simp) ?_
      refine AllReadyH.cons rfl (fun K hK => ?_) AllReadyH.nil
      have c0 := (hx.later B2).c0
      have c1 := (hx.later B2).c1
      go_simp
      refine hK.out _ _ ?_ (fun _ => ?_)
      · exact trivial
      clear hK K
      clear c0 c1
      refine wpAnyH_ready (rs := [1]) (by kernel_rfl) (by simp) ?_
      refine AllReadyH.cons rfl (fun K hK => ?_) AllReadyH.nil
      go_simp
      refine (counted_any o n _ hn.1).mono ?_
      rintro e w2 ⟨rfl, hg2⟩
      rw [hX]
      have g2 := Below.chain B2 hg2
      refine hK.out _ _ ?_ (fun _ => ?_)
      · exact trivial
      clear hK K
      refine wpAnyH_ready (rs := [3]) (by kernel_rfl) (by simp) ?_
      refine AllReadyH.cons rfl (fun K hK => ?_) AllReadyH.nil
      go_simp
      refine (counted_any p m _ hm.1).mono ?_
      rintro e w3 ⟨rfl, hg3⟩
      rw [hY]
      have g3 := Below.chain g2 hg3
      refine hK.out _ _ ?_ (fun _ => ?_)
      · exact trivial
      clear hK K
      have hx4 := (hx.later g3).put (p := ov x) (m := nn x)
      have hy4 := (hy.later g3).put_other (a := w.heap.size) (p := ov x) (m := nn x) (by omega)
      have hb4 := put2 (Below.chain hb g3) (b := w.heap.size) (by omega) (ov x) (nn x)
      have hx3 := hx.later g3
      have c0 := hx3.c0
      have c1 := hx3.c1
      have f0 := hx3.f0
      have f1 := hx3.f1
      have hz4 := (hz.later g3).put_other (a := w.heap.size) (p := ov x) (m := nn x) (by omega)
      refine wpAnyH_ready (rs := [4]) (by kernel_rfl) (by simp) ?_
      refine AllReadyH.cons rfl (fun K hK => ?_) AllReadyH.nil
      go_simp
      refine hK.out _ _ ?_ (fun _ => ?_)
      · exact trivial
      clear hK K
      clear c0 c1 f0 f1
      have hx5 := hx4.put_other (a := w.heap.size + 1) (p := ov y) (m := nn y) (by omega)
      have hy5 := hy4.put (p := ov y) (m := nn y)
      have hb5 := put2 hb4 (b := w.heap.size + 1) (by omega) (ov y) (nn y)
      have c0 := hy4.c0
      have c1 := hy4.c1
      have f0 := hy4.f0
      have f1 := hy4.f1
      have hz5 := hz4.put_other (a := w.heap.size + 1) (p := ov y) (m := nn y) (by omega)
      refine wpAnyH_ready (rs := [5]) (by kernel_rfl) (by simp) ?_
      refine AllReadyH.cons rfl (fun K hK => ?_) AllReadyH.nil
      go_simp
      refine hK.out _ _ ?_ (fun _ => ?_)
      · exact trivial
      clear hK K
      clear c0 c1 f0 f1
      refine wpAnyH_done (by kernel_rfl) ?_ _
      refine NoPanic.normal ?_
      exact ⟨rfl, hx5, hy5, hz5, hb5⟩
  · clear hx hy hz hb B2
    rintro _ W1 ⟨rfl, hx, hy, hz, hb⟩
    cases x with
    | none =>
      obtain ⟨c0, c1, f0, f1⟩ := hx
      go_wp2_with fail
      refine (overflow_any _).mono ?_
      rintro e w6 ⟨rfl, hb6⟩
      have hz6 := hz.later hb6
      obtain ⟨d0, d1, g0, g1⟩ := hz6
      go_wp2
      exact bodyPost_ret (v := .agg #[.bool true, .int .i64 0]) (by simp [results, Try.results22, go_sem, d0, d1]) rfl ⟨by cases y <;> rfl, put2 (Below.chain hb hb6) (by omega) _ _⟩
    | some a =>
      cases y with
      | none =>
        obtain ⟨c0, c1, f0, f1⟩ := hx
        obtain ⟨e0, e1, _, _⟩ := hy
        go_wp2_with fail
        refine (overflow_any _).mono ?_
        rintro e w6 ⟨rfl, hb6⟩
        have hz6 := hz.later hb6
        obtain ⟨d0, d1, g0, g1⟩ := hz6
        go_wp2
        exact bodyPost_ret (v := .agg #[.bool true, .int .i64 0]) (by simp [results, Try.results22, go_sem, d0, d1]) rfl ⟨rfl, put2 (Below.chain hb hb6) (by omega) _ _⟩
      | some b =>
        have ha : R64 a := ⟨by have := hVx.1; simp only [nn] at this; omega, hVx.2⟩
        have hb' : R64 b := ⟨by have := hVy.1; simp only [nn] at this; omega, hVy.2⟩
        have hs := fun W => scaled_any (decide (a < 0) != decide (b < 0)) a.natAbs 1000000 b.natAbs W (abs_lt ha) (by omega) (abs_lt hb')
        rw [scale_div] at hs
        simp only [nn, ov] at hx hy ⊢
        have hlx := hx.lt
        have hly := hy.lt
        have k0 := hx.c0
        have k1 := hy.c0
        go_wp2_with fail
        have m0 : ∀ W, Below (w.heap.size + 2) W1 W → W.cell? ⟨w.heap.size, 1, none⟩ = some (.int .i64 a) := fun W h => (h.cell (p := ⟨w.heap.size, 1, none⟩) (by simp)).trans hx.c1
        have m1 : ∀ W, Below (w.heap.size + 2) W1 W → W.cell? ⟨w.heap.size + 1, 1, none⟩ = some (.int .i64 b) := fun W h => (h.cell (p := ⟨w.heap.size + 1, 1, none⟩) (by simp)).trans hy.c1
        have B2 : Below (w.heap.size + 2) W1 W1.drew := (Below.refl _ _).drew
        clear k0 k1
        refine wp_region_noPanic ?_
        refine wp_region_held_drew (S := fun W => Below (w.heap.size + 2) W1 W) (by kernel_rfl) ?_ (fun _ => ?_)
        · exact B2
        refine take_at 0 (some 16) (.pointer (some ⟨w.heap.size, 1, none⟩)) rfl rfl (by kernel_rfl) (by kernel_rfl) (by kernel_rfl) (fun _ _ _ h => h) (by rfl) (fun W hSw => by go_simp) B2 ?_
        simp only [Act.put, List.setIfInBounds_toArray, List.set_cons_zero, List.set_cons_succ]
        refine take_at 1 (some 17) (.int .i64 a) rfl rfl (by kernel_rfl) (by kernel_rfl) (by kernel_rfl) (fun _ _ _ h => h) (by rfl) (fun W hSw => by go_simp) B2 ?_
        simp only [Act.put, List.setIfInBounds_toArray, List.set_cons_zero, List.set_cons_succ]
        refine take_at 2 (some 18) (.bool (decide (a < 0))) rfl rfl (by kernel_rfl) (by kernel_rfl) (by kernel_rfl) (fun _ _ _ h => h) (by rfl) (fun W hSw => by go_simp) B2 ?_
        simp only [Act.put, List.setIfInBounds_toArray, List.set_cons_zero, List.set_cons_succ]
        refine take_at 3 (some 19) (.pointer (some ⟨w.heap.size + 1, 1, none⟩)) rfl rfl (by kernel_rfl) (by kernel_rfl) (by kernel_rfl) (fun _ _ _ h => h) (by rfl) (fun W hSw => by go_simp) B2 ?_
        simp only [Act.put, List.setIfInBounds_toArray, List.set_cons_zero, List.set_cons_succ]
        refine take_at 4 (some 20) (.int .i64 b) rfl rfl (by kernel_rfl) (by kernel_rfl) (by kernel_rfl) (fun _ _ _ h => h) (by rfl) (fun W hSw => by go_simp) B2 ?_
        simp only [Act.put, List.setIfInBounds_toArray, List.set_cons_zero, List.set_cons_succ]
        refine take_at 5 (some 21) (.bool (decide (b < 0))) rfl rfl (by kernel_rfl) (by kernel_rfl) (by kernel_rfl) (fun _ _ _ h => h) (by rfl) (fun W hSw => by go_simp) B2 ?_
        simp only [Act.put, List.setIfInBounds_toArray, List.set_cons_zero, List.set_cons_succ]
        refine take_at 6 (some 22) (.bool (decide (a < 0) != decide (b < 0))) rfl rfl (by kernel_rfl) (by kernel_rfl) (by kernel_rfl) (fun _ _ _ h => h) (by rfl) (fun W hSw => by go_simp; cases decide (a < 0) <;> cases decide (b < 0) <;> rfl) B2 ?_
        simp only [Act.put, List.setIfInBounds_toArray, List.set_cons_zero, List.set_cons_succ]
        refine take_at 7 (some 23) (.pointer (some ⟨w.heap.size, 1, none⟩)) rfl rfl (by kernel_rfl) (by kernel_rfl) (by kernel_rfl) (fun _ _ _ h => h) (by rfl) (fun W hSw => by go_simp) B2 ?_
        simp only [Act.put, List.setIfInBounds_toArray, List.set_cons_zero, List.set_cons_succ]
        refine take_at 8 (some 24) (.int .i64 a) rfl rfl (by kernel_rfl) (by kernel_rfl) (by kernel_rfl) (fun _ _ _ h => h) (by rfl) (fun W hSw => by go_simp) B2 ?_
        simp only [Act.put, List.setIfInBounds_toArray, List.set_cons_zero, List.set_cons_succ]
        refine take_at 10 (some 26) (.pointer (some ⟨w.heap.size + 1, 1, none⟩)) rfl rfl (by kernel_rfl) (by kernel_rfl) (by kernel_rfl) (fun _ _ _ h => h) (by rfl) (fun W hSw => by go_simp) B2 ?_
        simp only [Act.put, List.setIfInBounds_toArray, List.set_cons_zero, List.set_cons_succ]
        refine take_at 11 (some 27) (.int .i64 b) rfl rfl (by kernel_rfl) (by kernel_rfl) (by kernel_rfl) (fun _ _ _ h => h) (by rfl) (fun W hSw => by go_simp) B2 ?_
        simp only [Act.put, List.setIfInBounds_toArray, List.set_cons_zero, List.set_cons_succ]
        refine wpAnyH_ready (rs := [9]) (by kernel_rfl) (by simp) ?_
        refine AllReadyH.cons rfl (fun K hK => ?_) AllReadyH.nil
        go_simp
        refine (mag_any _ _ ha.1 ha.2).mono ?_
        rintro e w5 ⟨rfl, rfl⟩
        refine hK.out _ _ ?_ (fun _ => ?_)
        · exact B2
        clear hK K
        refine wpAnyH_ready (rs := [12]) (by kernel_rfl) (by simp) ?_
        refine AllReadyH.cons rfl (fun K hK => ?_) AllReadyH.nil
        go_simp
        refine (mag_any _ _ hb'.1 hb'.2).mono ?_
        rintro e w5 ⟨rfl, rfl⟩
        refine hK.out _ _ ?_ (fun _ => ?_)
        · exact B2
        clear hK K
        refine wpAnyH_ready (rs := [13]) (by kernel_rfl) (by simp) ?_
        refine AllReadyH.cons rfl (fun K hK => ?_) AllReadyH.nil
        go_simp
        refine (hs _).mono ?_
        rintro e w6 ⟨rfl, hb6⟩
        have B3 : Below (w.heap.size + 2) W1 w6 := B2.trans (hb6.mono (by have := hz.lt; simp; omega))
        refine hK.out _ _ ?_ (fun _ => ?_)
        · exact B3
        clear hK K
        have hz6 := hz.later (Below.chain (Below.refl _ W1).drew hb6)
        have c0 := hz6.c0
        have c1 := hz6.c1
        have f0 := hz6.f0
        have f1 := hz6.f1
        refine wpAnyH_ready (rs := [14]) (by kernel_rfl) (by simp) ?_
        refine AllReadyH.cons rfl (fun K hK => ?_) AllReadyH.nil
        go_simp
        refine hK.out _ _ ?_ (fun _ => ?_)
        · exact put2 B3 (by omega) _ _
        clear hK K
        refine wpAnyH_done (by kernel_rfl) ?_ _
        refine NoPanic.normal ?_
        go_wp2
        exact bodyPost_ret (v := .agg #[.bool (ov (fDiv (some a) (some b))), .int .i64 (nn (fDiv (some a) (some b)))]) (by simp [results, Try.results22, go_sem, c0, c1]) rfl ⟨rfl, put2 (hb.trans (B3.mono (by omega))) (by omega) _ _⟩

end Go.Proofs.Ythcakiibkocheaa
