/- The document's own Sub, Mul, Div, Of: each for every argument. -/
import Derived.Test.YthcakiibkocheaaRefAdd
namespace Go.Proofs.Ythcakiibkocheaa
open Go.RowKit

theorem both_nums {o p : Bool} {n m : Int} (hn : -9223372036854775808 ≤ n) (hm : -9223372036854775808 ≤ m) (h : nov (cnt o n) (cnt p m) = false) : cnt o n = some n ∧ cnt p m = some m := by
  rcases cnt_cases (o := o) hn with ⟨_, e1⟩ | ⟨_, _, e1⟩ | ⟨_, _, e1⟩
  · rw [e1] at h; cases h
  · rw [e1] at h; cases h
  · rcases cnt_cases (o := p) hm with ⟨_, e2⟩ | ⟨_, _, e2⟩ | ⟨_, _, e2⟩
    · rw [e1, e2] at h; cases h
    · rw [e1, e2] at h; cases h
    · exact ⟨e1, e2⟩

set_option maxHeartbeats 2000000 in
theorem rsub_any (o p : Bool) (n m : Int) (w : World) (hn : R64 n) (hm : R64 m) : Calls Try.prog 28 #[.agg #[.bool o, .int .i64 n], .agg #[.bool p, .int .i64 m]] w fun e w' => e = .returned (.agg #[.bool (ov (fAdd (cnt o n) (fNeg (cnt p m)))), .int .i64 (nn (fAdd (cnt o n) (fNeg (cnt p m))))]) ∧ Below w.heap.size w w' := by
  have hv : V (fNeg (cnt p m)) := V.neg (V.cnt hm.1 hm.2)
  have hr := V.r64 hv
  obtain ⟨hx, hy, hz, hb⟩ := boxes3 w o p false n m 0
  go_enter Try.func28, Try.ntmps28
  go_wp2_with fail
  generalize ((w.alloc (.cells #[.bool o, .int .i64 n] 28)).alloc (.cells #[.bool p, .int .i64 m] 28)).alloc (.cells #[.bool false, .int .i64 0] 28) = w1 at *
  have hzl := hz.lt
  have m0 : ∀ W, Below (w.heap.size + 2) w1 W → W.cell? ⟨w.heap.size, 0, none⟩ = some (.bool o) := fun W h => (h.cell (p := ⟨w.heap.size, 0, none⟩) (by simp)).trans hx.c0
  have m1 : ∀ W, Below (w.heap.size + 2) w1 W → W.cell? ⟨w.heap.size, 1, none⟩ = some (.int .i64 n) := fun W h => (h.cell (p := ⟨w.heap.size, 1, none⟩) (by simp)).trans hx.c1
  have m2 : ∀ W, Below (w.heap.size + 2) w1 W → W.cell? ⟨w.heap.size + 1, 0, none⟩ = some (.bool p) := fun W h => (h.cell (p := ⟨w.heap.size + 1, 0, none⟩) (by simp)).trans hy.c0
  have m3 : ∀ W, Below (w.heap.size + 2) w1 W → W.cell? ⟨w.heap.size + 1, 1, none⟩ = some (.int .i64 m) := fun W h => (h.cell (p := ⟨w.heap.size + 1, 1, none⟩) (by simp)).trans hy.c1
  have B2 : Below (w.heap.size + 2) w1 w1.drew := (Below.refl _ _).drew
  refine wp_region_noPanic ?_
  refine wp_region_held_drew (S := fun W => Below (w.heap.size + 2) w1 W) (by kernel_rfl) ?_ (fun _ => ?_)
  · exact B2
  refine take_at 0 (some 5) (.agg #[.bool o, .int .i64 n]) rfl rfl (by kernel_rfl) (by kernel_rfl) (by kernel_rfl) (fun _ _ _ h => h) (by rfl) (fun W hSw => by go_simp) B2 ?_
  simp only [Act.put, List.setIfInBounds_toArray, List.set_cons_zero, List.set_cons_succ]
  refine take_at 1 (some 6) (.agg #[.bool p, .int .i64 m]) rfl rfl (by kernel_rfl) (by kernel_rfl) (by kernel_rfl) (fun _ _ _ h => h) (by rfl) (fun W hSw => by go_simp) B2 ?_
  simp only [Act.put, List.setIfInBounds_toArray, List.set_cons_zero, List.set_cons_succ]
  refine wpAnyH_ready (rs := [2]) (by kernel_rfl) (by simp) ?_
  refine AllReadyH.cons rfl (fun K hK => ?_) AllReadyH.nil
  go_simp
  refine (rneg_any _ _ _ hm).mono ?_
  rintro e w2 ⟨rfl, hb2⟩
  have C2 := Below.chain (Below.refl _ w1).drew hb2
  have B3 : Below (w.heap.size + 2) w1 w2 := C2.mono (by omega)
  refine hK.out _ _ ?_ (fun _ => ?_)
  · exact B3
  clear hK K
  refine wpAnyH_ready (rs := [3]) (by kernel_rfl) (by simp) ?_
  refine AllReadyH.cons rfl (fun K hK => ?_) AllReadyH.nil
  go_simp
  refine (radd_any _ _ _ _ _ hn hr).mono ?_
  rintro e w3 ⟨rfl, hb3⟩
  rw [cnt_val hv]
  have C4 := Below.chain C2 hb3
  have B4 : Below (w.heap.size + 2) w1 w3 := C4.mono (by omega)
  refine hK.out _ _ ?_ (fun _ => ?_)
  · exact B4
  clear hK K
  have hz6 := hz.later C4
  have c0 := hz6.c0
  have c1 := hz6.c1
  have f0 := hz6.f0
  have f1 := hz6.f1
  refine wpAnyH_ready (rs := [4]) (by kernel_rfl) (by simp) ?_
  refine AllReadyH.cons rfl (fun K hK => ?_) AllReadyH.nil
  go_simp
  refine hK.out _ _ ?_ (fun _ => ?_)
  · exact put2 B4 (by omega) _ _
  clear hK K
  refine wpAnyH_done (by kernel_rfl) ?_ _
  refine NoPanic.normal ?_
  go_wp2
  exact bodyPost_ret (v := .agg #[.bool (ov (fAdd (cnt o n) (fNeg (cnt p m)))), .int .i64 (nn (fAdd (cnt o n) (fNeg (cnt p m))))]) (by simp [results, Try.results28, go_sem, c0, c1]) rfl ⟨rfl, put2 (Below.chain hb C4) (by omega) _ _⟩

set_option maxHeartbeats 4000000 in
theorem rmul_any (o p : Bool) (n m : Int) (w : World) (hn : R64 n) (hm : R64 m) : Calls Try.prog 46 #[.agg #[.bool o, .int .i64 n], .agg #[.bool p, .int .i64 m]] w fun e w' => e = .returned (.agg #[.bool (ov (fMul (cnt o n) (cnt p m))), .int .i64 (nn (fMul (cnt o n) (cnt p m)))]) ∧ Below w.heap.size w w' := by
  obtain ⟨hx, hy, hz, hb⟩ := boxes3 w o p false n m 0
  have key : ∀ w1, Below (((w.alloc (.cells #[.bool o, .int .i64 n] 28)).alloc (.cells #[.bool p, .int .i64 m] 28)).alloc (.cells #[.bool false, .int .i64 0] 28)).heap.size (((w.alloc (.cells #[.bool o, .int .i64 n] 28)).alloc (.cells #[.bool p, .int .i64 m] 28)).alloc (.cells #[.bool false, .int .i64 0] 28)) w1 → Box w1 w.heap.size o n ∧ Box w1 (w.heap.size + 1) p m ∧ Box w1 (w.heap.size + 2) false 0 ∧ Below w.heap.size w w1 := fun w1 h1 => ⟨hx.later h1, hy.later h1, hz.later h1, Below.chain hb h1⟩
  clear hx hy hz
  have hno := fun w => none_any o p n m w hn hm
  cases hN0 : nov (cnt o n) (cnt p m) with
  | true =>
    rw [hN0] at hno
    have HR : Hid (fMul (cnt o n) (cnt p m) = none) := by
      show _ = _
      unfold nov at hN0
      revert hN0
      generalize cnt o n = x
      generalize cnt p m = y
      intro hN0
      cases x <;> cases y <;> first | rfl | cases hN0
    go_enter Try.func46, Try.ntmps46
    go_wp2_with fail
    refine (hno _).mono ?_
    rintro e w1 ⟨rfl, hb1⟩
    obtain ⟨_, _, hz1, hb1'⟩ := key _ hb1
    go_wp2_with fail
    refine (ovf_any _).mono ?_
    rintro e w2 ⟨rfl, hb2⟩
    obtain ⟨d0, d1, g0, g1⟩ := hz1.later hb2
    go_wp2
    exact bodyPost_ret (v := .agg #[.bool true, .int .i64 0]) (by simp [results, Try.results46, go_sem, d0, d1]) rfl ⟨by rw [HR.out]; rfl, put2 (Below.chain hb1' hb2) (by omega) _ _⟩
  | false =>
    rw [hN0] at hno
    obtain ⟨e1, e2⟩ := both_nums hn.1 hm.1 hN0
    rw [e1, e2]
    have hs := fun w => over_any (decide (n < 0) != decide (m < 0)) n.natAbs m.natAbs 1000000 w (abs_lt hn) (abs_lt hm) (by omega)
    rw [scale_mul] at hs
    clear e1 e2 hN0
    go_enter Try.func46, Try.ntmps46
    go_wp2_with fail
    refine (hno _).mono ?_
    rintro e w1 ⟨rfl, hb1⟩
    obtain ⟨hx, hy, hz, hb⟩ := key _ hb1
    have x1 := hy.c1
    go_wp2_with fail
    clear x1
    have hzl := hz.lt
    have m0 : ∀ W, Below (w.heap.size + 2) w1 W → W.cell? ⟨w.heap.size, 0, none⟩ = some (.bool o) := fun W h => (h.cell (p := ⟨w.heap.size, 0, none⟩) (by simp)).trans hx.c0
    have m1 : ∀ W, Below (w.heap.size + 2) w1 W → W.cell? ⟨w.heap.size, 1, none⟩ = some (.int .i64 n) := fun W h => (h.cell (p := ⟨w.heap.size, 1, none⟩) (by simp)).trans hx.c1
    have m2 : ∀ W, Below (w.heap.size + 2) w1 W → W.cell? ⟨w.heap.size + 1, 0, none⟩ = some (.bool p) := fun W h => (h.cell (p := ⟨w.heap.size + 1, 0, none⟩) (by simp)).trans hy.c0
    have m3 : ∀ W, Below (w.heap.size + 2) w1 W → W.cell? ⟨w.heap.size + 1, 1, none⟩ = some (.int .i64 m) := fun W h => (h.cell (p := ⟨w.heap.size + 1, 1, none⟩) (by simp)).trans hy.c1
    have B2 : Below (w.heap.size + 2) w1 w1.drew := (Below.refl _ _).drew
    refine wp_region_noPanic ?_
    refine wp_region_held_drew (S := fun W => Below (w.heap.size + 2) w1 W) (by kernel_rfl) ?_ (fun _ => ?_)
    · exact B2
    refine take_at 0 (some 9) (.pointer (some ⟨w.heap.size, 1, none⟩)) rfl rfl (by kernel_rfl) (by kernel_rfl) (by kernel_rfl) (fun _ _ _ h => h) (by rfl) (fun W hSw => by go_simp) B2 ?_
    simp only [Act.put, List.setIfInBounds_toArray, List.set_cons_zero, List.set_cons_succ]
    refine take_at 1 (some 10) (.int .i64 n) rfl rfl (by kernel_rfl) (by kernel_rfl) (by kernel_rfl) (fun _ _ _ h => h) (by rfl) (fun W hSw => by go_simp) B2 ?_
    simp only [Act.put, List.setIfInBounds_toArray, List.set_cons_zero, List.set_cons_succ]
    refine take_at 3 (some 12) (.pointer (some ⟨w.heap.size + 1, 1, none⟩)) rfl rfl (by kernel_rfl) (by kernel_rfl) (by kernel_rfl) (fun _ _ _ h => h) (by rfl) (fun W hSw => by go_simp) B2 ?_
    simp only [Act.put, List.setIfInBounds_toArray, List.set_cons_zero, List.set_cons_succ]
    refine take_at 4 (some 13) (.int .i64 m) rfl rfl (by kernel_rfl) (by kernel_rfl) (by kernel_rfl) (fun _ _ _ h => h) (by rfl) (fun W hSw => by go_simp) B2 ?_
    simp only [Act.put, List.setIfInBounds_toArray, List.set_cons_zero, List.set_cons_succ]
    refine take_at 6 (some 15) (.pointer (some ⟨w.heap.size, 1, none⟩)) rfl rfl (by kernel_rfl) (by kernel_rfl) (by kernel_rfl) (fun _ _ _ h => h) (by rfl) (fun W hSw => by go_simp) B2 ?_
    simp only [Act.put, List.setIfInBounds_toArray, List.set_cons_zero, List.set_cons_succ]
    refine take_at 7 (some 16) (.int .i64 n) rfl rfl (by kernel_rfl) (by kernel_rfl) (by kernel_rfl) (fun _ _ _ h => h) (by rfl) (fun W hSw => by go_simp) B2 ?_
    simp only [Act.put, List.setIfInBounds_toArray, List.set_cons_zero, List.set_cons_succ]
    refine take_at 8 (some 17) (.bool (decide (n < 0))) rfl rfl (by kernel_rfl) (by kernel_rfl) (by kernel_rfl) (fun _ _ _ h => h) (by rfl) (fun W hSw => by go_simp) B2 ?_
    simp only [Act.put, List.setIfInBounds_toArray, List.set_cons_zero, List.set_cons_succ]
    refine take_at 9 (some 18) (.pointer (some ⟨w.heap.size + 1, 1, none⟩)) rfl rfl (by kernel_rfl) (by kernel_rfl) (by kernel_rfl) (fun _ _ _ h => h) (by rfl) (fun W hSw => by go_simp) B2 ?_
    simp only [Act.put, List.setIfInBounds_toArray, List.set_cons_zero, List.set_cons_succ]
    refine take_at 10 (some 19) (.int .i64 m) rfl rfl (by kernel_rfl) (by kernel_rfl) (by kernel_rfl) (fun _ _ _ h => h) (by rfl) (fun W hSw => by go_simp) B2 ?_
    simp only [Act.put, List.setIfInBounds_toArray, List.set_cons_zero, List.set_cons_succ]
    refine take_at 11 (some 20) (.bool (decide (m < 0))) rfl rfl (by kernel_rfl) (by kernel_rfl) (by kernel_rfl) (fun _ _ _ h => h) (by rfl) (fun W hSw => by go_simp) B2 ?_
    simp only [Act.put, List.setIfInBounds_toArray, List.set_cons_zero, List.set_cons_succ]
    refine take_at 12 (some 21) (.bool (decide (n < 0) != decide (m < 0))) rfl rfl (by kernel_rfl) (by kernel_rfl) (by kernel_rfl) (fun _ _ _ h => h) (by rfl) (fun W hSw => by go_simp; cases decide (n < 0) <;> cases decide (m < 0) <;> rfl) B2 ?_
    simp only [Act.put, List.setIfInBounds_toArray, List.set_cons_zero, List.set_cons_succ]
    refine wpAnyH_ready (rs := [2]) (by kernel_rfl) (by simp) ?_
    refine AllReadyH.cons rfl (fun K hK => ?_) AllReadyH.nil
    go_simp
    refine (size_any _ _ hn.1 hn.2).mono ?_
    rintro e w5 ⟨rfl, rfl⟩
    refine hK.out _ _ ?_ (fun _ => ?_)
    · exact B2
    clear hK K
    refine wpAnyH_ready (rs := [5]) (by kernel_rfl) (by simp) ?_
    refine AllReadyH.cons rfl (fun K hK => ?_) AllReadyH.nil
    go_simp
    refine (size_any _ _ hm.1 hm.2).mono ?_
    rintro e w5 ⟨rfl, rfl⟩
    refine hK.out _ _ ?_ (fun _ => ?_)
    · exact B2
    clear hK K
    refine wpAnyH_ready (rs := [13]) (by kernel_rfl) (by simp) ?_
    refine AllReadyH.cons rfl (fun K hK => ?_) AllReadyH.nil
    go_simp
    refine (hs _).mono ?_
    rintro e w6 ⟨rfl, hb6⟩
    have C4 := Below.chain (Below.refl _ w1).drew hb6
    have B3 : Below (w.heap.size + 2) w1 w6 := C4.mono (by omega)
    refine hK.out _ _ ?_ (fun _ => ?_)
    · exact B3
    clear hK K
    have hz6 := hz.later C4
    have c0 := hz6.c0
    have c1 := hz6.c1
    have f0 := hz6.f0
    have f1 := hz6.f1
    refine wpAnyH_ready (rs := [14]) (by kernel_rfl) (by simp) ?_
    refine AllReadyH.cons rfl (fun K hK => ?_) AllReadyH.nil
    go_simp
    refine hK.out _ _ ?_ (fun _ => ?_)
    · exact put2 B3 (by omega) _ _
    clear hK K
    refine wpAnyH_done (by kernel_rfl) ?_ _
    refine NoPanic.normal ?_
    go_wp2
    exact bodyPost_ret (v := .agg #[.bool (ov (fMul (some n) (some m))), .int .i64 (nn (fMul (some n) (some m)))]) (by simp [results, Try.results46, go_sem, c0, c1]) rfl ⟨rfl, put2 (Below.chain hb C4) (by omega) _ _⟩

set_option maxHeartbeats 4000000 in
theorem rquo_any (o p : Bool) (n m : Int) (w : World) (hn : R64 n) (hm : R64 m) : Calls Try.prog 16 #[.agg #[.bool o, .int .i64 n], .agg #[.bool p, .int .i64 m]] w fun e w' => e = .returned (.agg #[.bool (ov (fDiv (cnt o n) (cnt p m))), .int .i64 (nn (fDiv (cnt o n) (cnt p m)))]) ∧ Below w.heap.size w w' := by
  obtain ⟨hx, hy, hz, hb⟩ := boxes3 w o p false n m 0
  have key : ∀ w1, Below (((w.alloc (.cells #[.bool o, .int .i64 n] 28)).alloc (.cells #[.bool p, .int .i64 m] 28)).alloc (.cells #[.bool false, .int .i64 0] 28)).heap.size (((w.alloc (.cells #[.bool o, .int .i64 n] 28)).alloc (.cells #[.bool p, .int .i64 m] 28)).alloc (.cells #[.bool false, .int .i64 0] 28)) w1 → Box w1 w.heap.size o n ∧ Box w1 (w.heap.size + 1) p m ∧ Box w1 (w.heap.size + 2) false 0 ∧ Below w.heap.size w w1 := fun w1 h1 => ⟨hx.later h1, hy.later h1, hz.later h1, Below.chain hb h1⟩
  clear hx hy hz
  have hno := fun w => none_any o p n m w hn hm
  cases hN0 : nov (cnt o n) (cnt p m) with
  | true =>
    rw [hN0] at hno
    have HR : Hid (fDiv (cnt o n) (cnt p m) = none) := by
      show _ = _
      unfold nov at hN0
      revert hN0
      generalize cnt o n = x
      generalize cnt p m = y
      intro hN0
      cases x <;> cases y <;> first | rfl | cases hN0
    go_enter Try.func16, Try.ntmps16
    go_wp2_with fail
    refine (hno _).mono ?_
    rintro e w1 ⟨rfl, hb1⟩
    obtain ⟨_, _, hz1, hb1'⟩ := key _ hb1
    go_wp2_with fail
    refine (ovf_any _).mono ?_
    rintro e w2 ⟨rfl, hb2⟩
    obtain ⟨d0, d1, g0, g1⟩ := hz1.later hb2
    go_wp2
    exact bodyPost_ret (v := .agg #[.bool true, .int .i64 0]) (by simp [results, Try.results16, go_sem, d0, d1]) rfl ⟨by rw [HR.out]; rfl, put2 (Below.chain hb1' hb2) (by omega) _ _⟩
  | false =>
    rw [hN0] at hno
    obtain ⟨e1, e2⟩ := both_nums hn.1 hm.1 hN0
    rw [e1, e2]
    have hs := fun w => over_any (decide (n < 0) != decide (m < 0)) n.natAbs 1000000 m.natAbs w (abs_lt hn) (by omega) (abs_lt hm)
    rw [scale_div] at hs
    clear e1 e2 hN0
    by_cases hz0 : m = 0
    · subst hz0
      have HR : Hid (fDiv (some n) (some 0) = none) := rfl
      go_enter Try.func16, Try.ntmps16
      go_wp2_with fail
      refine (hno _).mono ?_
      rintro e w1 ⟨rfl, hb1⟩
      obtain ⟨_, ⟨c0, c1, _, _⟩, hz1, hb1'⟩ := key _ hb1
      go_wp2_with fail
      refine (ovf_any _).mono ?_
      rintro e w2 ⟨rfl, hb2⟩
      obtain ⟨d0, d1, g0, g1⟩ := hz1.later hb2
      go_wp2
      exact bodyPost_ret (v := .agg #[.bool true, .int .i64 0]) (by simp [results, Try.results16, go_sem, d0, d1]) rfl ⟨by rw [HR.out]; rfl, put2 (Below.chain hb1' hb2) (by omega) _ _⟩
    have hz0' : (m == 0) = false := by simpa using hz0
    go_enter Try.func16, Try.ntmps16
    go_wp2_with fail
    refine (hno _).mono ?_
    rintro e w1 ⟨rfl, hb1⟩
    obtain ⟨hx, hy, hz, hb⟩ := key _ hb1
    have x1 := hy.c1
    go_wp2_with fail
    clear x1
    have hzl := hz.lt
    have m0 : ∀ W, Below (w.heap.size + 2) w1 W → W.cell? ⟨w.heap.size, 0, none⟩ = some (.bool o) := fun W h => (h.cell (p := ⟨w.heap.size, 0, none⟩) (by simp)).trans hx.c0
    have m1 : ∀ W, Below (w.heap.size + 2) w1 W → W.cell? ⟨w.heap.size, 1, none⟩ = some (.int .i64 n) := fun W h => (h.cell (p := ⟨w.heap.size, 1, none⟩) (by simp)).trans hx.c1
    have m2 : ∀ W, Below (w.heap.size + 2) w1 W → W.cell? ⟨w.heap.size + 1, 0, none⟩ = some (.bool p) := fun W h => (h.cell (p := ⟨w.heap.size + 1, 0, none⟩) (by simp)).trans hy.c0
    have m3 : ∀ W, Below (w.heap.size + 2) w1 W → W.cell? ⟨w.heap.size + 1, 1, none⟩ = some (.int .i64 m) := fun W h => (h.cell (p := ⟨w.heap.size + 1, 1, none⟩) (by simp)).trans hy.c1
    have B2 : Below (w.heap.size + 2) w1 w1.drew := (Below.refl _ _).drew
    refine wp_region_noPanic ?_
    refine wp_region_held_drew (S := fun W => Below (w.heap.size + 2) w1 W) (by kernel_rfl) ?_ (fun _ => ?_)
    · exact B2
    refine take_at 0 (some 14) (.pointer (some ⟨w.heap.size, 1, none⟩)) rfl rfl (by kernel_rfl) (by kernel_rfl) (by kernel_rfl) (fun _ _ _ h => h) (by rfl) (fun W hSw => by go_simp) B2 ?_
    simp only [Act.put, List.setIfInBounds_toArray, List.set_cons_zero, List.set_cons_succ]
    refine take_at 1 (some 15) (.int .i64 n) rfl rfl (by kernel_rfl) (by kernel_rfl) (by kernel_rfl) (fun _ _ _ h => h) (by rfl) (fun W hSw => by go_simp) B2 ?_
    simp only [Act.put, List.setIfInBounds_toArray, List.set_cons_zero, List.set_cons_succ]
    refine take_at 3 (some 17) (.pointer (some ⟨w.heap.size + 1, 1, none⟩)) rfl rfl (by kernel_rfl) (by kernel_rfl) (by kernel_rfl) (fun _ _ _ h => h) (by rfl) (fun W hSw => by go_simp) B2 ?_
    simp only [Act.put, List.setIfInBounds_toArray, List.set_cons_zero, List.set_cons_succ]
    refine take_at 4 (some 18) (.int .i64 m) rfl rfl (by kernel_rfl) (by kernel_rfl) (by kernel_rfl) (fun _ _ _ h => h) (by rfl) (fun W hSw => by go_simp) B2 ?_
    simp only [Act.put, List.setIfInBounds_toArray, List.set_cons_zero, List.set_cons_succ]
    refine take_at 6 (some 20) (.pointer (some ⟨w.heap.size, 1, none⟩)) rfl rfl (by kernel_rfl) (by kernel_rfl) (by kernel_rfl) (fun _ _ _ h => h) (by rfl) (fun W hSw => by go_simp) B2 ?_
    simp only [Act.put, List.setIfInBounds_toArray, List.set_cons_zero, List.set_cons_succ]
    refine take_at 7 (some 21) (.int .i64 n) rfl rfl (by kernel_rfl) (by kernel_rfl) (by kernel_rfl) (fun _ _ _ h => h) (by rfl) (fun W hSw => by go_simp) B2 ?_
    simp only [Act.put, List.setIfInBounds_toArray, List.set_cons_zero, List.set_cons_succ]
    refine take_at 8 (some 22) (.bool (decide (n < 0))) rfl rfl (by kernel_rfl) (by kernel_rfl) (by kernel_rfl) (fun _ _ _ h => h) (by rfl) (fun W hSw => by go_simp) B2 ?_
    simp only [Act.put, List.setIfInBounds_toArray, List.set_cons_zero, List.set_cons_succ]
    refine take_at 9 (some 23) (.pointer (some ⟨w.heap.size + 1, 1, none⟩)) rfl rfl (by kernel_rfl) (by kernel_rfl) (by kernel_rfl) (fun _ _ _ h => h) (by rfl) (fun W hSw => by go_simp) B2 ?_
    simp only [Act.put, List.setIfInBounds_toArray, List.set_cons_zero, List.set_cons_succ]
    refine take_at 10 (some 24) (.int .i64 m) rfl rfl (by kernel_rfl) (by kernel_rfl) (by kernel_rfl) (fun _ _ _ h => h) (by rfl) (fun W hSw => by go_simp) B2 ?_
    simp only [Act.put, List.setIfInBounds_toArray, List.set_cons_zero, List.set_cons_succ]
    refine take_at 11 (some 25) (.bool (decide (m < 0))) rfl rfl (by kernel_rfl) (by kernel_rfl) (by kernel_rfl) (fun _ _ _ h => h) (by rfl) (fun W hSw => by go_simp) B2 ?_
    simp only [Act.put, List.setIfInBounds_toArray, List.set_cons_zero, List.set_cons_succ]
    refine take_at 12 (some 26) (.bool (decide (n < 0) != decide (m < 0))) rfl rfl (by kernel_rfl) (by kernel_rfl) (by kernel_rfl) (fun _ _ _ h => h) (by rfl) (fun W hSw => by go_simp; cases decide (n < 0) <;> cases decide (m < 0) <;> rfl) B2 ?_
    simp only [Act.put, List.setIfInBounds_toArray, List.set_cons_zero, List.set_cons_succ]
    refine wpAnyH_ready (rs := [2]) (by kernel_rfl) (by simp) ?_
    refine AllReadyH.cons rfl (fun K hK => ?_) AllReadyH.nil
    go_simp
    refine (size_any _ _ hn.1 hn.2).mono ?_
    rintro e w5 ⟨rfl, rfl⟩
    refine hK.out _ _ ?_ (fun _ => ?_)
    · exact B2
    clear hK K
    refine wpAnyH_ready (rs := [5]) (by kernel_rfl) (by simp) ?_
    refine AllReadyH.cons rfl (fun K hK => ?_) AllReadyH.nil
    go_simp
    refine (size_any _ _ hm.1 hm.2).mono ?_
    rintro e w5 ⟨rfl, rfl⟩
    refine hK.out _ _ ?_ (fun _ => ?_)
    · exact B2
    clear hK K
    refine wpAnyH_ready (rs := [13]) (by kernel_rfl) (by simp) ?_
    refine AllReadyH.cons rfl (fun K hK => ?_) AllReadyH.nil
    go_simp
    refine (hs _).mono ?_
    rintro e w6 ⟨rfl, hb6⟩
    have C4 := Below.chain (Below.refl _ w1).drew hb6
    have B3 : Below (w.heap.size + 2) w1 w6 := C4.mono (by omega)
    refine hK.out _ _ ?_ (fun _ => ?_)
    · exact B3
    clear hK K
    have hz6 := hz.later C4
    have c0 := hz6.c0
    have c1 := hz6.c1
    have f0 := hz6.f0
    have f1 := hz6.f1
    refine wpAnyH_ready (rs := [14]) (by kernel_rfl) (by simp) ?_
    refine AllReadyH.cons rfl (fun K hK => ?_) AllReadyH.nil
    go_simp
    refine hK.out _ _ ?_ (fun _ => ?_)
    · exact put2 B3 (by omega) _ _
    clear hK K
    refine wpAnyH_done (by kernel_rfl) ?_ _
    refine NoPanic.normal ?_
    go_wp2
    exact bodyPost_ret (v := .agg #[.bool (ov (fDiv (some n) (some m))), .int .i64 (nn (fDiv (some n) (some m)))]) (by simp [results, Try.results16, go_sem, c0, c1]) rfl ⟨rfl, put2 (Below.chain hb C4) (by omega) _ _⟩

theorem of_mul (n : Int) (hn : R64 n) : fMul (cnt false n) (some 1000000000000) = fOf n := by
  unfold fOf
  by_cases h : n = -9223372036854775808
  · subst h
    have e : cnt false (-9223372036854775808) = none := by decide +kernel
    rw [e]
    decide +kernel
  · rw [ex_cnt _ (by have := hn.1; omega)]
    show norm _ = norm _
    have : n * 1000000000000 = (n * 1000000) * 1000000 := by omega
    rw [this, Int.mul_tdiv_cancel _ (by decide)]
set_option maxHeartbeats 1000000 in
theorem rof_any (n : Int) (w : World) (hn : R64 n) : Calls Try.prog 33 #[.int .i64 n] w fun e w' => e = .returned (.agg #[.bool (ov (fOf n)), .int .i64 (nn (fOf n))]) ∧ Below w.heap.size w w' := by
  have hx := Box.new w false 0
  have hb0 : Below w.heap.size w (w.alloc (.cells #[.bool false, .int .i64 0] 28)) := bal (Below.refl _ _) _
  have hs := fun w => rmul_any false false n 1000000000000 w hn ⟨by decide, by decide⟩
  rw [ex_cnt 1000000000000 (by decide), of_mul n hn] at hs
  go_enter Try.func33, Try.ntmps33
  go_wp2_with fail
  refine (hs _).mono ?_
  rintro e w1 ⟨rfl, hb1⟩
  obtain ⟨c0, c1, f0, f1⟩ := hx.later hb1
  go_wp2
  exact bodyPost_ret (v := .agg #[.bool (ov (fOf n)), .int .i64 (nn (fOf n))]) (by simp [results, Try.results33, go_sem, c0, c1]) rfl ⟨rfl, put2 (Below.chain hb0 hb1) (by omega) _ _⟩
end Go.Proofs.Ythcakiibkocheaa
