/- Sub: for every argument. -/
import Derived.Test.YthcakiibkocheaaKn
namespace Go.Proofs.Ythcakiibkocheaa
open Go.RowKit

theorem V.r64 {r : Option Int} (h : V r) : R64 (nn r) := ⟨by have := h.1; omega, h.2⟩
set_option maxHeartbeats 2000000 in
theorem sub_any (o p : Bool) (n m : Int) (w : World) (hn : R64 n) (hm : R64 m) : Calls Try.prog 48 #[.agg #[.bool o, .int .i64 n], .agg #[.bool p, .int .i64 m]] w fun e w' => e = .returned (.agg #[.bool (ov (fAdd (cnt o n) (fNeg (cnt p m)))), .int .i64 (nn (fAdd (cnt o n) (fNeg (cnt p m))))]) ∧ Below w.heap.size w w' := by
  have hv : V (fNeg (cnt p m)) := V.neg (V.cnt hm.1 hm.2)
  have hr := V.r64 hv
  obtain ⟨hx, hy, hz, hb⟩ := boxes3 w o p false n m 0
  go_enter Try.func48, Try.ntmps48
  go_wp2_with fail
  generalize ((w.alloc (.cells #[.bool o, .int .i64 n] 28)).alloc (.cells #[.bool p, .int .i64 m] 28)).alloc (.cells #[.bool false, .int .i64 0] 28) = w1 at *
  have hzl := hz.lt
  have m0 : ∀ W, Below (w.heap.size + 2) w1 W → W.cell? ⟨w.heap.size, 0, none⟩ = some (.bool o) := fun W h => (h.cell (p := ⟨w.heap.size, 0, none⟩) (by simp)).trans hx.c0
  have m1 : ∀ W, Below (w.heap.size + 2) w1 W → W.cell? ⟨w.heap.size, 1, none⟩ = some (.int .i64 n) := fun W h => (h.cell (p := ⟨w.heap.size, 1, none⟩) (by simp)).trans hx.c1
  have m2 : ∀ W, Below (w.heap.size + 2) w1 W → W.cell? ⟨w.heap.size + 1, 0, none⟩ = some (.bool p) := fun W h => (h.cell (p := ⟨w.heap.size + 1, 0, none⟩) (by simp)).trans hy.c0
  have m3 : ∀ W, Below (w.heap.size + 2) w1 W → W.cell? ⟨w.heap.size + 1, 1, none⟩ = some (.int .i64 m) := fun W h => (h.cell (p := ⟨w.heap.size + 1, 1, none⟩) (by simp)).trans hy.c1
  have B2 : Below (w.heap.size + 2) w1 w1.drew := (Below.refl _ _).drew
  refine wp_region_noPanic ?_
  refine wp_region_held_drew (S := fun W => Below (w.heap.size + 2) w1 W) (by kernel_rfl) ?_ (fun _ => ?_)
  · exact B2
  refine take_at 0 (some 5) (.agg #[.bool o, .int .i64 n]) rfl rfl (by kernel_rfl) (by kernel_rfl) (by kernel_rfl) (fun _ _ _ h => h) (by rfl) (fun W hSw => by go_simp) B2 ?_
  simp only [Act.put, List.setIfInBounds_toArray, List.set_cons_zero, List.set_cons_succ]
  refine take_at 1 (some 6) (.agg #[.bool p, .int .i64 m]) rfl rfl (by kernel_rfl) (by kernel_rfl) (by kernel_rfl) (fun _ _ _ h => h) (by rfl) (fun W hSw => by go_simp) B2 ?_
  simp only [Act.put, List.setIfInBounds_toArray, List.set_cons_zero, List.set_cons_succ]
  refine wpAnyH_ready (rs := [2]) (by kernel_rfl) (by simp) ?_
  refine AllReadyH.cons rfl (fun K hK => ?_) AllReadyH.nil
  go_simp
  refine (neg_any _ _ _ hm.1 hm.2).mono ?_
  rintro e w2 ⟨rfl, hb2⟩
  have C2 := Below.chain (Below.refl _ w1).drew hb2
  have B3 : Below (w.heap.size + 2) w1 w2 := C2.mono (by omega)
  refine hK.out _ _ ?_ (fun _ => ?_)
  · exact B3
  clear hK K
  have C3 := bal C2 (.cells #[.bool o, .int .i64 n, .bool (ov (fNeg (cnt p m))), .int .i64 (nn (fNeg (cnt p m)))] 28)
  refine wpAnyH_ready (rs := [3]) (by kernel_rfl) (by simp) ?_
  refine AllReadyH.cons rfl (fun K hK => ?_) AllReadyH.nil
  go_simp
  refine hK.out _ _ ?_ (fun _ => ?_)
  · exact C3.mono (by omega)
  clear hK K
  refine wpAnyH_ready (rs := [4]) (by kernel_rfl) (by simp) ?_
  refine AllReadyH.cons rfl (fun K hK => ?_) AllReadyH.nil
  go_simp
  refine (sum_two _ _ _ _ _ _ hn hr (by simp)).mono ?_
  rintro e w3 ⟨rfl, hb3⟩
  rw [cnt_val hv]
  have C4 := Below.chain C2 hb3
  have B4 : Below (w.heap.size + 2) w1 w3 := C4.mono (by omega)
  refine hK.out _ _ ?_ (fun _ => ?_)
  · exact B4
  clear hK K
  have hz6 := hz.later C4
  have c0 := hz6.c0
  have c1 := hz6.c1
  have f0 := hz6.f0
  have f1 := hz6.f1
  refine wpAnyH_ready (rs := [5]) (by kernel_rfl) (by simp) ?_
  refine AllReadyH.cons rfl (fun K hK => ?_) AllReadyH.nil
  go_simp
  refine hK.out _ _ ?_ (fun _ => ?_)
  · exact put2 B4 (by omega) _ _
  clear hK K
  refine wpAnyH_done (by kernel_rfl) ?_ _
  refine NoPanic.normal ?_
  go_wp2
  exact bodyPost_ret (v := .agg #[.bool (ov (fAdd (cnt o n) (fNeg (cnt p m)))), .int .i64 (nn (fAdd (cnt o n) (fNeg (cnt p m))))]) (by simp [results, Try.results48, go_sem, c0, c1]) rfl ⟨rfl, put2 (Below.chain hb C4) (by omega) _ _⟩
end Go.Proofs.Ythcakiibkocheaa
