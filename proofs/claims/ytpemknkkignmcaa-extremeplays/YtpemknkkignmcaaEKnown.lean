/- known: the document's own example comes out as it is told. -/
import Derived.Test.YtpemknkkignmcaaEFace
import Derived.LoopN
namespace Go.Proofs.Ytpemknkkignmcaa
open Go.RowKit

theorem ix0 (w : World) : (Instr.index 55 (.agg #[.int .i64 3, .int .i64 1, .int .i64 2]) (.int .i64 0)).run Try.prog w = .ok (.int .i64 3) w := by kernel_rfl
theorem ix1 (w : World) : (Instr.index 55 (.agg #[.int .i64 3, .int .i64 1, .int .i64 2]) (.int .i64 1)).run Try.prog w = .ok (.int .i64 1) w := by kernel_rfl
theorem ix2 (w : World) : (Instr.index 55 (.agg #[.int .i64 3, .int .i64 1, .int .i64 2]) (.int .i64 2)).run Try.prog w = .ok (.int .i64 2) w := by kernel_rfl
set_option maxHeartbeats 2000000 in
theorem known_any (w : World) : Calls Try.prog 6 #[] w fun e w' => e = .returned (.bool true) ∧ Below w.heap.size w w' := by
  have hi0 := ix0
  have hi1 := ix1
  have hi2 := ix2
  go_enter Try.func6, Try.ntmps6
  go_wp2_with fail
  refine (new_st 10 true _).mono ?_
  rintro e w1 ⟨rfl, hs, hb⟩
  rw [show clamp 10 = 10 by decide +kernel] at hs
  go_wp2_with fail
  refine wp_loop_rounds 4 ?_
  rw [rounds_succ]
  go_wp2_with fail
  refine (adv_st _ _ _ _ 0 true _ hs).mono ?_
  rintro e w2 ⟨rfl, hs2, hg⟩
  have hs2' : St w2 w.heap.size [] 10 0 true := by rw [show onw 0 0 = 0 by decide +kernel] at hs2; exact hs2
  have hb2 := grown_above hb hg hb.size (Nat.le_refl _)
  clear hs hg hb hs2
  go_wp2_with fail
  refine (kn_of 3 3000000 (by decide +kernel) (r64_lit rfl) _).mono ?_
  rintro e w3 ⟨rfl, hb3⟩
  have hs3 := hs2'.later hb3
  have hb3' := Below.chain hb2 hb3
  clear hs2' hb2 hb3
  go_wp2_with fail
  refine (add_st _ _ _ _ true (0, false, 3000000) _ hs3 (r64_lit rfl)).mono ?_
  rw [show adE [] 10 0 ((0, false, 3000000) : Smp).1 = 0 by decide +kernel, show adL [] 10 0 (0, false, 3000000) = [(0, false, 3000000)] by decide +kernel]
  rintro e w4 ⟨rfl, hs, hg⟩
  have hb := grown_above hb3' hg hb3'.size (Nat.le_refl _)
  clear hs3 hb3' hg
  go_wp2_with fail
  rw [rounds_succ]
  go_wp2_with fail
  refine (adv_st _ _ _ _ 1 true _ hs).mono ?_
  rintro e w5 ⟨rfl, hs5, hg⟩
  have hs5' : St w5 w.heap.size [(0, false, 3000000)] 10 1 true := by rw [show onw 0 1 = 1 by decide +kernel] at hs5; exact hs5
  have hb5 := grown_above hb hg hb.size (Nat.le_refl _)
  clear hs hg hb hs5
  go_wp2_with fail
  refine (kn_of 1 1000000 (by decide +kernel) (r64_lit rfl) _).mono ?_
  rintro e w6 ⟨rfl, hb6⟩
  have hs6 := hs5'.later hb6
  have hb6' := Below.chain hb5 hb6
  clear hs5' hb5 hb6
  go_wp2_with fail
  refine (add_st _ _ _ _ true (1, false, 1000000) _ hs6 (r64_lit rfl)).mono ?_
  rw [show adE [(0, false, 3000000)] 10 1 ((1, false, 1000000) : Smp).1 = 0 by decide +kernel, show adL [(0, false, 3000000)] 10 1 (1, false, 1000000) = [(0, false, 3000000), (1, false, 1000000)] by decide +kernel]
  rintro e w7 ⟨rfl, hs, hg⟩
  have hb := grown_above hb6' hg hb6'.size (Nat.le_refl _)
  clear hs6 hb6' hg
  go_wp2_with fail
  rw [rounds_succ]
  go_wp2_with fail
  refine (adv_st _ _ _ _ 2 true _ hs).mono ?_
  rintro e w8 ⟨rfl, hs8, hg⟩
  have hs8' : St w8 w.heap.size [(0, false, 3000000), (1, false, 1000000)] 10 2 true := by rw [show onw 1 2 = 2 by decide +kernel] at hs8; exact hs8
  have hb8 := grown_above hb hg hb.size (Nat.le_refl _)
  clear hs hg hb hs8
  go_wp2_with fail
  refine (kn_of 2 2000000 (by decide +kernel) (r64_lit rfl) _).mono ?_
  rintro e w9 ⟨rfl, hb9⟩
  have hs9 := hs8'.later hb9
  have hb9' := Below.chain hb8 hb9
  clear hs8' hb8 hb9
  go_wp2_with fail
  refine (add_st _ _ _ _ true (2, false, 2000000) _ hs9 (r64_lit rfl)).mono ?_
  rw [show adE [(0, false, 3000000), (1, false, 1000000)] 10 2 ((2, false, 2000000) : Smp).1 = 0 by decide +kernel, show adL [(0, false, 3000000), (1, false, 1000000)] 10 2 (2, false, 2000000) = [(0, false, 3000000), (1, false, 1000000), (2, false, 2000000)] by decide +kernel]
  rintro e w10 ⟨rfl, hs, hg⟩
  have hb := grown_above hb9' hg hb9'.size (Nat.le_refl _)
  clear hs9 hb9' hg
  go_wp2_with fail
  rw [rounds_succ]
  go_wp2_with fail
  refine (get_st _ _ _ _ _ _ hs).mono ?_
  rw [show bst true [(0, false, 3000000), (1, false, 1000000), (2, false, 2000000)] = (0, false, 3000000) by decide +kernel]
  rintro e w11 ⟨rfl, hb11⟩
  have hs11 := (hs.later hb11).later (bal (Below.refl _ _) (.cells #[.bool false, .int .i64 3000000] 28))
  have hb11' := bal (Below.chain hb hb11) (.cells #[.bool false, .int .i64 3000000] 28)
  have x4 := Box.new w11 false 3000000
  have hB4 : w11.heap.size ≠ w.heap.size := by have := hs.lt; have := hb11.size; omega
  clear hs hb hb11
  go_wp2_with fail
  generalize w11.heap.size = B4 at *
  generalize w11.alloc (.cells #[.bool false, .int .i64 3000000] 28) = w12 at *
  refine (adv_st _ _ _ _ 10 true _ hs11).mono ?_
  rintro e w13 ⟨rfl, hs13, hg13⟩
  have hs13' : St w13 w.heap.size [(1, false, 1000000), (2, false, 2000000)] 10 10 true := by rw [show onw 2 10 = 10 by decide +kernel, show fg (10 - 10) [(0, false, 3000000), (1, false, 1000000), (2, false, 2000000)] = [(1, false, 1000000), (2, false, 2000000)] by decide +kernel] at hs13; exact hs13
  have hb13 := grown_above hb11' hg13 hb11'.size (Nat.le_refl _)
  have x4a := x4.kept hg13 (by simp; omega)
  clear hs11 hb11' hg13 hs13 x4
  go_wp2_with fail
  refine (get_st _ _ _ _ _ _ hs13').mono ?_
  rw [show bst true [(1, false, 1000000), (2, false, 2000000)] = (2, false, 2000000) by decide +kernel]
  rintro e w14 ⟨rfl, hb14⟩
  have hs14 := (hs13'.later hb14).later (bal (Below.refl _ _) (.cells #[.bool false, .int .i64 2000000] 28))
  have hb14' := bal (Below.chain hb13 hb14) (.cells #[.bool false, .int .i64 2000000] 28)
  have x4b := (x4a.later hb14).later (bal (Below.refl _ _) (.cells #[.bool false, .int .i64 2000000] 28))
  have x6a := Box.new w14 false 2000000
  clear hs13' hb13 hb14 x4a
  go_wp2_with fail
  generalize w14.heap.size = B6 at *
  generalize w14.alloc (.cells #[.bool false, .int .i64 2000000] 28) = w15 at *
  have x301 : w15.drew.cell? ⟨w.heap.size, 301, none⟩ = some (.int .i64 1) := hs14.cc
  have x4 : Box w15.drew B4 false 3000000 := x4b.later (Below.refl _ _).drew
  have x6 : Box w15.drew B6 false 2000000 := x6a.later (Below.refl _ _).drew
  have hbz : Below w.heap.size w w15.drew := hb14'.trans (Below.refl _ _).drew
  clear hs14 hb14' x4b x6a
  have hS0 : (fun W : World => W.cell? ⟨w.heap.size, 301, none⟩ = some (Value.int .i64 1) ∧ Box W B4 false 3000000 ∧ Box W B6 false 2000000) _ := ⟨x301, x4, x6⟩
  refine wp_region_noPanic ?_
  refine wp_region_held_drew (S := fun W : World => W.cell? ⟨w.heap.size, 301, none⟩ = some (Value.int .i64 1) ∧ Box W B4 false 3000000 ∧ Box W B6 false 2000000) (by kernel_rfl) hS0 (fun _ => ?_)
  refine take_at 0 (some 43) (.bool true) rfl rfl (by kernel_rfl) (by kernel_rfl) (by kernel_rfl) (fun _ _ _ h => h) (by rfl) (fun W hSw => by obtain ⟨q0, ⟨q1, q2, _, _⟩, ⟨q3, q4, _, _⟩⟩ := hSw; go_simp) hS0 ?_
  simp only [Act.put, List.setIfInBounds_toArray, List.set_cons_zero, List.set_cons_succ]
  refine take_at 1 (some 44) (.bool true) rfl rfl (by kernel_rfl) (by kernel_rfl) (by kernel_rfl) (fun _ _ _ h => h) (by rfl) (fun W hSw => by obtain ⟨q0, ⟨q1, q2, _, _⟩, ⟨q3, q4, _, _⟩⟩ := hSw; go_simp) hS0 ?_
  simp only [Act.put, List.setIfInBounds_toArray, List.set_cons_zero, List.set_cons_succ]
  refine take_at 2 (some 45) (.agg #[.bool false, .int .i64 3000000]) rfl rfl (by kernel_rfl) (by kernel_rfl) (by kernel_rfl) (fun _ _ _ h => h) (by rfl) (fun W hSw => by obtain ⟨q0, ⟨q1, q2, _, _⟩, ⟨q3, q4, _, _⟩⟩ := hSw; go_simp) hS0 ?_
  simp only [Act.put, List.setIfInBounds_toArray, List.set_cons_zero, List.set_cons_succ]
  refine wpAnyH_ready (rs := [3]) (by kernel_rfl) (by simp) ?_
  refine AllReadyH.cons rfl (fun K hK => ?_) AllReadyH.nil
  go_simp
  refine (kn_of 3 3000000 (by decide +kernel) (r64_lit rfl) _).mono ?_
  rintro e w10 ⟨rfl, hb10⟩
  have x301_a := (hb10.cell (World.block_lt_of_cell? _ _ x301)).trans x301
  have x4_a := x4.later hb10
  have x6_a := x6.later hb10
  clear x301 x4 x6
  have x301 := x301_a
  have x4 := x4_a
  have x6 := x6_a
  clear x301_a x4_a x6_a
  have hS_a := (⟨x301, x4, x6⟩ : (fun W : World => W.cell? ⟨w.heap.size, 301, none⟩ = some (Value.int .i64 1) ∧ Box W B4 false 3000000 ∧ Box W B6 false 2000000) w10)
  refine hK.out _ _ hS_a (fun _ => ?_)
  clear hK K
  refine take_at 4 (some 47) (.bool true) rfl rfl (by kernel_rfl) (by kernel_rfl) (by kernel_rfl) (fun _ _ _ h => h) (by rfl) (fun W hSw => by obtain ⟨q0, ⟨q1, q2, _, _⟩, ⟨q3, q4, _, _⟩⟩ := hSw; go_simp) hS_a ?_
  simp only [Act.put, List.setIfInBounds_toArray, List.set_cons_zero, List.set_cons_succ]
  refine take_at 5 (some 48) (.bool true) rfl rfl (by kernel_rfl) (by kernel_rfl) (by kernel_rfl) (fun _ _ _ h => h) (by rfl) (fun W hSw => by obtain ⟨q0, ⟨q1, q2, _, _⟩, ⟨q3, q4, _, _⟩⟩ := hSw; go_simp) hS_a ?_
  simp only [Act.put, List.setIfInBounds_toArray, List.set_cons_zero, List.set_cons_succ]
  refine take_at 6 (some 49) (.bool true) rfl rfl (by kernel_rfl) (by kernel_rfl) (by kernel_rfl) (fun _ _ _ h => h) (by rfl) (fun W hSw => by obtain ⟨q0, ⟨q1, q2, _, _⟩, ⟨q3, q4, _, _⟩⟩ := hSw; go_simp) hS_a ?_
  simp only [Act.put, List.setIfInBounds_toArray, List.set_cons_zero, List.set_cons_succ]
  refine take_at 7 (some 50) (.pointer (some ⟨w.heap.size, 0, none⟩)) rfl rfl (by kernel_rfl) (by kernel_rfl) (by kernel_rfl) (fun _ _ _ h => h) (by rfl) (fun W hSw => by obtain ⟨q0, ⟨q1, q2, _, _⟩, ⟨q3, q4, _, _⟩⟩ := hSw; go_simp) hS_a ?_
  simp only [Act.put, List.setIfInBounds_toArray, List.set_cons_zero, List.set_cons_succ]
  refine take_at 8 (some 51) (.pointer (some ⟨w.heap.size, 0, none⟩)) rfl rfl (by kernel_rfl) (by kernel_rfl) (by kernel_rfl) (fun _ _ _ h => h) (by rfl) (fun W hSw => by obtain ⟨q0, ⟨q1, q2, _, _⟩, ⟨q3, q4, _, _⟩⟩ := hSw; go_simp) hS_a ?_
  simp only [Act.put, List.setIfInBounds_toArray, List.set_cons_zero, List.set_cons_succ]
  refine take_at 9 (some 52) (.pointer (some ⟨w.heap.size, 0, none⟩)) rfl rfl (by kernel_rfl) (by kernel_rfl) (by kernel_rfl) (fun _ _ _ h => h) (by rfl) (fun W hSw => by obtain ⟨q0, ⟨q1, q2, _, _⟩, ⟨q3, q4, _, _⟩⟩ := hSw; go_simp) hS_a ?_
  simp only [Act.put, List.setIfInBounds_toArray, List.set_cons_zero, List.set_cons_succ]
  refine wpAnyH_ready (rs := [10]) (by kernel_rfl) (by simp) ?_
  refine AllReadyH.cons rfl (fun K hK => ?_) AllReadyH.nil
  go_simp
  refine (kept_cell _ 1 _ x301).mono ?_
  rintro e w11 ⟨rfl, rfl⟩
  have hS_b := (⟨x301, x4, x6⟩ : (fun W : World => W.cell? ⟨w.heap.size, 301, none⟩ = some (Value.int .i64 1) ∧ Box W B4 false 3000000 ∧ Box W B6 false 2000000) _)
  refine hK.out _ _ hS_b (fun _ => ?_)
  clear hK K
  refine take_at 11 (some 54) (.bool true) rfl rfl (by kernel_rfl) (by kernel_rfl) (by kernel_rfl) (fun _ _ _ h => h) (by rfl) (fun W hSw => by obtain ⟨q0, ⟨q1, q2, _, _⟩, ⟨q3, q4, _, _⟩⟩ := hSw; go_simp) hS_b ?_
  simp only [Act.put, List.setIfInBounds_toArray, List.set_cons_zero, List.set_cons_succ]
  refine take_at 12 (some 55) (.bool true) rfl rfl (by kernel_rfl) (by kernel_rfl) (by kernel_rfl) (fun _ _ _ h => h) (by rfl) (fun W hSw => by obtain ⟨q0, ⟨q1, q2, _, _⟩, ⟨q3, q4, _, _⟩⟩ := hSw; go_simp) hS_b ?_
  simp only [Act.put, List.setIfInBounds_toArray, List.set_cons_zero, List.set_cons_succ]
  refine take_at 13 (some 56) (.bool true) rfl rfl (by kernel_rfl) (by kernel_rfl) (by kernel_rfl) (fun _ _ _ h => h) (by rfl) (fun W hSw => by obtain ⟨q0, ⟨q1, q2, _, _⟩, ⟨q3, q4, _, _⟩⟩ := hSw; go_simp) hS_b ?_
  simp only [Act.put, List.setIfInBounds_toArray, List.set_cons_zero, List.set_cons_succ]
  refine take_at 14 (some 57) (.bool true) rfl rfl (by kernel_rfl) (by kernel_rfl) (by kernel_rfl) (fun _ _ _ h => h) (by rfl) (fun W hSw => by obtain ⟨q0, ⟨q1, q2, _, _⟩, ⟨q3, q4, _, _⟩⟩ := hSw; go_simp) hS_b ?_
  simp only [Act.put, List.setIfInBounds_toArray, List.set_cons_zero, List.set_cons_succ]
  refine take_at 15 (some 58) (.bool true) rfl rfl (by kernel_rfl) (by kernel_rfl) (by kernel_rfl) (fun _ _ _ h => h) (by rfl) (fun W hSw => by obtain ⟨q0, ⟨q1, q2, _, _⟩, ⟨q3, q4, _, _⟩⟩ := hSw; go_simp) hS_b ?_
  simp only [Act.put, List.setIfInBounds_toArray, List.set_cons_zero, List.set_cons_succ]
  refine take_at 16 (some 59) (.bool true) rfl rfl (by kernel_rfl) (by kernel_rfl) (by kernel_rfl) (fun _ _ _ h => h) (by rfl) (fun W hSw => by obtain ⟨q0, ⟨q1, q2, _, _⟩, ⟨q3, q4, _, _⟩⟩ := hSw; go_simp) hS_b ?_
  simp only [Act.put, List.setIfInBounds_toArray, List.set_cons_zero, List.set_cons_succ]
  refine take_at 17 (some 60) (.agg #[.bool false, .int .i64 2000000]) rfl rfl (by kernel_rfl) (by kernel_rfl) (by kernel_rfl) (fun _ _ _ h => h) (by rfl) (fun W hSw => by obtain ⟨q0, ⟨q1, q2, _, _⟩, ⟨q3, q4, _, _⟩⟩ := hSw; go_simp) hS_b ?_
  simp only [Act.put, List.setIfInBounds_toArray, List.set_cons_zero, List.set_cons_succ]
  refine wpAnyH_ready (rs := [18]) (by kernel_rfl) (by simp) ?_
  refine AllReadyH.cons rfl (fun K hK => ?_) AllReadyH.nil
  go_simp
  refine (kn_of 2 2000000 (by decide +kernel) (r64_lit rfl) _).mono ?_
  rintro e w12 ⟨rfl, hb12⟩
  have x301_c := (hb12.cell (World.block_lt_of_cell? _ _ x301)).trans x301
  have x4_c := x4.later hb12
  have x6_c := x6.later hb12
  clear x301 x4 x6
  have x301 := x301_c
  have x4 := x4_c
  have x6 := x6_c
  clear x301_c x4_c x6_c
  have hS_c := (⟨x301, x4, x6⟩ : (fun W : World => W.cell? ⟨w.heap.size, 301, none⟩ = some (Value.int .i64 1) ∧ Box W B4 false 3000000 ∧ Box W B6 false 2000000) w12)
  refine hK.out _ _ hS_c (fun _ => ?_)
  clear hK K
  refine take_at 19 (some 62) (.bool true) rfl rfl (by kernel_rfl) (by kernel_rfl) (by kernel_rfl) (fun _ _ _ h => h) (by rfl) (fun W hSw => by obtain ⟨q0, ⟨q1, q2, _, _⟩, ⟨q3, q4, _, _⟩⟩ := hSw; go_simp) hS_c ?_
  simp only [Act.put, List.setIfInBounds_toArray, List.set_cons_zero, List.set_cons_succ]
  refine take_at 20 (some 63) (.bool true) rfl rfl (by kernel_rfl) (by kernel_rfl) (by kernel_rfl) (fun _ _ _ h => h) (by rfl) (fun W hSw => by obtain ⟨q0, ⟨q1, q2, _, _⟩, ⟨q3, q4, _, _⟩⟩ := hSw; go_simp) hS_c ?_
  simp only [Act.put, List.setIfInBounds_toArray, List.set_cons_zero, List.set_cons_succ]
  refine take_at 21 (some 0) (.bool true) rfl rfl (by kernel_rfl) (by kernel_rfl) (by kernel_rfl) (fun _ _ _ h => h) (by rfl) (fun W hSw => by obtain ⟨q0, ⟨q1, q2, _, _⟩, ⟨q3, q4, _, _⟩⟩ := hSw; go_simp) hS_c ?_
  simp only [Act.put, List.setIfInBounds_toArray, List.set_cons_zero]
  refine wpAnyH_done (by kernel_rfl) ?_ _
  refine NoPanic.normal ?_
  go_wp2
  go_ret
  exact ⟨rfl, Below.chain (Below.chain hbz hb10) hb12⟩
end Go.Proofs.Ytpemknkkignmcaa
