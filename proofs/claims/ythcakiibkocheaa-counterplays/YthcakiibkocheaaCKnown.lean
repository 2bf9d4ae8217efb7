/- known: the document's own example comes out as it is told. -/
import Derived.Test.YthcakiibkocheaaCFace
namespace Go.Proofs.Ythcakiibkocheaa
open Go.RowKit

theorem kn_of (n : Int) (m : Int) (h : fOf n = some m) (hn : R64 n) (w : World) : Calls Try.prog 21 #[.int .i64 n] w fun e w' => e = .returned (.agg #[.bool false, .int .i64 m]) ∧ Below w.heap.size w w' := by
  have := of_any n w hn
  rw [h] at this
  exact this
theorem r64_lit {n : Int} (h : (decide (-9223372036854775808 ≤ n) && decide (n ≤ 9223372036854775807)) = true) : R64 n := by
  rw [Bool.and_eq_true, decide_eq_true_eq, decide_eq_true_eq] at h
  exact h
abbrev knL : List Smp := [(0, false, 5000000), (0, false, 7000000), (0, false, 1000000)]
theorem kn_row (ao : Option Addr) (w : World) (hs : Ms w ao 3 knL) : Calls Try.prog 20 #[.slice ao 3 3] w fun e w' => e = .returned (.tuple #[.agg #[.bool false, .int .i64 3000000], .bool true]) ∧ Below w.heap.size w w' := by
  have := of_row ao 3 3 knL w (by omega) hs (by intro s h; simp only [knL, List.mem_cons, List.not_mem_nil, or_false] at h; rcases h with rfl | rfl | rfl <;> exact r64_lit rfl)
  rw [if_neg (by omega), show incP knL = some 3000000 by decide +kernel] at this
  exact this
theorem kn_one (ao : Option Addr) (w : World) (hs : Ms w ao 1 [s0]) : Calls Try.prog 20 #[.slice ao 1 1] w fun e w' => e = .returned (.tuple #[.agg #[.bool false, .int .i64 0], .bool false]) ∧ Below w.heap.size w w' := by
  have := of_row ao 1 1 [s0] w (by omega) hs (by intro s h; simp only [List.mem_cons, List.not_mem_nil, or_false] at h; rcases h with rfl; exact r64_lit rfl)
  rw [if_pos (by omega)] at this
  exact this
theorem kn_lit (w : World) (cs : Array Value) (l : List Smp) (n : Nat) (hl : l.length = n) (hc : cs.toList = cellsS l) : Ms (w.alloc (.cells cs 32)) (some ⟨w.heap.size, 0, none⟩) n l := by
  refine ⟨hl, fun _ => ⟨w.heap.size, 0, rfl, fun j hj => ?_⟩⟩
  have hg := cellsS_get (l := l) (j := j) (by omega)
  have hc' : ∀ i : Nat, (w.alloc (.cells cs 32)).cell? ⟨w.heap.size, i, none⟩ = (cellsS l)[i]? := fun i => by rw [World.cell?_alloc_new, ← hc, Array.getElem?_toList]
  rw [Nat.zero_add, hc', hc', hc']
  exact hg
theorem kn_resets (b : Nat) (w : World) (h : St w b [] 4 0) : Calls Try.prog 18 #[.pointer (some ⟨b, 0, none⟩)] w fun e w' => e = .returned (.int .i64 0) ∧ Below w.heap.size w w' := resets_st b [] 4 0 w h
set_option maxHeartbeats 4000000 in
theorem known_any (w : World) : Calls Try.prog 8 #[] w fun e w' => e = .returned (.bool true) ∧ Below w.heap.size w w' := by
  have hb0 := Below.refl w.heap.size w
  go_enter Try.func8, Try.ntmps8
  go_wp2_with fail
  refine (kn_of 5 5000000 (by decide +kernel) (r64_lit rfl) _).mono ?_
  rintro e w1 ⟨rfl, hb1⟩
  go_wp2_with fail
  refine (kn_of 7 7000000 (by decide +kernel) (r64_lit rfl) _).mono ?_
  rintro e w2 ⟨rfl, hb2⟩
  go_wp2_with fail
  refine (kn_of 1 1000000 (by decide +kernel) (r64_lit rfl) _).mono ?_
  rintro e w3 ⟨rfl, hb3⟩
  have hb4 := bal (Below.chain (Below.chain hb1 hb2) hb3) (.cells #[.int .i64 0, .bool false, .int .i64 5000000, .int .i64 0, .bool false, .int .i64 7000000, .int .i64 0, .bool false, .int .i64 1000000] 32)
  have hm := kn_lit w3 #[.int .i64 0, .bool false, .int .i64 5000000, .int .i64 0, .bool false, .int .i64 7000000, .int .i64 0, .bool false, .int .i64 1000000] knL 3 rfl rfl
  go_wp2_with fail
  generalize w3.alloc (.cells #[.int .i64 0, .bool false, .int .i64 5000000, .int .i64 0, .bool false, .int .i64 7000000, .int .i64 0, .bool false, .int .i64 1000000] 32) = w4 at *
  refine (kn_row _ _ hm).mono ?_
  rintro e w5 ⟨rfl, hb5⟩
  have hb6 := bal (Below.chain hb4 hb5) (.cells #[.bool false, .int .i64 3000000] 28)
  have hx6 := Box.new w5 false 3000000
  have hm7 := kn_lit (w5.alloc (.cells #[.bool false, .int .i64 3000000] 28)) #[.int .i64 0, .bool false, .int .i64 0] [s0] 1 rfl rfl
  rw [show (w5.alloc (.cells #[.bool false, .int .i64 3000000] 28)).heap.size = w5.heap.size + 1 by simp] at hm7
  go_wp2_with fail
  generalize w5.heap.size = B1 at *
  generalize w5.alloc (.cells #[.bool false, .int .i64 3000000] 28) = w6 at *
  have hb7 := bal hb6 (.cells #[.int .i64 0, .bool false, .int .i64 0] 32)
  have hx7 := hx6.later (bal (Below.refl _ _) (.cells #[.int .i64 0, .bool false, .int .i64 0] 32))
  generalize w6.alloc (.cells #[.int .i64 0, .bool false, .int .i64 0] 32) = w7 at *
  refine (kn_one _ _ hm7).mono ?_
  rintro e w8 ⟨rfl, hb8⟩
  have hx8 := (hx7.later hb8).later (bal (Below.refl _ w8) (.cells #[.bool false, .int .i64 0] 28))
  have hb8' := bal (Below.chain hb7 hb8) (.cells #[.bool false, .int .i64 0] 28)
  clear hb0 hb1 hb2 hb3 hb4 hb5 hb6 hb7 hb8 hx6 hx7 hm hm7
  go_wp2_with fail
  generalize w8.alloc (.cells #[.bool false, .int .i64 0] 28) = w9 at *
  refine (new_st 4 _).mono ?_
  rintro e w10 ⟨rfl, hs, hb10⟩
  rw [show clamp 4 = 4 by decide +kernel] at hs
  have hx10 := hx8.later hb10
  have hb10' := Below.chain hb8' hb10
  go_wp2_with fail
  generalize w9.heap.size = B5 at *
  have hbz : Below w.heap.size w w10.drew := hb10'.trans (Below.refl _ _).drew
  have hsz : St w10.drew B5 [] 4 0 := hs.later (Below.refl _ _).drew
  have hxz : Box w10.drew B1 false 3000000 := hx10.later (Below.refl _ _).drew
  have hS0 : (fun W : World => Box W B1 false 3000000) _ := hxz
  refine wp_region_noPanic ?_
  refine wp_region_held_drew (S := fun W : World => Box W B1 false 3000000) (by kernel_rfl) hS0 (fun _ => ?_)
  refine take_at 0 (some 24) (.bool true) rfl rfl (by kernel_rfl) (by kernel_rfl) (by kernel_rfl) (fun _ _ _ h => h) (by rfl) (fun W hSw => by obtain ⟨q1, q2, _, _⟩ := hSw; go_simp) hS0 ?_
  simp only [Act.put, List.setIfInBounds_toArray, List.set_cons_zero, List.set_cons_succ]
  refine take_at 1 (some 25) (.bool true) rfl rfl (by kernel_rfl) (by kernel_rfl) (by kernel_rfl) (fun _ _ _ h => h) (by rfl) (fun W hSw => by obtain ⟨q1, q2, _, _⟩ := hSw; go_simp) hS0 ?_
  simp only [Act.put, List.setIfInBounds_toArray, List.set_cons_zero, List.set_cons_succ]
  refine take_at 2 (some 26) (.agg #[.bool false, .int .i64 3000000]) rfl rfl (by kernel_rfl) (by kernel_rfl) (by kernel_rfl) (fun _ _ _ h => h) (by rfl) (fun W hSw => by obtain ⟨q1, q2, _, _⟩ := hSw; go_simp) hS0 ?_
  simp only [Act.put, List.setIfInBounds_toArray, List.set_cons_zero, List.set_cons_succ]
  refine wpAnyH_ready (rs := [3]) (by kernel_rfl) (by simp) ?_
  refine AllReadyH.cons rfl (fun K hK => ?_) AllReadyH.nil
  go_simp
  refine (kn_of 3 3000000 (by decide +kernel) (r64_lit rfl) _).mono ?_
  rintro e w11 ⟨rfl, hb11⟩
  have hx11 := hxz.later hb11
  have hs11 := hsz.later hb11
  have hbf1 := Below.chain hbz hb11
  have hS1 := (hx11 : (fun W : World => Box W B1 false 3000000) w11)
  refine hK.out _ _ hS1 (fun _ => ?_)
  clear hK K
  refine take_at 4 (some 28) (.bool true) rfl rfl (by kernel_rfl) (by kernel_rfl) (by kernel_rfl) (fun _ _ _ h => h) (by rfl) (fun W hSw => by obtain ⟨q1, q2, _, _⟩ := hSw; go_simp) hS1 ?_
  simp only [Act.put, List.setIfInBounds_toArray, List.set_cons_zero, List.set_cons_succ]
  refine take_at 5 (some 29) (.bool true) rfl rfl (by kernel_rfl) (by kernel_rfl) (by kernel_rfl) (fun _ _ _ h => h) (by rfl) (fun W hSw => by obtain ⟨q1, q2, _, _⟩ := hSw; go_simp) hS1 ?_
  simp only [Act.put, List.setIfInBounds_toArray, List.set_cons_zero, List.set_cons_succ]
  refine take_at 6 (some 30) (.bool true) rfl rfl (by kernel_rfl) (by kernel_rfl) (by kernel_rfl) (fun _ _ _ h => h) (by rfl) (fun W hSw => by obtain ⟨q1, q2, _, _⟩ := hSw; go_simp) hS1 ?_
  simp only [Act.put, List.setIfInBounds_toArray, List.set_cons_zero, List.set_cons_succ]
  refine take_at 7 (some 31) (.bool false) rfl rfl (by kernel_rfl) (by kernel_rfl) (by kernel_rfl) (fun _ _ _ h => h) (by rfl) (fun W hSw => by obtain ⟨q1, q2, _, _⟩ := hSw; go_simp) hS1 ?_
  simp only [Act.put, List.setIfInBounds_toArray, List.set_cons_zero, List.set_cons_succ]
  refine take_at 8 (some 32) (.bool true) rfl rfl (by kernel_rfl) (by kernel_rfl) (by kernel_rfl) (fun _ _ _ h => h) (by rfl) (fun W hSw => by obtain ⟨q1, q2, _, _⟩ := hSw; go_simp) hS1 ?_
  simp only [Act.put, List.setIfInBounds_toArray, List.set_cons_zero, List.set_cons_succ]
  refine take_at 9 (some 33) (.bool true) rfl rfl (by kernel_rfl) (by kernel_rfl) (by kernel_rfl) (fun _ _ _ h => h) (by rfl) (fun W hSw => by obtain ⟨q1, q2, _, _⟩ := hSw; go_simp) hS1 ?_
  simp only [Act.put, List.setIfInBounds_toArray, List.set_cons_zero, List.set_cons_succ]
  refine take_at 10 (some 34) (.bool true) rfl rfl (by kernel_rfl) (by kernel_rfl) (by kernel_rfl) (fun _ _ _ h => h) (by rfl) (fun W hSw => by obtain ⟨q1, q2, _, _⟩ := hSw; go_simp) hS1 ?_
  simp only [Act.put, List.setIfInBounds_toArray, List.set_cons_zero, List.set_cons_succ]
  refine take_at 11 (some 35) (.pointer (some ⟨B5, 0, none⟩)) rfl rfl (by kernel_rfl) (by kernel_rfl) (by kernel_rfl) (fun _ _ _ h => h) (by rfl) (fun W hSw => by obtain ⟨q1, q2, _, _⟩ := hSw; go_simp) hS1 ?_
  simp only [Act.put, List.setIfInBounds_toArray, List.set_cons_zero, List.set_cons_succ]
  refine take_at 12 (some 36) (.bool true) rfl rfl (by kernel_rfl) (by kernel_rfl) (by kernel_rfl) (fun _ _ _ h => h) (by rfl) (fun W hSw => by obtain ⟨q1, q2, _, _⟩ := hSw; go_simp) hS1 ?_
  simp only [Act.put, List.setIfInBounds_toArray, List.set_cons_zero, List.set_cons_succ]
  refine take_at 13 (some 37) (.bool true) rfl rfl (by kernel_rfl) (by kernel_rfl) (by kernel_rfl) (fun _ _ _ h => h) (by rfl) (fun W hSw => by obtain ⟨q1, q2, _, _⟩ := hSw; go_simp) hS1 ?_
  simp only [Act.put, List.setIfInBounds_toArray, List.set_cons_zero, List.set_cons_succ]
  refine take_at 14 (some 38) (.bool true) rfl rfl (by kernel_rfl) (by kernel_rfl) (by kernel_rfl) (fun _ _ _ h => h) (by rfl) (fun W hSw => by obtain ⟨q1, q2, _, _⟩ := hSw; go_simp) hS1 ?_
  simp only [Act.put, List.setIfInBounds_toArray, List.set_cons_zero, List.set_cons_succ]
  refine take_at 15 (some 39) (.pointer (some ⟨B5, 0, none⟩)) rfl rfl (by kernel_rfl) (by kernel_rfl) (by kernel_rfl) (fun _ _ _ h => h) (by rfl) (fun W hSw => by obtain ⟨q1, q2, _, _⟩ := hSw; go_simp) hS1 ?_
  simp only [Act.put, List.setIfInBounds_toArray, List.set_cons_zero, List.set_cons_succ]
  refine wpAnyH_ready (rs := [16]) (by kernel_rfl) (by simp) ?_
  refine AllReadyH.cons rfl (fun K hK => ?_) AllReadyH.nil
  go_simp
  refine (kn_resets _ _ hs11).mono ?_
  rintro e w12 ⟨rfl, hb12⟩
  have hx12 := hx11.later hb12
  have hbf := Below.chain hbf1 hb12
  have hS2 := (hx12 : (fun W : World => Box W B1 false 3000000) w12)
  refine hK.out _ _ hS2 (fun _ => ?_)
  clear hK K
  refine take_at 17 (some 41) (.bool true) rfl rfl (by kernel_rfl) (by kernel_rfl) (by kernel_rfl) (fun _ _ _ h => h) (by rfl) (fun W hSw => by obtain ⟨q1, q2, _, _⟩ := hSw; go_simp) hS2 ?_
  simp only [Act.put, List.setIfInBounds_toArray, List.set_cons_zero, List.set_cons_succ]
  refine take_at 18 (some 42) (.bool true) rfl rfl (by kernel_rfl) (by kernel_rfl) (by kernel_rfl) (fun _ _ _ h => h) (by rfl) (fun W hSw => by obtain ⟨q1, q2, _, _⟩ := hSw; go_simp) hS2 ?_
  simp only [Act.put, List.setIfInBounds_toArray, List.set_cons_zero, List.set_cons_succ]
  refine take_at 19 (some 0) (.bool true) rfl rfl (by kernel_rfl) (by kernel_rfl) (by kernel_rfl) (fun _ _ _ h => h) (by rfl) (fun W hSw => by obtain ⟨q1, q2, _, _⟩ := hSw; go_simp) hS2 ?_
  simp only [Act.put, List.setIfInBounds_toArray, List.set_cons_zero]
  refine wpAnyH_done (by kernel_rfl) ?_ _
  refine NoPanic.normal ?_
  go_wp2
  go_ret
  exact ⟨rfl, hbf⟩
end Go.Proofs.Ythcakiibkocheaa
