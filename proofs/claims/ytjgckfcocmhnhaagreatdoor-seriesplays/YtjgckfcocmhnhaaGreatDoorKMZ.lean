/- Texts that the others lean on. -/
import Derived.Test.YtjgckfcocmhnhaaGreatDoorKMY
namespace Go.Proofs.YtjgckfcocmhnhaaGreatDoor.Sr
open Go.RowKit Rn
def kq : List Lb.Pr := [([95, 95, 110, 97, 109, 101, 95, 95], [117, 112])]
def kL : HL := [(kq, [(5, false, 2000000)])]
theorem kq_fit : Lb.Fit kq := by intro p hp; cases List.mem_singleton.1 hp; exact ⟨by decide, by decide⟩
theorem kn1 : onw 0 5 = 5 := by decide +kernel
theorem kn2 : advL 5 [] = [] := rfl
theorem kn3 : addEL 5 [] kq 5 = 0 := by decide +kernel
theorem kn4 : addLL 5 [] kq (5, false, 2000000) = kL := by decide +kernel
theorem kn5 : addEL 5 kL kq 5 = 150 := by decide +kernel
theorem kn6 : addLL 5 kL kq (5, false, 3000000) = kL := by decide +kernel
theorem kn7 : addEL 5 kL kq 6 = 152 := by decide +kernel
theorem kn8 : addLL 5 kL kq (6, false, 0) = kL := by decide +kernel
theorem kn9 : addAll 10 5 [] (smpL kq kL) = [(5, false, 2000000)] := by decide +kernel
theorem kn10 : addAll (wd 3) 5 [] (smpL kq kL) = [(5, false, 2000000)] := by decide +kernel
theorem kn11 : fSum (cnts (vls [(5, false, 2000000)])) = some 2000000 := by decide +kernel
theorem kn12 : (setsL [] kL).length = 1 := by decide +kernel
theorem kn_of (n : Int) (m : Int) (h : fOf n = some m) (hn : R64 n) (w : World) : Calls Tryz.prog 18 #[.int .i64 n] w fun e w' => e = .returned (.agg #[.bool false, .int .i64 m]) ∧ Below w.heap.size w w' := by
 have := of_any n w hn
 rw [h] at this
 exact this
theorem k_last {w0 w : World} {sb : Nat} {v : Value} (h : S2 w0 w sb 5 kL v kq) : Calls Tryz.prog 25 #[.pointer (some ⟨sb, 0, none⟩), v] w fun e w' => e = .returned (.tuple #[.agg #[.int .i64 5, .bool false, .int .i64 2000000], .bool true]) ∧ Below w.heap.size w w' := by
 have := s2_last h
 rw [kn9] at this
 exact this
theorem k_sum {w0 w : World} {sb : Nat} {v : Value} (h : S2 w0 w sb 5 kL v kq) : Calls Tryz.prog 21 #[.pointer (some ⟨sb, 0, none⟩), v, .string ⟨#[115, 117, 109]⟩, .int .i64 3] w fun e w' => e = .returned (.tuple #[.agg #[.bool false, .int .i64 2000000], .bool true]) ∧ Below w.heap.size w w' := by
 refine s2_over h _ false 2000000 true 3 (fun rb W hW => ?_)
 rw [kn10] at hW
 have := tell_sum rb _ _ _ W hW
 rw [kn11] at this
 exact this
theorem k_what {w0 w : World} {sb : Nat} {v : Value} (h : S2 w0 w sb 5 kL v kq) : Calls Tryz.prog 21 #[.pointer (some ⟨sb, 0, none⟩), v, .string ⟨#[119, 104, 97, 116]⟩, .int .i64 3] w fun e w' => e = .returned (.tuple #[.agg #[.bool false, .int .i64 0], .bool false]) ∧ Below w.heap.size w w' :=
 s2_over h _ false 0 false 3 (fun rb W hW => tell_what rb _ _ _ W hW)
theorem k_sets {w0 w : World} {sb : Nat} {v : Value} (h : S2 w0 w sb 5 kL v kq) : Calls Tryz.prog 26 #[.pointer (some ⟨sb, 0, none⟩), .slice none 0 0] w fun e w' => ∃ ao c, e = .returned (.slice ao 1 c) ∧ Below w.heap.size w w' := by
 refine (s2_sets h none 0 0 [] (by omega) ⟨rfl, fun h => by omega⟩ (by intro m hm; cases hm)).mono ?_
 rintro e w' ⟨u, rfl, ⟨vs, ho, _⟩, hb⟩
 have h1 : (setsL [] kL).length = 1 := kn12
 rw [h1] at ho
 rcases ho.2 with ⟨_, h0⟩ | ⟨g, c, cur, e, _⟩
 ·
  cases h0
 ·
  exact ⟨_, _, by rw [e], hb⟩
theorem k_len {w0 w : World} {sb : Nat} {v : Value} (h : S2 w0 w sb 5 kL v kq) : Calls Tryz.prog 19 #[.pointer (some ⟨sb, 0, none⟩)] w fun e w' => e = .returned (.int .i64 1) ∧ Below w.heap.size w w' := s2_len h
theorem r64_lit {n : Int} (h : (decide (-9223372036854775808 ≤ n) && decide (n ≤ 9223372036854775807)) = true) : R64 n := by
 rw [Bool.and_eq_true, decide_eq_true_eq, decide_eq_true_eq] at h
 exact h
set_option maxHeartbeats 8000000 in
set_option maxRecDepth 100000 in
theorem known_any (w : World) : Calls Tryz.prog 9 #[] w fun e w' => e = .returned (.bool true) ∧ Below w.heap.size w w' := by
 go_enter Tryz.func9, Tryz.ntmps9
 go_wp2_with fail
 refine (new_s2 w w (Below.refl _ _)).mono ?_
 rintro e w1 ⟨rfl, h1⟩
 have hA := bal (Below.refl _ w1) (.cells #[Lb.tx [95, 95, 110, 97, 109, 101, 95, 95], Lb.tx [117, 112]] 45)
 have h2 : S2 w _ w.heap.size 0 [] _ kq := h1.with _ (set_one w1 [95, 95, 110, 97, 109, 101, 95, 95] [117, 112]) hA (own_new w1 1 1)
 clear hA h1
 go_wp2_with fail
 generalize w1.heap.size = lb at *
 generalize w1.alloc (.cells #[Lb.tx [95, 95, 110, 97, 109, 101, 95, 95], Lb.tx [117, 112]] 45) = w2 at *
 refine (s2_advK h2 5 kn1 kn2).mono ?_
 rintro e w3 ⟨rfl, h3⟩
 clear h2
 go_wp2_with fail
 refine (kn_of 2 2000000 (by decide +kernel) (r64_lit rfl) _).mono ?_
 rintro e w4 ⟨rfl, hb4⟩
 have h4 := h3.later hb4
 clear h3 hb4
 go_wp2_with fail
 refine (s2_addK h4 kq_fit (5, false, 2000000) (r64_lit rfl) kn3 kn4).mono ?_
 rintro e w5 ⟨rfl, h5⟩
 clear h4
 go_wp2_with fail
 refine (kn_of 3 3000000 (by decide +kernel) (r64_lit rfl) _).mono ?_
 rintro e w6 ⟨rfl, hb6⟩
 have h6 := h5.later hb6
 clear h5 hb6
 go_wp2_with fail
 refine (s2_addK h6 kq_fit (5, false, 3000000) (r64_lit rfl) kn5 kn6).mono ?_
 rintro e w7 ⟨rfl, h7⟩
 clear h6
 go_wp2_with fail
 refine (s2_addK h7 kq_fit (6, false, 0) (r64_lit rfl) kn7 kn8).mono ?_
 rintro e w8 ⟨rfl, h8⟩
 clear h7
 go_wp2_with fail
 refine (k_last h8).mono ?_
 rintro e w9 ⟨rfl, hb9⟩
 have hx9 := BoxS.new w9 (5, false, 2000000)
 have h9 := (h8.later hb9).later (bal (Below.refl _ _) (.cells #[.int .i64 5, .bool false, .int .i64 2000000] 35))
 clear h8 hb9
 go_wp2_with fail
 generalize w9.heap.size = b9 at *
 generalize w9.alloc (.cells #[.int .i64 5, .bool false, .int .i64 2000000] 35) = wA at *
 refine (k_sum h9).mono ?_
 rintro e w10 ⟨rfl, hb10⟩
 have hx10 := (hx9.later hb10).later (bal (Below.refl _ _) (.cells #[.bool false, .int .i64 2000000] 33))
 have hy10 := Box.new w10 false 2000000
 have h10 := (h9.later hb10).later (bal (Below.refl _ _) (.cells #[.bool false, .int .i64 2000000] 33))
 clear h9 hb10 hx9
 go_wp2_with fail
 generalize w10.heap.size = b10 at *
 generalize w10.alloc (.cells #[.bool false, .int .i64 2000000] 33) = wB at *
 refine (k_what h10).mono ?_
 rintro e w11 ⟨rfl, hb11⟩
 have hbC := bal (Below.refl _ w11) (.cells #[.bool false, .int .i64 0] 33)
 have hx11 := (hx10.later hb11).later hbC
 have hy11 := (hy10.later hb11).later hbC
 have h11 := (h10.later hb11).later hbC
 clear h10 hb11 hx10 hy10
 go_wp2_with fail
 generalize w11.alloc (.cells #[.bool false, .int .i64 0] 33) = wC at *
 have q0 := hx11.c0
 obtain ⟨q1, q2, _, _⟩ := id hy11
 have HS : Hid (∀ W, Below wC.heap.size wC W → (fun W : World => W.cell? ⟨b9, 0, none⟩ = some (Value.int .i64 5) ∧ W.cell? ⟨b10, 0, none⟩ = some (Value.bool false) ∧ W.cell? ⟨b10, 1, none⟩ = some (Value.int .i64 2000000)) W) := fun W hW => ⟨(hx11.later hW).c0, (hy11.later hW).c0, (hy11.later hW).c1⟩
 have hbd := (Below.refl wC.heap.size wC).drew
 have hS0 : (fun W : World => W.cell? ⟨b9, 0, none⟩ = some (Value.int .i64 5) ∧ W.cell? ⟨b10, 0, none⟩ = some (Value.bool false) ∧ W.cell? ⟨b10, 1, none⟩ = some (Value.int .i64 2000000)) _ := HS.out _ hbd
 refine wp_region_noPanic ?_
 refine wp_region_held_drew (S := fun W : World => W.cell? ⟨b9, 0, none⟩ = some (Value.int .i64 5) ∧ W.cell? ⟨b10, 0, none⟩ = some (Value.bool false) ∧ W.cell? ⟨b10, 1, none⟩ = some (Value.int .i64 2000000)) (by kernel_rfl) hS0 (fun _ => ?_)
 refine take_at 0 (some 51) (.int .i64 0) rfl rfl (by kernel_rfl) (by kernel_rfl) (by kernel_rfl) (fun _ _ _ h => h) (by rfl) (fun W hSw => by obtain ⟨q0, q1, q2⟩ := hSw; go_simp) hS0 ?_
 simp only [Act.put, List.setIfInBounds_toArray, List.set_cons_zero, List.set_cons_succ]
 refine take_at 1 (some 52) (.bool true) rfl rfl (by kernel_rfl) (by kernel_rfl) (by kernel_rfl) (fun _ _ _ h => h) (by rfl) (fun W hSw => by obtain ⟨q0, q1, q2⟩ := hSw; go_simp) hS0 ?_
 simp only [Act.put, List.setIfInBounds_toArray, List.set_cons_zero, List.set_cons_succ]
 refine take_at 2 (some 53) (.bool true) rfl rfl (by kernel_rfl) (by kernel_rfl) (by kernel_rfl) (fun _ _ _ h => h) (by rfl) (fun W hSw => by obtain ⟨q0, q1, q2⟩ := hSw; go_simp) hS0 ?_
 simp only [Act.put, List.setIfInBounds_toArray, List.set_cons_zero, List.set_cons_succ]
 refine take_at 3 (some 54) (.int .i64 150) rfl rfl (by kernel_rfl) (by kernel_rfl) (by kernel_rfl) (fun _ _ _ h => h) (by rfl) (fun W hSw => by obtain ⟨q0, q1, q2⟩ := hSw; go_simp) hS0 ?_
 simp only [Act.put, List.setIfInBounds_toArray, List.set_cons_zero, List.set_cons_succ]
 refine take_at 4 (some 55) (.bool true) rfl rfl (by kernel_rfl) (by kernel_rfl) (by kernel_rfl) (fun _ _ _ h => h) (by rfl) (fun W hSw => by obtain ⟨q0, q1, q2⟩ := hSw; go_simp) hS0 ?_
 simp only [Act.put, List.setIfInBounds_toArray, List.set_cons_zero, List.set_cons_succ]
 refine take_at 5 (some 56) (.bool true) rfl rfl (by kernel_rfl) (by kernel_rfl) (by kernel_rfl) (fun _ _ _ h => h) (by rfl) (fun W hSw => by obtain ⟨q0, q1, q2⟩ := hSw; go_simp) hS0 ?_
 simp only [Act.put, List.setIfInBounds_toArray, List.set_cons_zero, List.set_cons_succ]
 refine take_at 6 (some 57) (.bool true) rfl rfl (by kernel_rfl) (by kernel_rfl) (by kernel_rfl) (fun _ _ _ h => h) (by rfl) (fun W hSw => by obtain ⟨q0, q1, q2⟩ := hSw; go_simp) hS0 ?_
 simp only [Act.put, List.setIfInBounds_toArray, List.set_cons_zero, List.set_cons_succ]
 refine take_at 7 (some 58) (.int .i64 152) rfl rfl (by kernel_rfl) (by kernel_rfl) (by kernel_rfl) (fun _ _ _ h => h) (by rfl) (fun W hSw => by obtain ⟨q0, q1, q2⟩ := hSw; go_simp) hS0 ?_
 simp only [Act.put, List.setIfInBounds_toArray, List.set_cons_zero, List.set_cons_succ]
 refine take_at 8 (some 59) (.bool true) rfl rfl (by kernel_rfl) (by kernel_rfl) (by kernel_rfl) (fun _ _ _ h => h) (by rfl) (fun W hSw => by obtain ⟨q0, q1, q2⟩ := hSw; go_simp) hS0 ?_
 simp only [Act.put, List.setIfInBounds_toArray, List.set_cons_zero, List.set_cons_succ]
 refine take_at 9 (some 60) (.bool true) rfl rfl (by kernel_rfl) (by kernel_rfl) (by kernel_rfl) (fun _ _ _ h => h) (by rfl) (fun W hSw => by obtain ⟨q0, q1, q2⟩ := hSw; go_simp) hS0 ?_
 simp only [Act.put, List.setIfInBounds_toArray, List.set_cons_zero, List.set_cons_succ]
 refine take_at 10 (some 61) (.bool true) rfl rfl (by kernel_rfl) (by kernel_rfl) (by kernel_rfl) (fun _ _ _ h => h) (by rfl) (fun W hSw => by obtain ⟨q0, q1, q2⟩ := hSw; go_simp) hS0 ?_
 simp only [Act.put, List.setIfInBounds_toArray, List.set_cons_zero, List.set_cons_succ]
 refine take_at 11 (some 62) (.bool true) rfl rfl (by kernel_rfl) (by kernel_rfl) (by kernel_rfl) (fun _ _ _ h => h) (by rfl) (fun W hSw => by obtain ⟨q0, q1, q2⟩ := hSw; go_simp) hS0 ?_
 simp only [Act.put, List.setIfInBounds_toArray, List.set_cons_zero, List.set_cons_succ]
 refine take_at 12 (some 63) (.bool true) rfl rfl (by kernel_rfl) (by kernel_rfl) (by kernel_rfl) (fun _ _ _ h => h) (by rfl) (fun W hSw => by obtain ⟨q0, q1, q2⟩ := hSw; go_simp) hS0 ?_
 simp only [Act.put, List.setIfInBounds_toArray, List.set_cons_zero, List.set_cons_succ]
 refine take_at 13 (some 64) (.bool true) rfl rfl (by kernel_rfl) (by kernel_rfl) (by kernel_rfl) (fun _ _ _ h => h) (by rfl) (fun W hSw => by obtain ⟨q0, q1, q2⟩ := hSw; go_simp) hS0 ?_
 simp only [Act.put, List.setIfInBounds_toArray, List.set_cons_zero, List.set_cons_succ]
 refine take_at 14 (some 65) (.pointer (some ⟨b9, 0, none⟩)) rfl rfl (by kernel_rfl) (by kernel_rfl) (by kernel_rfl) (fun _ _ _ h => h) (by rfl) (fun W hSw => by obtain ⟨q0, q1, q2⟩ := hSw; go_simp) hS0 ?_
 simp only [Act.put, List.setIfInBounds_toArray, List.set_cons_zero, List.set_cons_succ]
 refine take_at 15 (some 66) (.int .i64 5) rfl rfl (by kernel_rfl) (by kernel_rfl) (by kernel_rfl) (fun _ _ _ h => h) (by rfl) (fun W hSw => by obtain ⟨q0, q1, q2⟩ := hSw; go_simp) hS0 ?_
 simp only [Act.put, List.setIfInBounds_toArray, List.set_cons_zero, List.set_cons_succ]
 refine take_at 16 (some 67) (.bool true) rfl rfl (by kernel_rfl) (by kernel_rfl) (by kernel_rfl) (fun _ _ _ h => h) (by rfl) (fun W hSw => by obtain ⟨q0, q1, q2⟩ := hSw; go_simp) hS0 ?_
 simp only [Act.put, List.setIfInBounds_toArray, List.set_cons_zero, List.set_cons_succ]
 refine take_at 17 (some 68) (.bool true) rfl rfl (by kernel_rfl) (by kernel_rfl) (by kernel_rfl) (fun _ _ _ h => h) (by rfl) (fun W hSw => by obtain ⟨q0, q1, q2⟩ := hSw; go_simp) hS0 ?_
 simp only [Act.put, List.setIfInBounds_toArray, List.set_cons_zero, List.set_cons_succ]
 refine take_at 18 (some 69) (.bool true) rfl rfl (by kernel_rfl) (by kernel_rfl) (by kernel_rfl) (fun _ _ _ h => h) (by rfl) (fun W hSw => by obtain ⟨q0, q1, q2⟩ := hSw; go_simp) hS0 ?_
 simp only [Act.put, List.setIfInBounds_toArray, List.set_cons_zero, List.set_cons_succ]
 refine take_at 19 (some 70) (.bool true) rfl rfl (by kernel_rfl) (by kernel_rfl) (by kernel_rfl) (fun _ _ _ h => h) (by rfl) (fun W hSw => by obtain ⟨q0, q1, q2⟩ := hSw; go_simp) hS0 ?_
 simp only [Act.put, List.setIfInBounds_toArray, List.set_cons_zero, List.set_cons_succ]
 refine take_at 20 (some 71) (.bool true) rfl rfl (by kernel_rfl) (by kernel_rfl) (by kernel_rfl) (fun _ _ _ h => h) (by rfl) (fun W hSw => by obtain ⟨q0, q1, q2⟩ := hSw; go_simp) hS0 ?_
 simp only [Act.put, List.setIfInBounds_toArray, List.set_cons_zero, List.set_cons_succ]
 refine take_at 21 (some 72) (.bool true) rfl rfl (by kernel_rfl) (by kernel_rfl) (by kernel_rfl) (fun _ _ _ h => h) (by rfl) (fun W hSw => by obtain ⟨q0, q1, q2⟩ := hSw; go_simp) hS0 ?_
 simp only [Act.put, List.setIfInBounds_toArray, List.set_cons_zero, List.set_cons_succ]
 refine take_at 22 (some 73) (.agg #[.bool false, .int .i64 2000000]) rfl rfl (by kernel_rfl) (by kernel_rfl) (by kernel_rfl) (fun _ _ _ h => h) (by rfl) (fun W hSw => by obtain ⟨q0, q1, q2⟩ := hSw; go_simp) hS0 ?_
 simp only [Act.put, List.setIfInBounds_toArray, List.set_cons_zero, List.set_cons_succ]
 refine wpAnyH_ready (rs := [23]) (by kernel_rfl) (by simp) ?_
 refine AllReadyH.cons rfl (fun K hK => ?_) AllReadyH.nil
 go_simp
 refine (kn_of 2 2000000 (by decide +kernel) (r64_lit rfl) _).mono ?_
 rintro e w12 ⟨rfl, hb12⟩
 have hB12 := Below.chain hbd hb12
 have hS1 := HS.out _ hB12
 refine hK.out _ _ hS1 (fun _ => ?_)
 clear hK K
 refine take_at 24 (some 75) (.bool true) rfl rfl (by kernel_rfl) (by kernel_rfl) (by kernel_rfl) (fun _ _ _ h => h) (by rfl) (fun W hSw => by obtain ⟨q0, q1, q2⟩ := hSw; go_simp) hS1 ?_
 simp only [Act.put, List.setIfInBounds_toArray, List.set_cons_zero, List.set_cons_succ]
 refine take_at 25 (some 76) (.bool true) rfl rfl (by kernel_rfl) (by kernel_rfl) (by kernel_rfl) (fun _ _ _ h => h) (by rfl) (fun W hSw => by obtain ⟨q0, q1, q2⟩ := hSw; go_simp) hS1 ?_
 simp only [Act.put, List.setIfInBounds_toArray, List.set_cons_zero, List.set_cons_succ]
 refine take_at 26 (some 77) (.bool true) rfl rfl (by kernel_rfl) (by kernel_rfl) (by kernel_rfl) (fun _ _ _ h => h) (by rfl) (fun W hSw => by obtain ⟨q0, q1, q2⟩ := hSw; go_simp) hS1 ?_
 simp only [Act.put, List.setIfInBounds_toArray, List.set_cons_zero, List.set_cons_succ]
 refine take_at 27 (some 78) (.bool false) rfl rfl (by kernel_rfl) (by kernel_rfl) (by kernel_rfl) (fun _ _ _ h => h) (by rfl) (fun W hSw => by obtain ⟨q0, q1, q2⟩ := hSw; go_simp) hS1 ?_
 simp only [Act.put, List.setIfInBounds_toArray, List.set_cons_zero, List.set_cons_succ]
 refine take_at 28 (some 79) (.bool true) rfl rfl (by kernel_rfl) (by kernel_rfl) (by kernel_rfl) (fun _ _ _ h => h) (by rfl) (fun W hSw => by obtain ⟨q0, q1, q2⟩ := hSw; go_simp) hS1 ?_
 simp only [Act.put, List.setIfInBounds_toArray, List.set_cons_zero, List.set_cons_succ]
 refine take_at 29 (some 80) (.bool true) rfl rfl (by kernel_rfl) (by kernel_rfl) (by kernel_rfl) (fun _ _ _ h => h) (by rfl) (fun W hSw => by obtain ⟨q0, q1, q2⟩ := hSw; go_simp) hS1 ?_
 simp only [Act.put, List.setIfInBounds_toArray, List.set_cons_zero, List.set_cons_succ]
 refine take_at 30 (some 81) (.bool true) rfl rfl (by kernel_rfl) (by kernel_rfl) (by kernel_rfl) (fun _ _ _ h => h) (by rfl) (fun W hSw => by obtain ⟨q0, q1, q2⟩ := hSw; go_simp) hS1 ?_
 simp only [Act.put, List.setIfInBounds_toArray, List.set_cons_zero, List.set_cons_succ]
 refine take_at 31 (some 82) (.pointer (some ⟨w.heap.size, 0, none⟩)) rfl rfl (by kernel_rfl) (by kernel_rfl) (by kernel_rfl) (fun _ _ _ h => h) (by rfl) (fun W hSw => by obtain ⟨q0, q1, q2⟩ := hSw; go_simp) hS1 ?_
 simp only [Act.put, List.setIfInBounds_toArray, List.set_cons_zero, List.set_cons_succ]
 refine wpAnyH_ready (rs := [32]) (by kernel_rfl) (by simp) ?_
 refine AllReadyH.cons rfl (fun K hK => ?_) AllReadyH.nil
 go_simp
 refine (k_len (h11.later hB12)).mono ?_
 rintro e w13 ⟨rfl, hb13⟩
 have hB13 := Below.chain hB12 hb13
 have hS2 := HS.out _ hB13
 refine hK.out _ _ hS2 (fun _ => ?_)
 clear hK K
 refine take_at 33 (some 84) (.bool true) rfl rfl (by kernel_rfl) (by kernel_rfl) (by kernel_rfl) (fun _ _ _ h => h) (by rfl) (fun W hSw => by obtain ⟨q0, q1, q2⟩ := hSw; go_simp) hS2 ?_
 simp only [Act.put, List.setIfInBounds_toArray, List.set_cons_zero, List.set_cons_succ]
 refine take_at 34 (some 85) (.bool true) rfl rfl (by kernel_rfl) (by kernel_rfl) (by kernel_rfl) (fun _ _ _ h => h) (by rfl) (fun W hSw => by obtain ⟨q0, q1, q2⟩ := hSw; go_simp) hS2 ?_
 simp only [Act.put, List.setIfInBounds_toArray, List.set_cons_zero, List.set_cons_succ]
 refine take_at 35 (some 86) (.bool true) rfl rfl (by kernel_rfl) (by kernel_rfl) (by kernel_rfl) (fun _ _ _ h => h) (by rfl) (fun W hSw => by obtain ⟨q0, q1, q2⟩ := hSw; go_simp) hS2 ?_
 simp only [Act.put, List.setIfInBounds_toArray, List.set_cons_zero, List.set_cons_succ]
 refine take_at 36 (some 87) (.pointer (some ⟨w.heap.size, 0, none⟩)) rfl rfl (by kernel_rfl) (by kernel_rfl) (by kernel_rfl) (fun _ _ _ h => h) (by rfl) (fun W hSw => by obtain ⟨q0, q1, q2⟩ := hSw; go_simp) hS2 ?_
 simp only [Act.put, List.setIfInBounds_toArray, List.set_cons_zero, List.set_cons_succ]
 refine wpAnyH_ready (rs := [37]) (by kernel_rfl) (by simp) ?_
 refine AllReadyH.cons rfl (fun K hK => ?_) AllReadyH.nil
 go_simp
 refine (s2_now (h11.later hB13)).mono ?_
 rintro e w14 ⟨rfl, hb14⟩
 have hB14 := Below.chain hB13 hb14
 have hS3 := HS.out _ hB14
 refine hK.out _ _ hS3 (fun _ => ?_)
 clear hK K
 refine take_at 38 (some 89) (.bool true) rfl rfl (by kernel_rfl) (by kernel_rfl) (by kernel_rfl) (fun _ _ _ h => h) (by rfl) (fun W hSw => by obtain ⟨q0, q1, q2⟩ := hSw; go_simp) hS3 ?_
 simp only [Act.put, List.setIfInBounds_toArray, List.set_cons_zero, List.set_cons_succ]
 refine take_at 39 (some 90) (.bool true) rfl rfl (by kernel_rfl) (by kernel_rfl) (by kernel_rfl) (fun _ _ _ h => h) (by rfl) (fun W hSw => by obtain ⟨q0, q1, q2⟩ := hSw; go_simp) hS3 ?_
 simp only [Act.put, List.setIfInBounds_toArray, List.set_cons_zero, List.set_cons_succ]
 refine take_at 40 (some 91) (.bool true) rfl rfl (by kernel_rfl) (by kernel_rfl) (by kernel_rfl) (fun _ _ _ h => h) (by rfl) (fun W hSw => by obtain ⟨q0, q1, q2⟩ := hSw; go_simp) hS3 ?_
 simp only [Act.put, List.setIfInBounds_toArray, List.set_cons_zero, List.set_cons_succ]
 refine take_at 41 (some 92) (.pointer (some ⟨w.heap.size, 0, none⟩)) rfl rfl (by kernel_rfl) (by kernel_rfl) (by kernel_rfl) (fun _ _ _ h => h) (by rfl) (fun W hSw => by obtain ⟨q0, q1, q2⟩ := hSw; go_simp) hS3 ?_
 simp only [Act.put, List.setIfInBounds_toArray, List.set_cons_zero, List.set_cons_succ]
 refine wpAnyH_ready (rs := [42]) (by kernel_rfl) (by simp) ?_
 refine AllReadyH.cons rfl (fun K hK => ?_) AllReadyH.nil
 go_simp
 refine (k_sets (h11.later hB14)).mono ?_
 rintro e w15 ⟨sa, sc, rfl, hb15⟩
 have hB15 := Below.chain hB14 hb15
 have hS4 := HS.out _ hB15
 refine hK.out _ _ hS4 (fun _ => ?_)
 clear hK K
 refine take_at 43 (some 94) (.int .i64 1) rfl rfl (by kernel_rfl) (by kernel_rfl) (by kernel_rfl) (fun _ _ _ h => h) (by rfl) (fun W hSw => by obtain ⟨q0, q1, q2⟩ := hSw; go_simp) hS4 ?_
 simp only [Act.put, List.setIfInBounds_toArray, List.set_cons_zero, List.set_cons_succ]
 refine take_at 44 (some 95) (.bool true) rfl rfl (by kernel_rfl) (by kernel_rfl) (by kernel_rfl) (fun _ _ _ h => h) (by rfl) (fun W hSw => by obtain ⟨q0, q1, q2⟩ := hSw; go_simp) hS4 ?_
 simp only [Act.put, List.setIfInBounds_toArray, List.set_cons_zero, List.set_cons_succ]
 refine take_at 45 (some 96) (.bool true) rfl rfl (by kernel_rfl) (by kernel_rfl) (by kernel_rfl) (fun _ _ _ h => h) (by rfl) (fun W hSw => by obtain ⟨q0, q1, q2⟩ := hSw; go_simp) hS4 ?_
 simp only [Act.put, List.setIfInBounds_toArray, List.set_cons_zero, List.set_cons_succ]
 refine take_at 46 (some 0) (.bool true) rfl rfl (by kernel_rfl) (by kernel_rfl) (by kernel_rfl) (fun _ _ _ h => h) (by rfl) (fun W hSw => by obtain ⟨q0, q1, q2⟩ := hSw; go_simp) hS4 ?_
 simp only [Act.put, List.setIfInBounds_toArray, List.set_cons_zero]
 refine wpAnyH_done (by kernel_rfl) ?_ _
 refine NoPanic.normal ?_
 go_wp2
 go_ret
 exact ⟨rfl, Below.chain h11.b hB15⟩
end Go.Proofs.YtjgckfcocmhnhaaGreatDoor.Sr
