/- Advance, Add: of every window. -/
import Derived.Test.YtchopogodfghoaaROne
import Derived.Test.YtchopogodfghoaaIs
import Derived.Test.YtchopogodfghoaaKn
import Derived.BigQuiet
namespace Go.Proofs.Ytchopogodfghoaa
open Go.RowKit

theorem wI {x : Int} (h0 : -9223372036854775808 ≤ x) (h1 : x ≤ 9223372036854775807) : IntKind.i64.wrap x = x := by rw [IntKind.wrap_i64]; omega
theorem Rl.time {w : World} {b : Nat} {l : List Smp} {k now : Int} (h : Rl w b l k now) : w.cell? ⟨b, 303, none⟩ = some (.int .i64 now) := by
  obtain ⟨f, o, ho, hl, hr, hf⟩ := h
  exact hr.cw
theorem Rl.width {w : World} {b : Nat} {l : List Smp} {k now : Int} (h : Rl w b l k now) : w.cell? ⟨b, 302, none⟩ = some (.int .i64 k) := by
  obtain ⟨f, o, ho, hl, hr, hf⟩ := h
  exact hr.ck
set_option maxHeartbeats 1000000 in
theorem advance_any (b : Nat) (l : List Smp) (k now n : Int) (w : World) (h : Rl w b l k now) (hw : Wf l k now) :
    Calls Try.prog 10 #[.pointer (some ⟨b, 0, none⟩), .int .i64 n] w fun e w' => e = .returned (.tuple #[]) ∧ Rl w' b (fg (onw now n - k) l) k (onw now n) ∧ w.grownBy w' (some b) := by
  obtain ⟨f, o, ho, hl, hr, hf⟩ := h
  have H2 : Rl (w.setCell ⟨b, 303, none⟩ (.int .i64 (onw now n))) b l k (onw now n) := ⟨f, o, ho, hl, hr.setN _, hf⟩
  have h303 := hr.cw
  have h302 := hr.ck
  have f303 := hr.fz 303 (by omega)
  have k302 := (hr.setN (onw now n)).ck
  have hrg := onw_range n hw.n1
  have hk := hw.k1
  have e1 : wrap64 (onw now n - k) = onw now n - k := by unfold wrap64; omega
  have hfo := forget_any b l k (onw now n) (onw now n - k) _ (H2.later (Below.refl _ _).drew)
  have hg := grown_set w b 303 (.int .i64 (onw now n))
  have k303 : (w.setCell ⟨b, 303, none⟩ (.int .i64 (onw now n))).cell? ⟨b, 303, none⟩ = some (.int .i64 (onw now n)) := (hr.setN (onw now n)).cw
  have HO : Hid (onw now n = max now (min n 1000000)) := rfl
  unfold onw at H2 hrg e1 hfo hg k303 k302
  clear hr hf
  go_enter Try.func10, Try.ntmps10
  go_wp2_with fail
  generalize max now (min n 1000000) = nw at *
  generalize w.setCell ⟨b, 303, none⟩ (.int .i64 nw) = wa at *
  have k303d : wa.drew.cell? ⟨b, 303, none⟩ = some (.int .i64 nw) := k303
  have k302d : wa.drew.cell? ⟨b, 302, none⟩ = some (.int .i64 k) := k302
  have E1 : Hid (IntKind.i64.wrap (nw - k) = nw - k) := wI (by omega) (by omega)
  have hS0 : (fun W : World => W.cell? ⟨b, 303, none⟩ = some (Value.int .i64 nw) ∧ W.cell? ⟨b, 302, none⟩ = some (Value.int .i64 k)) _ := ⟨k303d, k302d⟩
  refine wp_region_noPanic ?_
  refine wp_region_held_drew (S := fun W : World => W.cell? ⟨b, 303, none⟩ = some (Value.int .i64 nw) ∧ W.cell? ⟨b, 302, none⟩ = some (Value.int .i64 k)) (by kernel_rfl) hS0 (fun _ => ?_)
  refine take_at 0 (some 14) (.pointer (some ⟨b, 0, none⟩)) rfl rfl (by kernel_rfl) (by kernel_rfl) (by kernel_rfl) (fun _ _ _ h => h) (by rfl) (fun W hSw => by obtain ⟨q1, q2⟩ := hSw; go_simp) hS0 ?_
  simp only [Act.put, List.setIfInBounds_toArray, List.set_cons_zero, List.set_cons_succ]
  refine take_at 1 (some 15) (.pointer (some ⟨b, 0, none⟩)) rfl rfl (by kernel_rfl) (by kernel_rfl) (by kernel_rfl) (fun _ _ _ h => h) (by rfl) (fun W hSw => by obtain ⟨q1, q2⟩ := hSw; go_simp) hS0 ?_
  simp only [Act.put, List.setIfInBounds_toArray, List.set_cons_zero, List.set_cons_succ]
  refine take_at 2 (some 16) (.pointer (some ⟨b, 0, none⟩)) rfl rfl (by kernel_rfl) (by kernel_rfl) (by kernel_rfl) (fun _ _ _ h => h) (by rfl) (fun W hSw => by obtain ⟨q1, q2⟩ := hSw; go_simp) hS0 ?_
  simp only [Act.put, List.setIfInBounds_toArray, List.set_cons_zero, List.set_cons_succ]
  refine take_at 3 (some 17) (.pointer (some ⟨b, 0, none⟩)) rfl rfl (by kernel_rfl) (by kernel_rfl) (by kernel_rfl) (fun _ _ _ h => h) (by rfl) (fun W hSw => by obtain ⟨q1, q2⟩ := hSw; go_simp) hS0 ?_
  simp only [Act.put, List.setIfInBounds_toArray, List.set_cons_zero, List.set_cons_succ]
  refine take_at 4 (some 18) (.pointer (some ⟨b, 0, none⟩)) rfl rfl (by kernel_rfl) (by kernel_rfl) (by kernel_rfl) (fun _ _ _ h => h) (by rfl) (fun W hSw => by obtain ⟨q1, q2⟩ := hSw; go_simp) hS0 ?_
  simp only [Act.put, List.setIfInBounds_toArray, List.set_cons_zero, List.set_cons_succ]
  refine take_at 5 (some 19) (.pointer (some ⟨b, 303, none⟩)) rfl rfl (by kernel_rfl) (by kernel_rfl) (by kernel_rfl) (fun _ _ _ h => h) (by rfl) (fun W hSw => by obtain ⟨q1, q2⟩ := hSw; go_simp) hS0 ?_
  simp only [Act.put, List.setIfInBounds_toArray, List.set_cons_zero, List.set_cons_succ]
  refine take_at 6 (some 20) (.int .i64 nw) rfl rfl (by kernel_rfl) (by kernel_rfl) (by kernel_rfl) (fun _ _ _ h => h) (by rfl) (fun W hSw => by obtain ⟨q1, q2⟩ := hSw; go_simp) hS0 ?_
  simp only [Act.put, List.setIfInBounds_toArray, List.set_cons_zero, List.set_cons_succ]
  refine take_at 7 (some 21) (.pointer (some ⟨b, 0, none⟩)) rfl rfl (by kernel_rfl) (by kernel_rfl) (by kernel_rfl) (fun _ _ _ h => h) (by rfl) (fun W hSw => by obtain ⟨q1, q2⟩ := hSw; go_simp) hS0 ?_
  simp only [Act.put, List.setIfInBounds_toArray, List.set_cons_zero, List.set_cons_succ]
  refine take_at 8 (some 22) (.pointer (some ⟨b, 0, none⟩)) rfl rfl (by kernel_rfl) (by kernel_rfl) (by kernel_rfl) (fun _ _ _ h => h) (by rfl) (fun W hSw => by obtain ⟨q1, q2⟩ := hSw; go_simp) hS0 ?_
  simp only [Act.put, List.setIfInBounds_toArray, List.set_cons_zero, List.set_cons_succ]
  refine take_at 9 (some 23) (.pointer (some ⟨b, 302, none⟩)) rfl rfl (by kernel_rfl) (by kernel_rfl) (by kernel_rfl) (fun _ _ _ h => h) (by rfl) (fun W hSw => by obtain ⟨q1, q2⟩ := hSw; go_simp) hS0 ?_
  simp only [Act.put, List.setIfInBounds_toArray, List.set_cons_zero, List.set_cons_succ]
  refine take_at 10 (some 24) (.int .i64 k) rfl rfl (by kernel_rfl) (by kernel_rfl) (by kernel_rfl) (fun _ _ _ h => h) (by rfl) (fun W hSw => by obtain ⟨q1, q2⟩ := hSw; go_simp) hS0 ?_
  simp only [Act.put, List.setIfInBounds_toArray, List.set_cons_zero, List.set_cons_succ]
  refine take_at 11 (some 25) (.int .i64 (nw - k)) rfl rfl (by kernel_rfl) (by kernel_rfl) (by kernel_rfl) (fun _ _ _ h => h) (by rfl) (fun W hSw => by go_simp; exact E1.out) hS0 ?_
  simp only [Act.put, List.setIfInBounds_toArray, List.set_cons_zero, List.set_cons_succ]
  refine wpAnyH_ready (rs := [12]) (by kernel_rfl) (by simp) ?_
  refine AllReadyH.cons rfl (fun K hK => ?_) AllReadyH.nil
  go_simp
  refine hfo.mono ?_
  rintro e w1 ⟨rfl, h1, h2⟩
  have hS1 : (fun W : World => W.cell? ⟨b, 303, none⟩ = some (Value.int .i64 nw) ∧ W.cell? ⟨b, 302, none⟩ = some (Value.int .i64 k)) w1 := ⟨h1.time, h1.width⟩
  refine hK.out _ _ hS1 (fun _ => ?_)
  clear hK K
  refine wpAnyH_done (by kernel_rfl) ?_ _
  refine NoPanic.normal ?_
  go_wp2
  go_end0
  exact ⟨rfl, by rw [HO.out]; exact h1, (hg.trans (grown_below (Below.refl _ _).drew (some b))).trans h2⟩
theorem BoxS.putV {w : World} {b : Nat} {s : Smp} (h : BoxS w b s) (o : Bool) (n : Int) : BoxS ((w.setCell ⟨b, 1, none⟩ (.bool o)).setCell ⟨b, 2, none⟩ (.int .i64 n)) b (s.1, o, n) := by
  obtain ⟨c0, c1, c2, f0, f1, f2⟩ := h
  refine ⟨(set_ne (by omega)).trans ((set_ne (by omega)).trans c0), (set_ne (by omega)).trans (set_same c1), set_same ((set_ne (by omega)).trans c2), ?_, ?_, ?_⟩
  · simpa using f0
  · simpa using f1
  · simpa using f2
theorem Wf.room {l : List Smp} {k nw : Int} (h : Wf l k nw) {t : Int} (ho : ¬ (t < 0 ∨ nw < t ∨ t ≤ nw - k)) (h1 : ¬ (l ≠ [] ∧ t ≤ (lst l).1)) : l.length < 100 := by
  have e : adE l k nw (t, false, (0 : Int)).1 = 0 := by unfold adE; rw [if_neg ho, if_neg h1]
  have hw := (h.add (t, false, 0) ⟨by show _ ≤ (0 : Int); omega, by show (0 : Int) ≤ _; omega⟩).le
  unfold adL at hw
  rw [if_pos e, List.length_append, List.length_singleton] at hw
  omega
theorem adE_out {l : List Smp} {k nw t : Int} (h : t < 0 ∨ nw < t ∨ t ≤ nw - k) : adE l k nw t = 152 := by unfold adE; rw [if_pos h]
theorem adE_old {l : List Smp} {k nw t : Int} (h : ¬ (t < 0 ∨ nw < t ∨ t ≤ nw - k)) (h1 : l ≠ [] ∧ t ≤ (lst l).1) : adE l k nw t = 150 := by unfold adE; rw [if_neg h, if_pos h1]
theorem adE_ok {l : List Smp} {k nw t : Int} (h : ¬ (t < 0 ∨ nw < t ∨ t ≤ nw - k)) (h1 : ¬ (l ≠ [] ∧ t ≤ (lst l).1)) : adE l k nw t = 0 := by unfold adE; rw [if_neg h, if_neg h1]
set_option maxHeartbeats 2000000 in
theorem add_out (b : Nat) (l : List Smp) (k now : Int) (s : Smp) (w : World) (h : Rl w b l k now) (hw : Wf l k now) (ho : s.1 < 0 ∨ now < s.1 ∨ s.1 ≤ now - k) :
    Calls Try.prog 12 #[.pointer (some ⟨b, 0, none⟩), sv s] w fun e w' => e = .returned (.int .i64 152) ∧ Below w.heap.size w w' := by
  have hb1 := bal (Below.refl _ w) (.cells #[.int .i64 s.1, .bool s.2.1, .int .i64 s.2.2] 38)
  have h1 := (h.later hb1).time
  have h2 := (h.later hb1).width
  have hk := hw.k1
  have hn := hw.n1
  have e1 : wrap64 (now - k) = now - k := by unfold wrap64; omega
  clear h
  obtain ⟨t, o, n⟩ := s
  dsimp only at *
  by_cases c1 : t < 0
  · have d1 : decide (t < 0) = true := decide_eq_true c1
    clear c1 ho
    go_enter Try.func12, Try.ntmps12
    go_wp2_with fail
    go_quiet (fail)
    go_wp2
    go_ret
    exact ⟨rfl, below_drewN hb1 _⟩
  · have d1 : decide (t < 0) = false := decide_eq_false c1
    by_cases c2 : now < t
    · have d2 : decide (now < t) = true := decide_eq_true c2
      clear c1 c2 ho
      go_enter Try.func12, Try.ntmps12
      go_wp2_with fail
      go_quiet (fail)
      go_wp2
      go_ret
      exact ⟨rfl, below_drewN hb1 _⟩
    · have d2 : decide (now < t) = false := decide_eq_false c2
      have d3 : decide (t ≤ now - k) = true := decide_eq_true (by omega)
      clear c1 c2 ho
      go_enter Try.func12, Try.ntmps12
      go_wp2_with fail
      go_quiet (fail)
      go_wp2
      go_ret
      exact ⟨rfl, below_drewN hb1 _⟩
set_option maxHeartbeats 2000000 in
theorem add_in (b : Nat) (l : List Smp) (k now : Int) (s : Smp) (w : World) (h : Rl w b l k now) (hw : Wf l k now) (hr : R64 s.2.2) (ho : ¬ (s.1 < 0 ∨ now < s.1 ∨ s.1 ≤ now - k)) :
    Calls Try.prog 12 #[.pointer (some ⟨b, 0, none⟩), sv s] w fun e w' => e = .returned (.int .i64 (adE l k now s.1)) ∧ Rl w' b (adL l k now s) k now ∧ w.grownBy w' (some b) := by
  have hb1 := bal (Below.refl _ w) (.cells #[.int .i64 s.1, .bool s.2.1, .int .i64 s.2.2] 38)
  have hR := h.later hb1
  have hx := BoxS.new w s
  have h1 := hR.time
  have h2 := hR.width
  have hk := hw.k1
  have hn := hw.n1
  have e1 : wrap64 (now - k) = now - k := by unfold wrap64; omega
  have hbl := h.lt
  have HLen : Hid (¬ (l ≠ [] ∧ s.1 ≤ (lst l).1) → l.length < 100) := fun hc => hw.room ho hc
  have HA : Hid (adL l k now s = if adE l k now s.1 = 0 then l ++ [nrm s] else l) := rfl
  have HO : Hid (¬ (s.1 < 0 ∨ now < s.1 ∨ s.1 ≤ now - k)) := ho
  have d1 : decide (s.1 < 0) = false := decide_eq_false (by omega)
  have d2 : decide (now < s.1) = false := decide_eq_false (by omega)
  have d3 : decide (s.1 ≤ now - k) = false := decide_eq_false (by omega)
  clear h ho
  go_enter Try.func12, Try.ntmps12
  go_wp2_with fail
  go_quiet (fail)
  generalize hwq : (w.alloc (.cells #[.int .i64 s.1, .bool s.2.1, .int .i64 s.2.2] 38)).drewN _ = wa
  have hba : Below w.heap.size w wa := by rw [← hwq]; exact below_drewN hb1 _
  have hRa : Rl wa b l k now := by rw [← hwq]; exact hR.later (below_drewN (Below.refl _ _) _)
  have hxa : BoxS wa w.heap.size s := by rw [← hwq]; exact hx.later (below_drewN (Below.refl _ _) _)
  clear hwq hx hR h1 h2 hb1
  go_wp2_with fail
  refine (last_any b l k now _ hRa).mono ?_
  rintro e w1 ⟨rfl, hb1⟩
  obtain ⟨t, o, n⟩ := s
  dsimp only at *
  have hR1 := hRa.later hb1
  have hx1 := hxa.later hb1
  have hy := BoxS.new w1 (lst l)
  have hR2 := hR1.later (bal (Below.refl _ w1) (.cells #[.int .i64 (lst l).1, .bool (lst l).2.1, .int .i64 (lst l).2.2] 38))
  have hx2 := hx1.later (bal (Below.refl _ w1) (.cells #[.int .i64 (lst l).1, .bool (lst l).2.1, .int .i64 (lst l).2.2] 38))
  have hb2 := bal (hba.trans (hb1.mono hba.size)) (.cells #[.int .i64 (lst l).1, .bool (lst l).2.1, .int .i64 (lst l).2.2] 38)
  generalize hxl : lst l = x at *
  have HX : Hid (lst l = x) := hxl
  clear hxl
  obtain ⟨xt, xo, xn⟩ := x
  dsimp only at *
  obtain ⟨x0, x1, x2, g0, g1, g2⟩ := id hx2
  obtain ⟨y0, y1, y2, _, _, _⟩ := id hy
  clear hRa hxa hR1 hx1 hba hb1
  generalize hwz : w1.alloc (.cells #[.int .i64 xt, .bool xo, .int .i64 xn] 38) = w2 at *
  by_cases c4 : l = []
  · have i1 : l.isEmpty = true := by rw [c4]; rfl
    have hlen : l.length < 100 := by rw [c4]; show 0 < 100; omega
    have HE : Hid (adE l k now t = 0) := adE_ok HO.out (fun e => e.1 c4)
    rw [i1]
    clear c4
    go_wp2_with fail
    refine (is_any o n _).mono ?_
    rintro e w3 ⟨rfl, hb3⟩
    have hx3 := hx2.later hb3
    have hR3 := hR2.later hb3
    have hb4 := Below.chain hb2 hb3
    cases hi : fIs o n with
    | true =>
      obtain ⟨n1, n2⟩ := is_cnt hi
      have HN : Hid (nrm (t, o, n) = (t, o, n)) := by show (t, ov (cnt o n), nn (cnt o n)) = _; rw [n1, n2]
      have hx4 := hx3
      have hR4 := hR3
      have hb5 := hb4
      go_wp2_with fail
      have hR5 : Rl w3.drew b l k now := hR4.later (Below.refl _ _).drew
      have hx5 : BoxS w3.drew w.heap.size (t, o, n) := hx4.later (Below.refl _ _).drew
      have hS0 : (fun W : World => W.cell? ⟨w.heap.size, 0, none⟩ = some (Value.int .i64 t) ∧ W.cell? ⟨w.heap.size, 1, none⟩ = some (Value.bool o) ∧ W.cell? ⟨w.heap.size, 2, none⟩ = some (Value.int .i64 n)) _ := ⟨hx5.c0, hx5.c1, hx5.c2⟩
      refine wp_region_noPanic ?_
      refine wp_region_held_drew (S := fun W : World => W.cell? ⟨w.heap.size, 0, none⟩ = some (Value.int .i64 t) ∧ W.cell? ⟨w.heap.size, 1, none⟩ = some (Value.bool o) ∧ W.cell? ⟨w.heap.size, 2, none⟩ = some (Value.int .i64 n)) (by kernel_rfl) hS0 (fun _ => ?_)
      refine take_at 0 (some 54) (.pointer (some ⟨b, 0, none⟩)) rfl rfl (by kernel_rfl) (by kernel_rfl) (by kernel_rfl) (fun _ _ _ h => h) (by rfl) (fun W hSw => by obtain ⟨q0, q1, q2⟩ := hSw; go_simp) hS0 ?_
      simp only [Act.put, List.setIfInBounds_toArray, List.set_cons_zero, List.set_cons_succ]
      refine take_at 1 (some 55) (.pointer (some ⟨b, 0, none⟩)) rfl rfl (by kernel_rfl) (by kernel_rfl) (by kernel_rfl) (fun _ _ _ h => h) (by rfl) (fun W hSw => by obtain ⟨q0, q1, q2⟩ := hSw; go_simp) hS0 ?_
      simp only [Act.put, List.setIfInBounds_toArray, List.set_cons_zero, List.set_cons_succ]
      refine take_at 2 (some 56) (.pointer (some ⟨b, 0, none⟩)) rfl rfl (by kernel_rfl) (by kernel_rfl) (by kernel_rfl) (fun _ _ _ h => h) (by rfl) (fun W hSw => by obtain ⟨q0, q1, q2⟩ := hSw; go_simp) hS0 ?_
      simp only [Act.put, List.setIfInBounds_toArray, List.set_cons_zero, List.set_cons_succ]
      refine take_at 3 (some 57) (.agg #[.int .i64 t, .bool o, .int .i64 n]) rfl rfl (by kernel_rfl) (by kernel_rfl) (by kernel_rfl) (fun _ _ _ h => h) (by rfl) (fun W hSw => by obtain ⟨q0, q1, q2⟩ := hSw; go_simp) hS0 ?_
      simp only [Act.put, List.setIfInBounds_toArray, List.set_cons_zero, List.set_cons_succ]
      refine wpAnyH_ready (rs := [4]) (by kernel_rfl) (by simp) ?_
      refine AllReadyH.cons rfl (fun K hK => ?_) AllReadyH.nil
      go_simp
      refine (push_any b l k now (t, o, n) _ hR5 hlen).mono ?_
      rintro e w6 ⟨rfl, hR6, hg6⟩
      have hx6 := hx5.kept hg6 (by simp; omega)
      have hS1 : (fun W : World => W.cell? ⟨w.heap.size, 0, none⟩ = some (Value.int .i64 t) ∧ W.cell? ⟨w.heap.size, 1, none⟩ = some (Value.bool o) ∧ W.cell? ⟨w.heap.size, 2, none⟩ = some (Value.int .i64 n)) w6 := ⟨hx6.c0, hx6.c1, hx6.c2⟩
      refine hK.out _ _ hS1 (fun _ => ?_)
      clear hK K
      refine wpAnyH_done (by kernel_rfl) ?_ _
      refine NoPanic.normal ?_
      go_wp2
      go_ret
      exact ⟨by rw [HE.out]; rfl, by rw [HA.out, HE.out, if_pos rfl, HN.out]; exact hR6, (grown_below (hb5.trans (Below.refl _ _).drew) (some b)).trans hg6⟩
    | false =>
      have HN : Hid (nrm (t, o, n) = (t, true, 0)) := by show (t, ov (cnt o n), nn (cnt o n)) = _; rw [isnt_cnt hr.1 hi]; rfl
      obtain ⟨c0, c1, c2, f0, f1, f2⟩ := id hx3
      have hx4 : BoxS ((w3.setCell ⟨w.heap.size, 1, none⟩ (.bool true)).setCell ⟨w.heap.size, 2, none⟩ (.int .i64 0)) w.heap.size (t, true, 0) := hx3.putV true 0
      have hR4 : Rl ((w3.setCell ⟨w.heap.size, 1, none⟩ (.bool true)).setCell ⟨w.heap.size, 2, none⟩ (.int .i64 0)) b l k now := hR3.kept ((grown_set _ _ _ _).trans (grown_set _ _ _ _)) (by simp; omega)
      have hb5 : Below w.heap.size w ((w3.setCell ⟨w.heap.size, 1, none⟩ (.bool true)).setCell ⟨w.heap.size, 2, none⟩ (.int .i64 0)) := (hb4.setCell (p := ⟨w.heap.size, 1, none⟩) (Nat.le_refl _) _).setCell (p := ⟨w.heap.size, 2, none⟩) (Nat.le_refl _) _
      go_wp2_with fail
      generalize (w3.setCell ⟨w.heap.size, 1, none⟩ (.bool true)).setCell ⟨w.heap.size, 2, none⟩ (.int .i64 0) = w4 at *
      have hR5 : Rl w4.drew b l k now := hR4.later (Below.refl _ _).drew
      have hx5 : BoxS w4.drew w.heap.size (t, true, 0) := hx4.later (Below.refl _ _).drew
      have hS0 : (fun W : World => W.cell? ⟨w.heap.size, 0, none⟩ = some (Value.int .i64 t) ∧ W.cell? ⟨w.heap.size, 1, none⟩ = some (Value.bool true) ∧ W.cell? ⟨w.heap.size, 2, none⟩ = some (Value.int .i64 0)) _ := ⟨hx5.c0, hx5.c1, hx5.c2⟩
      refine wp_region_noPanic ?_
      refine wp_region_held_drew (S := fun W : World => W.cell? ⟨w.heap.size, 0, none⟩ = some (Value.int .i64 t) ∧ W.cell? ⟨w.heap.size, 1, none⟩ = some (Value.bool true) ∧ W.cell? ⟨w.heap.size, 2, none⟩ = some (Value.int .i64 0)) (by kernel_rfl) hS0 (fun _ => ?_)
      refine take_at 0 (some 54) (.pointer (some ⟨b, 0, none⟩)) rfl rfl (by kernel_rfl) (by kernel_rfl) (by kernel_rfl) (fun _ _ _ h => h) (by rfl) (fun W hSw => by obtain ⟨q0, q1, q2⟩ := hSw; go_simp) hS0 ?_
      simp only [Act.put, List.setIfInBounds_toArray, List.set_cons_zero, List.set_cons_succ]
      refine take_at 1 (some 55) (.pointer (some ⟨b, 0, none⟩)) rfl rfl (by kernel_rfl) (by kernel_rfl) (by kernel_rfl) (fun _ _ _ h => h) (by rfl) (fun W hSw => by obtain ⟨q0, q1, q2⟩ := hSw; go_simp) hS0 ?_
      simp only [Act.put, List.setIfInBounds_toArray, List.set_cons_zero, List.set_cons_succ]
      refine take_at 2 (some 56) (.pointer (some ⟨b, 0, none⟩)) rfl rfl (by kernel_rfl) (by kernel_rfl) (by kernel_rfl) (fun _ _ _ h => h) (by rfl) (fun W hSw => by obtain ⟨q0, q1, q2⟩ := hSw; go_simp) hS0 ?_
      simp only [Act.put, List.setIfInBounds_toArray, List.set_cons_zero, List.set_cons_succ]
      refine take_at 3 (some 57) (.agg #[.int .i64 t, .bool true, .int .i64 0]) rfl rfl (by kernel_rfl) (by kernel_rfl) (by kernel_rfl) (fun _ _ _ h => h) (by rfl) (fun W hSw => by obtain ⟨q0, q1, q2⟩ := hSw; go_simp) hS0 ?_
      simp only [Act.put, List.setIfInBounds_toArray, List.set_cons_zero, List.set_cons_succ]
      refine wpAnyH_ready (rs := [4]) (by kernel_rfl) (by simp) ?_
      refine AllReadyH.cons rfl (fun K hK => ?_) AllReadyH.nil
      go_simp
      refine (push_any b l k now (t, true, 0) _ hR5 hlen).mono ?_
      rintro e w6 ⟨rfl, hR6, hg6⟩
      have hx6 := hx5.kept hg6 (by simp; omega)
      have hS1 : (fun W : World => W.cell? ⟨w.heap.size, 0, none⟩ = some (Value.int .i64 t) ∧ W.cell? ⟨w.heap.size, 1, none⟩ = some (Value.bool true) ∧ W.cell? ⟨w.heap.size, 2, none⟩ = some (Value.int .i64 0)) w6 := ⟨hx6.c0, hx6.c1, hx6.c2⟩
      refine hK.out _ _ hS1 (fun _ => ?_)
      clear hK K
      refine wpAnyH_done (by kernel_rfl) ?_ _
      refine NoPanic.normal ?_
      go_wp2
      go_ret
      exact ⟨by rw [HE.out]; rfl, by rw [HA.out, HE.out, if_pos rfl, HN.out]; exact hR6, (grown_below (hb5.trans (Below.refl _ _).drew) (some b)).trans hg6⟩
  · have i1 : l.isEmpty = false := by cases l <;> first | rfl | exact absurd rfl c4
    rw [i1]
    by_cases c5 : t ≤ xt
    · have HE : Hid (adE l k now t = 150) := adE_old HO.out ⟨c4, by rw [HX.out]; exact c5⟩
      have d5 : decide (t ≤ xt) = true := decide_eq_true c5
      clear c4 c5
      go_wp2
      go_ret
      exact ⟨by rw [HE.out]; rfl, by rw [HA.out, HE.out, if_neg (by decide)]; exact hR2, grown_below hb2 (some b)⟩
    · have HE : Hid (adE l k now t = 0) := adE_ok HO.out (fun e => c5 (by have := e.2; rw [HX.out] at this; exact this))
      have hlen : l.length < 100 := HLen.out (fun e => c5 e.2)
      have d5 : decide (t ≤ xt) = false := decide_eq_false c5
      clear c4 c5
      go_wp2_with fail
      refine (is_any o n _).mono ?_
      rintro e w3 ⟨rfl, hb3⟩
      have hx3 := hx2.later hb3
      have hR3 := hR2.later hb3
      have hb4 := Below.chain hb2 hb3
      cases hi : fIs o n with
      | true =>
        obtain ⟨n1, n2⟩ := is_cnt hi
        have HN : Hid (nrm (t, o, n) = (t, o, n)) := by show (t, ov (cnt o n), nn (cnt o n)) = _; rw [n1, n2]
        have hx4 := hx3
        have hR4 := hR3
        have hb5 := hb4
        go_wp2_with fail
        have hR5 : Rl w3.drew b l k now := hR4.later (Below.refl _ _).drew
        have hx5 : BoxS w3.drew w.heap.size (t, o, n) := hx4.later (Below.refl _ _).drew
        have hS0 : (fun W : World => W.cell? ⟨w.heap.size, 0, none⟩ = some (Value.int .i64 t) ∧ W.cell? ⟨w.heap.size, 1, none⟩ = some (Value.bool o) ∧ W.cell? ⟨w.heap.size, 2, none⟩ = some (Value.int .i64 n)) _ := ⟨hx5.c0, hx5.c1, hx5.c2⟩
        refine wp_region_noPanic ?_
        refine wp_region_held_drew (S := fun W : World => W.cell? ⟨w.heap.size, 0, none⟩ = some (Value.int .i64 t) ∧ W.cell? ⟨w.heap.size, 1, none⟩ = some (Value.bool o) ∧ W.cell? ⟨w.heap.size, 2, none⟩ = some (Value.int .i64 n)) (by kernel_rfl) hS0 (fun _ => ?_)
        refine take_at 0 (some 54) (.pointer (some ⟨b, 0, none⟩)) rfl rfl (by kernel_rfl) (by kernel_rfl) (by kernel_rfl) (fun _ _ _ h => h) (by rfl) (fun W hSw => by obtain ⟨q0, q1, q2⟩ := hSw; go_simp) hS0 ?_
        simp only [Act.put, List.setIfInBounds_toArray, List.set_cons_zero, List.set_cons_succ]
        refine take_at 1 (some 55) (.pointer (some ⟨b, 0, none⟩)) rfl rfl (by kernel_rfl) (by kernel_rfl) (by kernel_rfl) (fun _ _ _ h => h) (by rfl) (fun W hSw => by obtain ⟨q0, q1, q2⟩ := hSw; go_simp) hS0 ?_
        simp only [Act.put, List.setIfInBounds_toArray, List.set_cons_zero, List.set_cons_succ]
        refine take_at 2 (some 56) (.pointer (some ⟨b, 0, none⟩)) rfl rfl (by kernel_rfl) (by kernel_rfl) (by kernel_rfl) (fun _ _ _ h => h) (by rfl) (fun W hSw => by obtain ⟨q0, q1, q2⟩ := hSw; go_simp) hS0 ?_
        simp only [Act.put, List.setIfInBounds_toArray, List.set_cons_zero, List.set_cons_succ]
        refine take_at 3 (some 57) (.agg #[.int .i64 t, .bool o, .int .i64 n]) rfl rfl (by kernel_rfl) (by kernel_rfl) (by kernel_rfl) (fun _ _ _ h => h) (by rfl) (fun W hSw => by obtain ⟨q0, q1, q2⟩ := hSw; go_simp) hS0 ?_
        simp only [Act.put, List.setIfInBounds_toArray, List.set_cons_zero, List.set_cons_succ]
        refine wpAnyH_ready (rs := [4]) (by kernel_rfl) (by simp) ?_
        refine AllReadyH.cons rfl (fun K hK => ?_) AllReadyH.nil
        go_simp
        refine (push_any b l k now (t, o, n) _ hR5 hlen).mono ?_
        rintro e w6 ⟨rfl, hR6, hg6⟩
        have hx6 := hx5.kept hg6 (by simp; omega)
        have hS1 : (fun W : World => W.cell? ⟨w.heap.size, 0, none⟩ = some (Value.int .i64 t) ∧ W.cell? ⟨w.heap.size, 1, none⟩ = some (Value.bool o) ∧ W.cell? ⟨w.heap.size, 2, none⟩ = some (Value.int .i64 n)) w6 := ⟨hx6.c0, hx6.c1, hx6.c2⟩
        refine hK.out _ _ hS1 (fun _ => ?_)
        clear hK K
        refine wpAnyH_done (by kernel_rfl) ?_ _
        refine NoPanic.normal ?_
        go_wp2
        go_ret
        exact ⟨by rw [HE.out]; rfl, by rw [HA.out, HE.out, if_pos rfl, HN.out]; exact hR6, (grown_below (hb5.trans (Below.refl _ _).drew) (some b)).trans hg6⟩
      | false =>
        have HN : Hid (nrm (t, o, n) = (t, true, 0)) := by show (t, ov (cnt o n), nn (cnt o n)) = _; rw [isnt_cnt hr.1 hi]; rfl
        obtain ⟨c0, c1, c2, f0, f1, f2⟩ := id hx3
        have hx4 : BoxS ((w3.setCell ⟨w.heap.size, 1, none⟩ (.bool true)).setCell ⟨w.heap.size, 2, none⟩ (.int .i64 0)) w.heap.size (t, true, 0) := hx3.putV true 0
        have hR4 : Rl ((w3.setCell ⟨w.heap.size, 1, none⟩ (.bool true)).setCell ⟨w.heap.size, 2, none⟩ (.int .i64 0)) b l k now := hR3.kept ((grown_set _ _ _ _).trans (grown_set _ _ _ _)) (by simp; omega)
        have hb5 : Below w.heap.size w ((w3.setCell ⟨w.heap.size, 1, none⟩ (.bool true)).setCell ⟨w.heap.size, 2, none⟩ (.int .i64 0)) := (hb4.setCell (p := ⟨w.heap.size, 1, none⟩) (Nat.le_refl _) _).setCell (p := ⟨w.heap.size, 2, none⟩) (Nat.le_refl _) _
        go_wp2_with fail
        generalize (w3.setCell ⟨w.heap.size, 1, none⟩ (.bool true)).setCell ⟨w.heap.size, 2, none⟩ (.int .i64 0) = w4 at *
        have hR5 : Rl w4.drew b l k now := hR4.later (Below.refl _ _).drew
        have hx5 : BoxS w4.drew w.heap.size (t, true, 0) := hx4.later (Below.refl _ _).drew
        have hS0 : (fun W : World => W.cell? ⟨w.heap.size, 0, none⟩ = some (Value.int .i64 t) ∧ W.cell? ⟨w.heap.size, 1, none⟩ = some (Value.bool true) ∧ W.cell? ⟨w.heap.size, 2, none⟩ = some (Value.int .i64 0)) _ := ⟨hx5.c0, hx5.c1, hx5.c2⟩
        refine wp_region_noPanic ?_
        refine wp_region_held_drew (S := fun W : World => W.cell? ⟨w.heap.size, 0, none⟩ = some (Value.int .i64 t) ∧ W.cell? ⟨w.heap.size, 1, none⟩ = some (Value.bool true) ∧ W.cell? ⟨w.heap.size, 2, none⟩ = some (Value.int .i64 0)) (by kernel_rfl) hS0 (fun _ => ?_)
        refine take_at 0 (some 54) (.pointer (some ⟨b, 0, none⟩)) rfl rfl (by kernel_rfl) (by kernel_rfl) (by kernel_rfl) (fun _ _ _ h => h) (by rfl) (fun W hSw => by obtain ⟨q0, q1, q2⟩ := hSw; go_simp) hS0 ?_
        simp only [Act.put, List.setIfInBounds_toArray, List.set_cons_zero, List.set_cons_succ]
        refine take_at 1 (some 55) (.pointer (some ⟨b, 0, none⟩)) rfl rfl (by kernel_rfl) (by kernel_rfl) (by kernel_rfl) (fun _ _ _ h => h) (by rfl) (fun W hSw => by obtain ⟨q0, q1, q2⟩ := hSw; go_simp) hS0 ?_
        simp only [Act.put, List.setIfInBounds_toArray, List.set_cons_zero, List.set_cons_succ]
        refine take_at 2 (some 56) (.pointer (some ⟨b, 0, none⟩)) rfl rfl (by kernel_rfl) (by kernel_rfl) (by kernel_rfl) (fun _ _ _ h => h) (by rfl) (fun W hSw => by obtain ⟨q0, q1, q2⟩ := hSw; go_simp) hS0 ?_
        simp only [Act.put, List.setIfInBounds_toArray, List.set_cons_zero, List.set_cons_succ]
        refine take_at 3 (some 57) (.agg #[.int .i64 t, .bool true, .int .i64 0]) rfl rfl (by kernel_rfl) (by kernel_rfl) (by kernel_rfl) (fun _ _ _ h => h) (by rfl) (fun W hSw => by obtain ⟨q0, q1, q2⟩ := hSw; go_simp) hS0 ?_
        simp only [Act.put, List.setIfInBounds_toArray, List.set_cons_zero, List.set_cons_succ]
        refine wpAnyH_ready (rs := [4]) (by kernel_rfl) (by simp) ?_
        refine AllReadyH.cons rfl (fun K hK => ?_) AllReadyH.nil
        go_simp
        refine (push_any b l k now (t, true, 0) _ hR5 hlen).mono ?_
        rintro e w6 ⟨rfl, hR6, hg6⟩
        have hx6 := hx5.kept hg6 (by simp; omega)
        have hS1 : (fun W : World => W.cell? ⟨w.heap.size, 0, none⟩ = some (Value.int .i64 t) ∧ W.cell? ⟨w.heap.size, 1, none⟩ = some (Value.bool true) ∧ W.cell? ⟨w.heap.size, 2, none⟩ = some (Value.int .i64 0)) w6 := ⟨hx6.c0, hx6.c1, hx6.c2⟩
        refine hK.out _ _ hS1 (fun _ => ?_)
        clear hK K
        refine wpAnyH_done (by kernel_rfl) ?_ _
        refine NoPanic.normal ?_
        go_wp2
        go_ret
        exact ⟨by rw [HE.out]; rfl, by rw [HA.out, HE.out, if_pos rfl, HN.out]; exact hR6, (grown_below (hb5.trans (Below.refl _ _).drew) (some b)).trans hg6⟩
theorem add_any (b : Nat) (l : List Smp) (k now : Int) (s : Smp) (w : World) (h : Rl w b l k now) (hw : Wf l k now) (hr : R64 s.2.2) :
    Calls Try.prog 12 #[.pointer (some ⟨b, 0, none⟩), sv s] w fun e w' => e = .returned (.int .i64 (adE l k now s.1)) ∧ Rl w' b (adL l k now s) k now ∧ w.grownBy w' (some b) := by
  by_cases ho : s.1 < 0 ∨ now < s.1 ∨ s.1 ≤ now - k
  · have e : adE l k now s.1 = 152 := adE_out ho
    rw [show adL l k now s = l by unfold adL; rw [e, if_neg (by decide)], e]
    exact (add_out b l k now s w h hw ho).mono fun e w' ⟨h1, h2⟩ => ⟨h1, h.later h2, grown_below h2 _⟩
  · exact add_in b l k now s w h hw hr ho
end Go.Proofs.Ytchopogodfghoaa
