/- Add, of the least. -/
import Derived.Test.YtpemknkkignmcaaEAddO
import Derived.Test.YtpemknkkignmcaaEPutL
import Derived.BigQuiet
namespace Go.Proofs.Ytpemknkkignmcaa
open Go.RowKit

set_option maxHeartbeats 4000000 in
theorem add_inL (b : Nat) (l : List Smp) (k now : Int) (s : Smp) (w : World) (h : Rl w b (thn (kg false) l) k now false) (hw : Wf l k now) (hr : R64 s.2.2) (ho : ¬ (s.1 < 0 ∨ now < s.1 ∨ s.1 ≤ now - k)) :
    Calls Try.prog 10 #[.pointer (some ⟨b, 0, none⟩), sv s] w fun e w' => e = .returned (.int .i64 (adE l k now s.1)) ∧ Rl w' b (thn (kg false) (adL l k now s)) k now false ∧ w.grownBy w' (some b) := by
  have hfd := field_t
  have hb1 := bal (Below.refl _ w) (.cells #[.int .i64 s.1, .bool s.2.1, .int .i64 s.2.2] 32)
  have hR := h.later hb1
  have hx := BoxS.new w s
  have h1 := hR.time
  have h2 := hR.width
  have hk := hw.k1
  have hn := hw.n1
  have e1 : wrap64 (now - k) = now - k := by unfold wrap64; omega
  have hbl := h.lt
  have HLen : Hid (¬ (l ≠ [] ∧ s.1 ≤ (lst l).1) → (thn (kg false) l).length < 100) := fun hc => Nat.lt_of_le_of_lt (thn_sub (kg false) l).length_le (hw.room ho hc)
  have HA : Hid (adL l k now s = if adE l k now s.1 = 0 then l ++ [nrm s] else l) := rfl
  have HO : Hid (¬ (s.1 < 0 ∨ now < s.1 ∨ s.1 ≤ now - k)) := ho
  have HPD : Hid _ := thn_down (kg false) l
  have HRR : Hid (∀ x ∈ thn (kg false) l, R64 x.2.2) := fun x hx => hw.rg x ((thn_sub _ l).subset hx)
  have HKP : Hid (∀ y, Hid (thn (kg false) (l ++ [y]) = kp (kg false) y (thn (kg false) l) ++ [y])) := fun y => thn_snoc (kg false) y l
  have HNL : Hid (thn (kg false) l = [] ↔ l = []) := thn_nil
  have HLS : Hid (lst (thn (kg false) l) = lst l) := thn_lst _ l
  have HTH : Hid (thn (kg false) l = thn (kg false) l) := rfl
  have d1 : decide (s.1 < 0) = false := decide_eq_false (by omega)
  have d2 : decide (now < s.1) = false := decide_eq_false (by omega)
  have d3 : decide (s.1 ≤ now - k) = false := decide_eq_false (by omega)
  clear h ho hw
  generalize hth : thn (kg false) l = r at *
  have HR : Hid (thn (kg false) l = r) := hth
  clear hth HTH
  go_enter Try.func10, Try.ntmps10
  go_wp2_with fail
  go_quiet (fail)
  generalize hwq : (w.alloc (.cells #[.int .i64 s.1, .bool s.2.1, .int .i64 s.2.2] 32)).drewN _ = wa
  have hba : Below w.heap.size w wa := by rw [← hwq]; exact below_drewN hb1 _
  have hRa : Rl wa b r k now false := by rw [← hwq]; exact hR.later (below_drewN (Below.refl _ _) _)
  have hxa : BoxS wa w.heap.size s := by rw [← hwq]; exact hx.later (below_drewN (Below.refl _ _) _)
  clear hwq hx hR h1 h2 hb1 d1 d2 d3 e1
  obtain ⟨t, o, n⟩ := s
  dsimp only at *
  by_cases c4 : r = []
  · have HE : Hid (adE l k now t = 0) := adE_ok HO.out (fun e => e.1 (HNL.out.1 c4))
    have hlen : r.length < 100 := by rw [c4]; show 0 < 100; omega
    have i3 : wa.cell? ⟨b, 301, none⟩ = some (.int .i64 0) := by obtain ⟨f, o, ho, hl, hr, hf⟩ := hRa; have := hr.cc; rw [c4] at this; exact this
    clear c4
    go_wp2_with fail
    go_quiet (fail)
    generalize hwq : wa.drewN _ = w2
    have hb2 : Below w.heap.size w w2 := by rw [← hwq]; exact below_drewN hba _
    have hR2 : Rl w2 b r k now false := by rw [← hwq]; exact hRa.later (below_drewN (Below.refl _ _) _)
    have hx2 : BoxS w2 w.heap.size (t, o, n) := by rw [← hwq]; exact hxa.later (below_drewN (Below.refl _ _) _)
    clear hwq hxa hRa hba i3
    obtain ⟨c0, c1, c2, f0, f1, f2⟩ := id hx2
    go_wp2_with fail
    refine (is_any o n _).mono ?_
    rintro e w3 ⟨rfl, hb3⟩
    have hx3 := hx2.later hb3
    have hR3 := hR2.later hb3
    have hb4 := Below.chain hb2 hb3
    clear hR2 hx2 hb2
    cases hi : fIs o n with
    | true =>
      obtain ⟨n1, n2⟩ := is_cnt hi
      have HN : Hid (nrm (t, o, n) = (t, o, n)) := by show (t, ov (cnt o n), nn (cnt o n)) = _; rw [n1, n2]
      have HT := HKP.out (t, o, n)
      clear n1 n2
      have hx4 := hx3
      have hR4 := hR3
      have hb5 := hb4
      clear hx3 hR3 hb4
      generalize w3 = w4 at *
      have i7 : w4.cell? ⟨b, 304, none⟩ = some (.bool false) := by obtain ⟨f, o, ho, hl, hr, hf⟩ := hR4; exact hr.cg
      have HR2 : Hid (R64 (t, o, n).2.2) := hr
      go_wp2_with fail
      have hR5 : Rl w4.drew b r k now false := hR4.later (Below.refl _ _).drew
      have hx5 : BoxS w4.drew w.heap.size (t, o, n) := hx4.later (Below.refl _ _).drew
      have hS0 : (fun W : World => W.cell? ⟨w.heap.size, 0, none⟩ = some (Value.int .i64 t) ∧ W.cell? ⟨w.heap.size, 1, none⟩ = some (Value.bool o) ∧ W.cell? ⟨w.heap.size, 2, none⟩ = some (Value.int .i64 n)) _ := ⟨hx5.c0, hx5.c1, hx5.c2⟩
      refine wp_region_noPanic ?_
      refine wp_region_held_drew (S := fun W : World => W.cell? ⟨w.heap.size, 0, none⟩ = some (Value.int .i64 t) ∧ W.cell? ⟨w.heap.size, 1, none⟩ = some (Value.bool o) ∧ W.cell? ⟨w.heap.size, 2, none⟩ = some (Value.int .i64 n)) (by kernel_rfl) hS0 (fun _ => ?_)
      refine take_at 0 (some 63) (.pointer (some ⟨b, 0, none⟩)) rfl rfl (by kernel_rfl) (by kernel_rfl) (by kernel_rfl) (fun _ _ _ h => h) (by rfl) (fun W hSw => by obtain ⟨q0, q1, q2⟩ := hSw; go_simp) hS0 ?_
      simp only [Act.put, List.setIfInBounds_toArray, List.set_cons_zero, List.set_cons_succ]
      refine take_at 1 (some 64) (.pointer (some ⟨b, 0, none⟩)) rfl rfl (by kernel_rfl) (by kernel_rfl) (by kernel_rfl) (fun _ _ _ h => h) (by rfl) (fun W hSw => by obtain ⟨q0, q1, q2⟩ := hSw; go_simp) hS0 ?_
      simp only [Act.put, List.setIfInBounds_toArray, List.set_cons_zero, List.set_cons_succ]
      refine take_at 2 (some 65) (.pointer (some ⟨b, 0, none⟩)) rfl rfl (by kernel_rfl) (by kernel_rfl) (by kernel_rfl) (fun _ _ _ h => h) (by rfl) (fun W hSw => by obtain ⟨q0, q1, q2⟩ := hSw; go_simp) hS0 ?_
      simp only [Act.put, List.setIfInBounds_toArray, List.set_cons_zero, List.set_cons_succ]
      refine take_at 3 (some 66) (.agg #[.pointer (some ⟨b, 0, none⟩)]) rfl rfl (by kernel_rfl) (by kernel_rfl) (by kernel_rfl) (fun _ _ _ h => h) (by rfl) (fun W hSw => by obtain ⟨q0, q1, q2⟩ := hSw; go_simp) hS0 ?_
      simp only [Act.put, List.setIfInBounds_toArray, List.set_cons_zero, List.set_cons_succ]
      refine take_at 4 (some 67) (.agg #[.int .i64 t, .bool o, .int .i64 n]) rfl rfl (by kernel_rfl) (by kernel_rfl) (by kernel_rfl) (fun _ _ _ h => h) (by rfl) (fun W hSw => by obtain ⟨q0, q1, q2⟩ := hSw; go_simp) hS0 ?_
      simp only [Act.put, List.setIfInBounds_toArray, List.set_cons_zero, List.set_cons_succ]
      refine wpAnyH_ready (rs := [5]) (by kernel_rfl) (by simp) ?_
      refine AllReadyH.cons rfl (fun K hK => ?_) AllReadyH.nil
      go_simp
      refine (adder_L b r k now false (t, o, n) _ hR5 HPD.out HRR.out HR2.out hlen).mono ?_
      rintro e w6 ⟨rfl, hR6, hg6⟩
      have hx6 := hx5.kept hg6 (by simp; omega)
      have hS1 := (⟨hx6.c0, hx6.c1, hx6.c2⟩ : (fun W : World => W.cell? ⟨w.heap.size, 0, none⟩ = some (Value.int .i64 t) ∧ W.cell? ⟨w.heap.size, 1, none⟩ = some (Value.bool o) ∧ W.cell? ⟨w.heap.size, 2, none⟩ = some (Value.int .i64 n)) w6)
      refine hK.out _ _ hS1 (fun _ => ?_)
      clear hK K
      refine wpAnyH_done (by kernel_rfl) ?_ _
      refine NoPanic.normal ?_
      go_wp2
      go_ret
      exact ⟨by rw [HE.out]; rfl, by rw [HA.out, HE.out, if_pos rfl, HN.out, HT.out]; exact hR6, (grown_below (hb5.trans (Below.refl _ _).drew) (some b)).trans hg6⟩
    | false =>
      have HN : Hid (nrm (t, o, n) = (t, true, 0)) := by show (t, ov (cnt o n), nn (cnt o n)) = _; rw [isnt_cnt hr.1 hi]; rfl
      have HT := HKP.out (t, true, 0)
      obtain ⟨c0, c1, c2, f0, f1, f2⟩ := id hx3
      have hx4 : BoxS ((w3.setCell ⟨w.heap.size, 1, none⟩ (.bool true)).setCell ⟨w.heap.size, 2, none⟩ (.int .i64 0)) w.heap.size (t, true, 0) := hx3.putV true 0
      have hR4 : Rl ((w3.setCell ⟨w.heap.size, 1, none⟩ (.bool true)).setCell ⟨w.heap.size, 2, none⟩ (.int .i64 0)) b r k now false := hR3.kept ((grown_set _ _ _ _).trans (grown_set _ _ _ _)) (by simp; omega)
      have hb5 : Below w.heap.size w ((w3.setCell ⟨w.heap.size, 1, none⟩ (.bool true)).setCell ⟨w.heap.size, 2, none⟩ (.int .i64 0)) := (hb4.setCell (p := ⟨w.heap.size, 1, none⟩) (Nat.le_refl _) _).setCell (p := ⟨w.heap.size, 2, none⟩) (Nat.le_refl _) _
      have i7 : ((w3.setCell ⟨w.heap.size, 1, none⟩ (.bool true)).setCell ⟨w.heap.size, 2, none⟩ (.int .i64 0)).cell? ⟨b, 304, none⟩ = some (.bool false) := by obtain ⟨f, o, ho, hl, hr, hf⟩ := hR4; exact hr.cg
      clear hx3 hR3 hb4
      go_wp2_with fail
      generalize (w3.setCell ⟨w.heap.size, 1, none⟩ (.bool true)).setCell ⟨w.heap.size, 2, none⟩ (.int .i64 0) = w4 at *
      have HR2 : Hid (R64 (t, true, 0).2.2) := (by show R64 0; exact ⟨by decide, by decide⟩)
      have hR5 : Rl w4.drew b r k now false := hR4.later (Below.refl _ _).drew
      have hx5 : BoxS w4.drew w.heap.size (t, true, 0) := hx4.later (Below.refl _ _).drew
      have hS0 : (fun W : World => W.cell? ⟨w.heap.size, 0, none⟩ = some (Value.int .i64 t) ∧ W.cell? ⟨w.heap.size, 1, none⟩ = some (Value.bool true) ∧ W.cell? ⟨w.heap.size, 2, none⟩ = some (Value.int .i64 0)) _ := ⟨hx5.c0, hx5.c1, hx5.c2⟩
      refine wp_region_noPanic ?_
      refine wp_region_held_drew (S := fun W : World => W.cell? ⟨w.heap.size, 0, none⟩ = some (Value.int .i64 t) ∧ W.cell? ⟨w.heap.size, 1, none⟩ = some (Value.bool true) ∧ W.cell? ⟨w.heap.size, 2, none⟩ = some (Value.int .i64 0)) (by kernel_rfl) hS0 (fun _ => ?_)
      refine take_at 0 (some 63) (.pointer (some ⟨b, 0, none⟩)) rfl rfl (by kernel_rfl) (by kernel_rfl) (by kernel_rfl) (fun _ _ _ h => h) (by rfl) (fun W hSw => by obtain ⟨q0, q1, q2⟩ := hSw; go_simp) hS0 ?_
      simp only [Act.put, List.setIfInBounds_toArray, List.set_cons_zero, List.set_cons_succ]
      refine take_at 1 (some 64) (.pointer (some ⟨b, 0, none⟩)) rfl rfl (by kernel_rfl) (by kernel_rfl) (by kernel_rfl) (fun _ _ _ h => h) (by rfl) (fun W hSw => by obtain ⟨q0, q1, q2⟩ := hSw; go_simp) hS0 ?_
      simp only [Act.put, List.setIfInBounds_toArray, List.set_cons_zero, List.set_cons_succ]
      refine take_at 2 (some 65) (.pointer (some ⟨b, 0, none⟩)) rfl rfl (by kernel_rfl) (by kernel_rfl) (by kernel_rfl) (fun _ _ _ h => h) (by rfl) (fun W hSw => by obtain ⟨q0, q1, q2⟩ := hSw; go_simp) hS0 ?_
      simp only [Act.put, List.setIfInBounds_toArray, List.set_cons_zero, List.set_cons_succ]
      refine take_at 3 (some 66) (.agg #[.pointer (some ⟨b, 0, none⟩)]) rfl rfl (by kernel_rfl) (by kernel_rfl) (by kernel_rfl) (fun _ _ _ h => h) (by rfl) (fun W hSw => by obtain ⟨q0, q1, q2⟩ := hSw; go_simp) hS0 ?_
      simp only [Act.put, List.setIfInBounds_toArray, List.set_cons_zero, List.set_cons_succ]
      refine take_at 4 (some 67) (.agg #[.int .i64 t, .bool true, .int .i64 0]) rfl rfl (by kernel_rfl) (by kernel_rfl) (by kernel_rfl) (fun _ _ _ h => h) (by rfl) (fun W hSw => by obtain ⟨q0, q1, q2⟩ := hSw; go_simp) hS0 ?_
      simp only [Act.put, List.setIfInBounds_toArray, List.set_cons_zero, List.set_cons_succ]
      refine wpAnyH_ready (rs := [5]) (by kernel_rfl) (by simp) ?_
      refine AllReadyH.cons rfl (fun K hK => ?_) AllReadyH.nil
      go_simp
      refine (adder_L b r k now false (t, true, 0) _ hR5 HPD.out HRR.out HR2.out hlen).mono ?_
      rintro e w6 ⟨rfl, hR6, hg6⟩
      have hx6 := hx5.kept hg6 (by simp; omega)
      have hS1 := (⟨hx6.c0, hx6.c1, hx6.c2⟩ : (fun W : World => W.cell? ⟨w.heap.size, 0, none⟩ = some (Value.int .i64 t) ∧ W.cell? ⟨w.heap.size, 1, none⟩ = some (Value.bool true) ∧ W.cell? ⟨w.heap.size, 2, none⟩ = some (Value.int .i64 0)) w6)
      refine hK.out _ _ hS1 (fun _ => ?_)
      clear hK K
      refine wpAnyH_done (by kernel_rfl) ?_ _
      refine NoPanic.normal ?_
      go_wp2
      go_ret
      exact ⟨by rw [HE.out]; rfl, by rw [HA.out, HE.out, if_pos rfl, HN.out, HT.out]; exact hR6, (grown_below (hb5.trans (Below.refl _ _).drew) (some b)).trans hg6⟩
  · have hla := fun W hW => last_any b r k now false W hW c4
    rw [HLS.out] at hla
    have hpos := List.length_pos_iff.2 c4
    have hl0 : l ≠ [] := fun e => c4 (HNL.out.2 e)
    obtain ⟨c, i3w, hcp⟩ : ∃ c : Nat, wa.cell? ⟨b, 301, none⟩ = some (.int .i64 c) ∧ 0 < c := ⟨r.length, by obtain ⟨f, o, ho, hl, hr, hf⟩ := hRa; exact hr.cc, hpos⟩
    have hc2 : (0 : Int) < (c : Int) := by omega
    generalize hxl : lst l = x at *
    have HX : Hid (lst l = x) := hxl
    clear hxl hpos hcp
    obtain ⟨xt, xo, xn⟩ := x
    dsimp only at *
    go_wp2_with fail
    have hR1 : Rl wa.drew b r k now false := hRa.later (Below.refl _ _).drew
    have hx1 : BoxS wa.drew w.heap.size (t, o, n) := hxa.later (Below.refl _ _).drew
    have hba1 : Below w.heap.size w wa.drew := hba.trans (Below.refl _ _).drew
    have i3 : wa.drew.cell? ⟨b, 301, none⟩ = some (.int .i64 c) := i3w
    have hS0 : (fun W : World => W.cell? ⟨b, 301, none⟩ = some (Value.int .i64 c) ∧ W.cell? ⟨w.heap.size, 0, none⟩ = some (Value.int .i64 t)) _ := ⟨i3, hx1.c0⟩
    refine wp_region_noPanic ?_
    refine wp_region_held_drew (S := fun W : World => W.cell? ⟨b, 301, none⟩ = some (Value.int .i64 c) ∧ W.cell? ⟨w.heap.size, 0, none⟩ = some (Value.int .i64 t)) (by kernel_rfl) hS0 (fun _ => ?_)
    refine take_at 0 (some 31) (.pointer (some ⟨b, 0, none⟩)) rfl rfl (by kernel_rfl) (by kernel_rfl) (by kernel_rfl) (fun _ _ _ h => h) (by rfl) (fun W hSw => by obtain ⟨q0, q1⟩ := hSw; go_simp) hS0 ?_
    simp only [Act.put, List.setIfInBounds_toArray, List.set_cons_zero, List.set_cons_succ]
    refine take_at 1 (some 32) (.pointer (some ⟨b, 0, none⟩)) rfl rfl (by kernel_rfl) (by kernel_rfl) (by kernel_rfl) (fun _ _ _ h => h) (by rfl) (fun W hSw => by obtain ⟨q0, q1⟩ := hSw; go_simp) hS0 ?_
    simp only [Act.put, List.setIfInBounds_toArray, List.set_cons_zero, List.set_cons_succ]
    refine take_at 2 (some 33) (.pointer (some ⟨b, 0, none⟩)) rfl rfl (by kernel_rfl) (by kernel_rfl) (by kernel_rfl) (fun _ _ _ h => h) (by rfl) (fun W hSw => by obtain ⟨q0, q1⟩ := hSw; go_simp) hS0 ?_
    simp only [Act.put, List.setIfInBounds_toArray, List.set_cons_zero, List.set_cons_succ]
    refine take_at 3 (some 34) (.pointer (some ⟨b, 301, none⟩)) rfl rfl (by kernel_rfl) (by kernel_rfl) (by kernel_rfl) (fun _ _ _ h => h) (by rfl) (fun W hSw => by obtain ⟨q0, q1⟩ := hSw; go_simp) hS0 ?_
    simp only [Act.put, List.setIfInBounds_toArray, List.set_cons_zero, List.set_cons_succ]
    refine take_at 4 (some 35) (.int .i64 c) rfl rfl (by kernel_rfl) (by kernel_rfl) (by kernel_rfl) (fun _ _ _ h => h) (by rfl) (fun W hSw => by obtain ⟨q0, q1⟩ := hSw; go_simp) hS0 ?_
    simp only [Act.put, List.setIfInBounds_toArray, List.set_cons_zero, List.set_cons_succ]
    refine take_at 5 (some 36) (.bool true) rfl rfl (by kernel_rfl) (by kernel_rfl) (by kernel_rfl) (fun _ _ _ h => h) (by rfl) (fun W hSw => by obtain ⟨q0, q1⟩ := hSw; go_simp; omega) hS0 ?_
    simp only [Act.put, List.setIfInBounds_toArray, List.set_cons_zero, List.set_cons_succ]
    refine take_at 6 (some 37) (.bool true) rfl rfl (by kernel_rfl) (by kernel_rfl) (by kernel_rfl) (fun _ _ _ h => h) (by rfl) (fun W hSw => by obtain ⟨q0, q1⟩ := hSw; go_simp) hS0 ?_
    simp only [Act.put, List.setIfInBounds_toArray, List.set_cons_zero, List.set_cons_succ]
    refine take_at 7 (some 38) (.pointer (some ⟨w.heap.size, 0, none⟩)) rfl rfl (by kernel_rfl) (by kernel_rfl) (by kernel_rfl) (fun _ _ _ h => h) (by rfl) (fun W hSw => by obtain ⟨q0, q1⟩ := hSw; go_simp) hS0 ?_
    simp only [Act.put, List.setIfInBounds_toArray, List.set_cons_zero, List.set_cons_succ]
    refine take_at 8 (some 39) (.int .i64 t) rfl rfl (by kernel_rfl) (by kernel_rfl) (by kernel_rfl) (fun _ _ _ h => h) (by rfl) (fun W hSw => by obtain ⟨q0, q1⟩ := hSw; go_simp) hS0 ?_
    simp only [Act.put, List.setIfInBounds_toArray, List.set_cons_zero, List.set_cons_succ]
    refine take_at 9 (some 40) (.pointer (some ⟨b, 0, none⟩)) rfl rfl (by kernel_rfl) (by kernel_rfl) (by kernel_rfl) (fun _ _ _ h => h) (by rfl) (fun W hSw => by obtain ⟨q0, q1⟩ := hSw; go_simp) hS0 ?_
    simp only [Act.put, List.setIfInBounds_toArray, List.set_cons_zero, List.set_cons_succ]
    refine take_at 10 (some 41) (.pointer (some ⟨b, 0, none⟩)) rfl rfl (by kernel_rfl) (by kernel_rfl) (by kernel_rfl) (fun _ _ _ h => h) (by rfl) (fun W hSw => by obtain ⟨q0, q1⟩ := hSw; go_simp) hS0 ?_
    simp only [Act.put, List.setIfInBounds_toArray, List.set_cons_zero, List.set_cons_succ]
    refine take_at 11 (some 42) (.pointer (some ⟨b, 0, none⟩)) rfl rfl (by kernel_rfl) (by kernel_rfl) (by kernel_rfl) (fun _ _ _ h => h) (by rfl) (fun W hSw => by obtain ⟨q0, q1⟩ := hSw; go_simp) hS0 ?_
    simp only [Act.put, List.setIfInBounds_toArray, List.set_cons_zero, List.set_cons_succ]
    refine wpAnyH_ready (rs := [12]) (by kernel_rfl) (by simp) ?_
    refine AllReadyH.cons rfl (fun K hK => ?_) AllReadyH.nil
    go_simp
    refine (hla _ hR1).mono ?_
    rintro e w3 ⟨rfl, hb3⟩
    have hS1 := (⟨(hb3.cell (World.block_lt_of_cell? _ _ i3)).trans i3, (hx1.later hb3).c0⟩ : (fun W : World => W.cell? ⟨b, 301, none⟩ = some (Value.int .i64 c) ∧ W.cell? ⟨w.heap.size, 0, none⟩ = some (Value.int .i64 t)) w3)
    refine hK.out _ _ hS1 (fun _ => ?_)
    clear hK K
    refine take_at 13 (some 44) (.int .i64 xt) rfl rfl (by kernel_rfl) (by kernel_rfl) (by kernel_rfl) (fun _ _ _ h => h) (by rfl) (fun W hSw => by obtain ⟨q0, q1⟩ := hSw; go_simp) hS1 ?_
    simp only [Act.put, List.setIfInBounds_toArray, List.set_cons_zero, List.set_cons_succ]
    have hR2 := hR1.later hb3
    have hx2 := hx1.later hb3
    have hb2 := Below.chain hba1 hb3
    clear hla hR1 hx1 hba1 hRa hxa hba i3 i3w
    obtain ⟨c0, c1, c2, f0, f1, f2⟩ := id hx2
    by_cases c5 : t ≤ xt
    · have HE : Hid (adE l k now t = 150) := adE_old HO.out ⟨hl0, by rw [HX.out]; exact c5⟩
      have d5 := c5
      clear c4 c5
      refine take_at 14 (some 45) (.bool true) rfl rfl (by kernel_rfl) (by kernel_rfl) (by kernel_rfl) (fun _ _ _ h => h) (by rfl) (fun W hSw => by obtain ⟨q0, q1⟩ := hSw; go_simp) hS1 ?_
      simp only [Act.put, List.setIfInBounds_toArray, List.set_cons_zero, List.set_cons_succ]
      refine take_at 15 (some 46) (.bool true) rfl rfl (by kernel_rfl) (by kernel_rfl) (by kernel_rfl) (fun _ _ _ h => h) (by rfl) (fun W hSw => by obtain ⟨q0, q1⟩ := hSw; go_simp) hS1 ?_
      simp only [Act.put, List.setIfInBounds_toArray, List.set_cons_zero, List.set_cons_succ]
      refine wpAnyH_done (by kernel_rfl) ?_ _
      refine NoPanic.normal ?_
      go_wp2
      go_ret
      exact ⟨by rw [HE.out]; rfl, by rw [HA.out, HE.out, if_neg (by decide), HR.out]; exact hR2, grown_below hb2 (some b)⟩
    · have HE : Hid (adE l k now t = 0) := adE_ok HO.out (fun e => c5 (by have := e.2; rw [HX.out] at this; exact this))
      have hlen : r.length < 100 := HLen.out (fun e => c5 (by have := e.2; exact this))
      have d5 := c5
      clear c4 c5
      refine take_at 14 (some 45) (.bool false) rfl rfl (by kernel_rfl) (by kernel_rfl) (by kernel_rfl) (fun _ _ _ h => h) (by rfl) (fun W hSw => by obtain ⟨q0, q1⟩ := hSw; go_simp) hS1 ?_
      simp only [Act.put, List.setIfInBounds_toArray, List.set_cons_zero, List.set_cons_succ]
      refine take_at 15 (some 46) (.bool false) rfl rfl (by kernel_rfl) (by kernel_rfl) (by kernel_rfl) (fun _ _ _ h => h) (by rfl) (fun W hSw => by obtain ⟨q0, q1⟩ := hSw; go_simp) hS1 ?_
      simp only [Act.put, List.setIfInBounds_toArray, List.set_cons_zero, List.set_cons_succ]
      refine wpAnyH_done (by kernel_rfl) ?_ _
      refine NoPanic.normal ?_
      generalize w3 = w2 at *
      go_wp2_with fail
      refine (is_any o n _).mono ?_
      rintro e w3 ⟨rfl, hb3⟩
      have hx3 := hx2.later hb3
      have hR3 := hR2.later hb3
      have hb4 := Below.chain hb2 hb3
      clear hR2 hx2 hb2
      cases hi : fIs o n with
      | true =>
        obtain ⟨n1, n2⟩ := is_cnt hi
        have HN : Hid (nrm (t, o, n) = (t, o, n)) := by show (t, ov (cnt o n), nn (cnt o n)) = _; rw [n1, n2]
        have HT := HKP.out (t, o, n)
        clear n1 n2
        have hx4 := hx3
        have hR4 := hR3
        have hb5 := hb4
        clear hx3 hR3 hb4
        generalize w3 = w4 at *
        have i7 : w4.cell? ⟨b, 304, none⟩ = some (.bool false) := by obtain ⟨f, o, ho, hl, hr, hf⟩ := hR4; exact hr.cg
        have HR2 : Hid (R64 (t, o, n).2.2) := hr
        go_wp2_with fail
        have hR5 : Rl w4.drew b r k now false := hR4.later (Below.refl _ _).drew
        have hx5 : BoxS w4.drew w.heap.size (t, o, n) := hx4.later (Below.refl _ _).drew
        have hS0 : (fun W : World => W.cell? ⟨w.heap.size, 0, none⟩ = some (Value.int .i64 t) ∧ W.cell? ⟨w.heap.size, 1, none⟩ = some (Value.bool o) ∧ W.cell? ⟨w.heap.size, 2, none⟩ = some (Value.int .i64 n)) _ := ⟨hx5.c0, hx5.c1, hx5.c2⟩
        refine wp_region_noPanic ?_
        refine wp_region_held_drew (S := fun W : World => W.cell? ⟨w.heap.size, 0, none⟩ = some (Value.int .i64 t) ∧ W.cell? ⟨w.heap.size, 1, none⟩ = some (Value.bool o) ∧ W.cell? ⟨w.heap.size, 2, none⟩ = some (Value.int .i64 n)) (by kernel_rfl) hS0 (fun _ => ?_)
        refine take_at 0 (some 63) (.pointer (some ⟨b, 0, none⟩)) rfl rfl (by kernel_rfl) (by kernel_rfl) (by kernel_rfl) (fun _ _ _ h => h) (by rfl) (fun W hSw => by obtain ⟨q0, q1, q2⟩ := hSw; go_simp) hS0 ?_
        simp only [Act.put, List.setIfInBounds_toArray, List.set_cons_zero, List.set_cons_succ]
        refine take_at 1 (some 64) (.pointer (some ⟨b, 0, none⟩)) rfl rfl (by kernel_rfl) (by kernel_rfl) (by kernel_rfl) (fun _ _ _ h => h) (by rfl) (fun W hSw => by obtain ⟨q0, q1, q2⟩ := hSw; go_simp) hS0 ?_
        simp only [Act.put, List.setIfInBounds_toArray, List.set_cons_zero, List.set_cons_succ]
        refine take_at 2 (some 65) (.pointer (some ⟨b, 0, none⟩)) rfl rfl (by kernel_rfl) (by kernel_rfl) (by kernel_rfl) (fun _ _ _ h => h) (by rfl) (fun W hSw => by obtain ⟨q0, q1, q2⟩ := hSw; go_simp) hS0 ?_
        simp only [Act.put, List.setIfInBounds_toArray, List.set_cons_zero, List.set_cons_succ]
        refine take_at 3 (some 66) (.agg #[.pointer (some ⟨b, 0, none⟩)]) rfl rfl (by kernel_rfl) (by kernel_rfl) (by kernel_rfl) (fun _ _ _ h => h) (by rfl) (fun W hSw => by obtain ⟨q0, q1, q2⟩ := hSw; go_simp) hS0 ?_
        simp only [Act.put, List.setIfInBounds_toArray, List.set_cons_zero, List.set_cons_succ]
        refine take_at 4 (some 67) (.agg #[.int .i64 t, .bool o, .int .i64 n]) rfl rfl (by kernel_rfl) (by kernel_rfl) (by kernel_rfl) (fun _ _ _ h => h) (by rfl) (fun W hSw => by obtain ⟨q0, q1, q2⟩ := hSw; go_simp) hS0 ?_
        simp only [Act.put, List.setIfInBounds_toArray, List.set_cons_zero, List.set_cons_succ]
        refine wpAnyH_ready (rs := [5]) (by kernel_rfl) (by simp) ?_
        refine AllReadyH.cons rfl (fun K hK => ?_) AllReadyH.nil
        go_simp
        refine (adder_L b r k now false (t, o, n) _ hR5 HPD.out HRR.out HR2.out hlen).mono ?_
        rintro e w6 ⟨rfl, hR6, hg6⟩
        have hx6 := hx5.kept hg6 (by simp; omega)
        have hS1 := (⟨hx6.c0, hx6.c1, hx6.c2⟩ : (fun W : World => W.cell? ⟨w.heap.size, 0, none⟩ = some (Value.int .i64 t) ∧ W.cell? ⟨w.heap.size, 1, none⟩ = some (Value.bool o) ∧ W.cell? ⟨w.heap.size, 2, none⟩ = some (Value.int .i64 n)) w6)
        refine hK.out _ _ hS1 (fun _ => ?_)
        clear hK K
        refine wpAnyH_done (by kernel_rfl) ?_ _
        refine NoPanic.normal ?_
        go_wp2
        go_ret
        exact ⟨by rw [HE.out]; rfl, by rw [HA.out, HE.out, if_pos rfl, HN.out, HT.out]; exact hR6, (grown_below (hb5.trans (Below.refl _ _).drew) (some b)).trans hg6⟩
      | false =>
        have HN : Hid (nrm (t, o, n) = (t, true, 0)) := by show (t, ov (cnt o n), nn (cnt o n)) = _; rw [isnt_cnt hr.1 hi]; rfl
        have HT := HKP.out (t, true, 0)
        obtain ⟨c0, c1, c2, f0, f1, f2⟩ := id hx3
        have hx4 : BoxS ((w3.setCell ⟨w.heap.size, 1, none⟩ (.bool true)).setCell ⟨w.heap.size, 2, none⟩ (.int .i64 0)) w.heap.size (t, true, 0) := hx3.putV true 0
        have hR4 : Rl ((w3.setCell ⟨w.heap.size, 1, none⟩ (.bool true)).setCell ⟨w.heap.size, 2, none⟩ (.int .i64 0)) b r k now false := hR3.kept ((grown_set _ _ _ _).trans (grown_set _ _ _ _)) (by simp; omega)
        have hb5 : Below w.heap.size w ((w3.setCell ⟨w.heap.size, 1, none⟩ (.bool true)).setCell ⟨w.heap.size, 2, none⟩ (.int .i64 0)) := (hb4.setCell (p := ⟨w.heap.size, 1, none⟩) (Nat.le_refl _) _).setCell (p := ⟨w.heap.size, 2, none⟩) (Nat.le_refl _) _
        have i7 : ((w3.setCell ⟨w.heap.size, 1, none⟩ (.bool true)).setCell ⟨w.heap.size, 2, none⟩ (.int .i64 0)).cell? ⟨b, 304, none⟩ = some (.bool false) := by obtain ⟨f, o, ho, hl, hr, hf⟩ := hR4; exact hr.cg
        clear hx3 hR3 hb4
        go_wp2_with fail
        generalize (w3.setCell ⟨w.heap.size, 1, none⟩ (.bool true)).setCell ⟨w.heap.size, 2, none⟩ (.int .i64 0) = w4 at *
        have HR2 : Hid (R64 (t, true, 0).2.2) := (by show R64 0; exact ⟨by decide, by decide⟩)
        have hR5 : Rl w4.drew b r k now false := hR4.later (Below.refl _ _).drew
        have hx5 : BoxS w4.drew w.heap.size (t, true, 0) := hx4.later (Below.refl _ _).drew
        have hS0 : (fun W : World => W.cell? ⟨w.heap.size, 0, none⟩ = some (Value.int .i64 t) ∧ W.cell? ⟨w.heap.size, 1, none⟩ = some (Value.bool true) ∧ W.cell? ⟨w.heap.size, 2, none⟩ = some (Value.int .i64 0)) _ := ⟨hx5.c0, hx5.c1, hx5.c2⟩
        refine wp_region_noPanic ?_
        refine wp_region_held_drew (S := fun W : World => W.cell? ⟨w.heap.size, 0, none⟩ = some (Value.int .i64 t) ∧ W.cell? ⟨w.heap.size, 1, none⟩ = some (Value.bool true) ∧ W.cell? ⟨w.heap.size, 2, none⟩ = some (Value.int .i64 0)) (by kernel_rfl) hS0 (fun _ => ?_)
        refine take_at 0 (some 63) (.pointer (some ⟨b, 0, none⟩)) rfl rfl (by kernel_rfl) (by kernel_rfl) (by kernel_rfl) (fun _ _ _ h => h) (by rfl) (fun W hSw => by obtain ⟨q0, q1, q2⟩ := hSw; go_simp) hS0 ?_
        simp only [Act.put, List.setIfInBounds_toArray, List.set_cons_zero, List.set_cons_succ]
        refine take_at 1 (some 64) (.pointer (some ⟨b, 0, none⟩)) rfl rfl (by kernel_rfl) (by kernel_rfl) (by kernel_rfl) (fun _ _ _ h => h) (by rfl) (fun W hSw => by obtain ⟨q0, q1, q2⟩ := hSw; go_simp) hS0 ?_
        simp only [Act.put, List.setIfInBounds_toArray, List.set_cons_zero, List.set_cons_succ]
        refine take_at 2 (some 65) (.pointer (some ⟨b, 0, none⟩)) rfl rfl (by kernel_rfl) (by kernel_rfl) (by kernel_rfl) (fun _ _ _ h => h) (by rfl) (fun W hSw => by obtain ⟨q0, q1, q2⟩ := hSw; go_simp) hS0 ?_
        simp only [Act.put, List.setIfInBounds_toArray, List.set_cons_zero, List.set_cons_succ]
        refine take_at 3 (some 66) (.agg #[.pointer (some ⟨b, 0, none⟩)]) rfl rfl (by kernel_rfl) (by kernel_rfl) (by kernel_rfl) (fun _ _ _ h => h) (by rfl) (fun W hSw => by obtain ⟨q0, q1, q2⟩ := hSw; go_simp) hS0 ?_
        simp only [Act.put, List.setIfInBounds_toArray, List.set_cons_zero, List.set_cons_succ]
        refine take_at 4 (some 67) (.agg #[.int .i64 t, .bool true, .int .i64 0]) rfl rfl (by kernel_rfl) (by kernel_rfl) (by kernel_rfl) (fun _ _ _ h => h) (by rfl) (fun W hSw => by obtain ⟨q0, q1, q2⟩ := hSw; go_simp) hS0 ?_
        simp only [Act.put, List.setIfInBounds_toArray, List.set_cons_zero, List.set_cons_succ]
        refine wpAnyH_ready (rs := [5]) (by kernel_rfl) (by simp) ?_
        refine AllReadyH.cons rfl (fun K hK => ?_) AllReadyH.nil
        go_simp
        refine (adder_L b r k now false (t, true, 0) _ hR5 HPD.out HRR.out HR2.out hlen).mono ?_
        rintro e w6 ⟨rfl, hR6, hg6⟩
        have hx6 := hx5.kept hg6 (by simp; omega)
        have hS1 := (⟨hx6.c0, hx6.c1, hx6.c2⟩ : (fun W : World => W.cell? ⟨w.heap.size, 0, none⟩ = some (Value.int .i64 t) ∧ W.cell? ⟨w.heap.size, 1, none⟩ = some (Value.bool true) ∧ W.cell? ⟨w.heap.size, 2, none⟩ = some (Value.int .i64 0)) w6)
        refine hK.out _ _ hS1 (fun _ => ?_)
        clear hK K
        refine wpAnyH_done (by kernel_rfl) ?_ _
        refine NoPanic.normal ?_
        go_wp2
        go_ret
        exact ⟨by rw [HE.out]; rfl, by rw [HA.out, HE.out, if_pos rfl, HN.out, HT.out]; exact hR6, (grown_below (hb5.trans (Below.refl _ _).drew) (some b)).trans hg6⟩
theorem add_anyL (b : Nat) (l : List Smp) (k now : Int) (s : Smp) (w : World) (h : Rl w b (thn (kg false) l) k now false) (hw : Wf l k now) (hr : R64 s.2.2) :
    Calls Try.prog 10 #[.pointer (some ⟨b, 0, none⟩), sv s] w fun e w' => e = .returned (.int .i64 (adE l k now s.1)) ∧ Rl w' b (thn (kg false) (adL l k now s)) k now false ∧ w.grownBy w' (some b) := by
  by_cases ho : s.1 < 0 ∨ now < s.1 ∨ s.1 ≤ now - k
  · have e : adE l k now s.1 = 152 := adE_out ho
    rw [show adL l k now s = l by unfold adL; rw [e, if_neg (by decide)], e]
    exact (add_out b _ k now false s w h hw.k1 hw.n1 ho).mono fun e w' ⟨h1, h2⟩ => ⟨h1, h.later h2, grown_below h2 _⟩
  · exact add_inL b l k now s w h hw hr ho
end Go.Proofs.Ytpemknkkignmcaa
