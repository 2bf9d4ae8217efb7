/- forget: of every counter. -/
import Derived.Test.YthcakiibkocheaaCOne
namespace Go.Proofs.Ythcakiibkocheaa
open Go.RowKit

set_option maxHeartbeats 4000000 in
theorem forget_any (b : Nat) (l : List Smp) (k now : Int) (t : Int) (w : World) (h : Rl w b l k now) :
    Calls Try.prog 23 #[.pointer (some ⟨b, 0, none⟩), .int .i64 t] w fun e w' => e = .returned (.tuple #[]) ∧ Rl w' b (fg t l) k now ∧ w.grownBy w' (some b) := by
  have hle := h.le
  obtain ⟨c, hc⟩ : ∃ c, l.length = c := ⟨_, rfl⟩
  have HL : Hid (l.length = c) := hc
  have hc1 := h.count
  rw [hc] at hc1 hle
  clear hc
  obtain ⟨f, _, hr, hf⟩ := id h
  have HT : Hid (∀ j, j < c → w.cell? ⟨b, j * 3, none⟩ = some (.int .i64 (l.getD j s0).1)) := by
    intro j hj
    have := hr.ct j (by omega)
    rw [hf j (by rw [HL.out]; exact hj)] at this
    exact this
  clear hr hf f
  go_enter Try.func23, Try.ntmps23
  go_wp2_with fail
  go_loopw [4] (fun i wr => ∃ j : Nat, j ≤ c ∧ i = .int .i64 j ∧ Hid (fg t (l.drop j) = fg t l) ∧ wr = w) (fun i _ => c - (intOf i).toNat)
  case atStart => exact ⟨0, by omega, rfl, rfl, rfl⟩
  case round =>
    obtain ⟨j, hj, rfl, hfg, rfl⟩ := hrel
    by_cases hlt : j < c
    · have hd : decide ((j : Int) < (c : Int)) = true := decide_eq_true (by omega)
      have h1 := HT.out j hlt
      have HD : Hid ((l.getD j s0).1 ≤ t → fg t (l.drop (j + 1)) = fg t l) := fun e => (fg_drop t l j (by rw [HL.out]; exact hlt) e).trans hfg.out
      have HE : Hid (¬ (l.getD j s0).1 ≤ t → l.drop j = fg t l) := fun e => (fg_stop t l j (fun _ => e)).symm.trans hfg.out
      generalize (l.getD j s0).1 = st at *
      have hj100 : j < 100 := by omega
      by_cases ht : st ≤ t
      · have hd2 : decide (st ≤ t) = true := decide_eq_true ht
        have HN := HD.out ht
        have HN' : Hid (fg t (l.drop (j + 1)) = fg t l) := HN
        clear ht HD HE HN hfg
        go_wp2
        go_roundw
        case rel => exact ⟨j + 1, hlt, by go_num, HN', trivial⟩
        case measure => simp [intOf]; omega
      · have hd2 : decide (st ≤ t) = false := decide_eq_false ht
        have HN : Hid (l.drop j = fg t l) := HE.out ht
        clear ht HD HE hfg
        go_wp2_with fail
        have HS : Hid (∀ W, (Instr.sliceAt 54 (.pointer (some ⟨b, 0, none⟩)) (some (.int .i64 j)) (some (.int .i64 c)) none).run Try.prog W = .ok (.slice (some (cutA b j)) (c - j) (100 - j)) W) := slice_lh b j c hj hle
        have HC : Hid ((Builtin.copy_ #[26, 26] 3 #[.slice (some ⟨b, 0, none⟩) 100 100, .slice (some (cutA b j)) (c - j) (100 - j)]).run Try.prog wr.drew = .ok (.int .i64 (c - j : Nat)) (wr.drew.setCells b 0 (cellsS (l.drop j)))) := by
          have h2 := h.later (Below.refl _ _).drew
          obtain ⟨f, hl, hr, hf⟩ := id h2
          exact run_copy3 wr.drew b 100 (cutA b j) (c - j) (100 - j) (l.drop j) (by rw [List.length_drop, HL.out]) (by omega) (h2.source j)
            (fun q hq => by
              rcases (by omega : q % 3 = 0 ∨ q % 3 = 1 ∨ q % 3 = 2) with e | e | e
              · rw [show q = q / 3 * 3 by omega, hr.ct _ (by omega)]; rfl
              · rw [show q = q / 3 * 3 + 1 by omega, hr.cv _ (by omega)]; rfl
              · rw [show q = q / 3 * 3 + 2 by omega, hr.cn _ (by omega)]; rfl)
            (fun q hq => hr.fz q (by omega))
        have hM := (h.later (Below.refl _ _).drew).moved j (c - j) (by rw [HL.out]; exact hj) (by rw [HL.out])
        have hgc := (grown_below (Below.refl _ wr).drew (some b)).trans (grown_setCells b (cellsS (l.drop j)) 0 wr.drew)
        have q300 : wr.drew.cell? ⟨b, 300, none⟩ = some (.int .i64 c) := hc1
        have q300c : (wr.drew.setCells b 0 (cellsS (l.drop j))).cell? ⟨b, 300, none⟩ = some (.int .i64 c) := by
          rw [World.cell?_setCells_out b _ _ _ _ (fun _ _ => Or.inr (by show 0 + (cellsS (l.drop j)).length ≤ 300; rw [cellsS_length, List.length_drop, HL.out]; omega))]
          exact q300
        have f300c : (wr.drew.setCells b 0 (cellsS (l.drop j))).frozen? ⟨b, 300, none⟩ = false := by
          rw [World.frozen?_setCells]
          obtain ⟨f, hl, hr, hf⟩ := h.later (Below.refl _ _).drew
          exact hr.fz 300 (by omega)
        generalize wr.drew.setCells b 0 (cellsS (l.drop j)) = wc at *
        generalize cutA b j = A at *
        have ew : IntKind.i64.wrap ((c : Int) - j) = ((c - j : Nat) : Int) := by rw [wI (by omega) (by omega)]; omega
        generalize c - j = m at *
        generalize 100 - j = m2 at *
        have EW : Hid (IntKind.i64.wrap ((c : Int) - j) = (m : Int)) := ew
        have EW2 : Hid ((c : Int) - j = (m : Int)) := by show _ = _; rw [← ew, wI (by omega) (by omega)]
        clear ew
        have hS0 : (fun W : World => W.cell? ⟨b, 300, none⟩ = some (Value.int .i64 c)) _ := q300
        refine wp_region_noPanic ?_
        refine wp_region_held_drew (S := fun W : World => W.cell? ⟨b, 300, none⟩ = some (Value.int .i64 c)) (by kernel_rfl) hS0 (fun _ => ?_)
        refine take_at 0 (some 24) (.pointer (some ⟨b, 0, none⟩)) rfl rfl (by kernel_rfl) (by kernel_rfl) (by kernel_rfl) (fun _ _ _ h => h) (by rfl) (fun W hSw => by have q0 : W.cell? ⟨b, 300, none⟩ = some (Value.int .i64 c) := hSw; go_simp) hS0 ?_
        simp only [Act.put, List.setIfInBounds_toArray, List.set_cons_zero, List.set_cons_succ]
        refine take_at 1 (some 25) (.pointer (some ⟨b, 0, none⟩)) rfl rfl (by kernel_rfl) (by kernel_rfl) (by kernel_rfl) (fun _ _ _ h => h) (by rfl) (fun W hSw => by have q0 : W.cell? ⟨b, 300, none⟩ = some (Value.int .i64 c) := hSw; go_simp) hS0 ?_
        simp only [Act.put, List.setIfInBounds_toArray, List.set_cons_zero, List.set_cons_succ]
        refine take_at 2 (some 26) (.pointer (some ⟨b, 0, none⟩)) rfl rfl (by kernel_rfl) (by kernel_rfl) (by kernel_rfl) (fun _ _ _ h => h) (by rfl) (fun W hSw => by have q0 : W.cell? ⟨b, 300, none⟩ = some (Value.int .i64 c) := hSw; go_simp) hS0 ?_
        simp only [Act.put, List.setIfInBounds_toArray, List.set_cons_zero, List.set_cons_succ]
        refine take_at 3 (some 27) (.slice (some ⟨b, 0, none⟩) 100 100) rfl rfl (by kernel_rfl) (by kernel_rfl) (by kernel_rfl) (fun _ _ _ h => h) (by rfl) (fun W hSw => by have q0 : W.cell? ⟨b, 300, none⟩ = some (Value.int .i64 c) := hSw; go_simp) hS0 ?_
        simp only [Act.put, List.setIfInBounds_toArray, List.set_cons_zero, List.set_cons_succ]
        refine take_at 4 (some 28) (.pointer (some ⟨b, 0, none⟩)) rfl rfl (by kernel_rfl) (by kernel_rfl) (by kernel_rfl) (fun _ _ _ h => h) (by rfl) (fun W hSw => by have q0 : W.cell? ⟨b, 300, none⟩ = some (Value.int .i64 c) := hSw; go_simp) hS0 ?_
        simp only [Act.put, List.setIfInBounds_toArray, List.set_cons_zero, List.set_cons_succ]
        refine take_at 5 (some 29) (.pointer (some ⟨b, 0, none⟩)) rfl rfl (by kernel_rfl) (by kernel_rfl) (by kernel_rfl) (fun _ _ _ h => h) (by rfl) (fun W hSw => by have q0 : W.cell? ⟨b, 300, none⟩ = some (Value.int .i64 c) := hSw; go_simp) hS0 ?_
        simp only [Act.put, List.setIfInBounds_toArray, List.set_cons_zero, List.set_cons_succ]
        refine take_at 6 (some 30) (.pointer (some ⟨b, 0, none⟩)) rfl rfl (by kernel_rfl) (by kernel_rfl) (by kernel_rfl) (fun _ _ _ h => h) (by rfl) (fun W hSw => by have q0 : W.cell? ⟨b, 300, none⟩ = some (Value.int .i64 c) := hSw; go_simp) hS0 ?_
        simp only [Act.put, List.setIfInBounds_toArray, List.set_cons_zero, List.set_cons_succ]
        refine take_at 7 (some 31) (.int .i64 j) rfl rfl (by kernel_rfl) (by kernel_rfl) (by kernel_rfl) (fun _ _ _ h => h) (by rfl) (fun W hSw => by have q0 : W.cell? ⟨b, 300, none⟩ = some (Value.int .i64 c) := hSw; go_simp) hS0 ?_
        simp only [Act.put, List.setIfInBounds_toArray, List.set_cons_zero, List.set_cons_succ]
        refine take_at 8 (some 32) (.pointer (some ⟨b, 0, none⟩)) rfl rfl (by kernel_rfl) (by kernel_rfl) (by kernel_rfl) (fun _ _ _ h => h) (by rfl) (fun W hSw => by have q0 : W.cell? ⟨b, 300, none⟩ = some (Value.int .i64 c) := hSw; go_simp) hS0 ?_
        simp only [Act.put, List.setIfInBounds_toArray, List.set_cons_zero, List.set_cons_succ]
        refine take_at 9 (some 33) (.pointer (some ⟨b, 0, none⟩)) rfl rfl (by kernel_rfl) (by kernel_rfl) (by kernel_rfl) (fun _ _ _ h => h) (by rfl) (fun W hSw => by have q0 : W.cell? ⟨b, 300, none⟩ = some (Value.int .i64 c) := hSw; go_simp) hS0 ?_
        simp only [Act.put, List.setIfInBounds_toArray, List.set_cons_zero, List.set_cons_succ]
        refine take_at 10 (some 34) (.pointer (some ⟨b, 300, none⟩)) rfl rfl (by kernel_rfl) (by kernel_rfl) (by kernel_rfl) (fun _ _ _ h => h) (by rfl) (fun W hSw => by have q0 : W.cell? ⟨b, 300, none⟩ = some (Value.int .i64 c) := hSw; go_simp) hS0 ?_
        simp only [Act.put, List.setIfInBounds_toArray, List.set_cons_zero, List.set_cons_succ]
        refine take_at 11 (some 35) (.int .i64 c) rfl rfl (by kernel_rfl) (by kernel_rfl) (by kernel_rfl) (fun _ _ _ h => h) (by rfl) (fun W hSw => by have q0 : W.cell? ⟨b, 300, none⟩ = some (Value.int .i64 c) := hSw; go_simp) hS0 ?_
        simp only [Act.put, List.setIfInBounds_toArray, List.set_cons_zero, List.set_cons_succ]
        refine take_at 12 (some 36) (.slice (some A) m m2) rfl rfl (by kernel_rfl) (by kernel_rfl) (by kernel_rfl) (fun _ _ _ h => h) (by rfl) (fun W hSw => by go_simp; rw [HS.out W]; rfl) hS0 ?_
        simp only [Act.put, List.setIfInBounds_toArray, List.set_cons_zero, List.set_cons_succ]
        refine wpAnyH_ready (rs := [13]) (by kernel_rfl) (by simp) ?_
        refine AllReadyH.cons rfl (fun K hK => ?_) AllReadyH.nil
        refine step_copy3 _ _ (some 37) rfl rfl rfl (by rfl) _ _ rfl rfl HC.out ?_
        have hS1 := (q300c : (fun W : World => W.cell? ⟨b, 300, none⟩ = some (Value.int .i64 c)) wc)
        refine hK.out _ _ hS1 (fun _ => ?_)
        clear hK K
        refine wpAnyH_done (by kernel_rfl) ?_ _
        refine NoPanic.normal ?_
        go_wp2
        go_end0
        exact ⟨rfl, by rw [← HN.out, EW2.out]; exact hM, hgc.trans (grown_set _ _ _ _)⟩
    · have hd : decide ((j : Int) < (c : Int)) = false := decide_eq_false (by omega)
      have HN : Hid (l.drop j = fg t l) := (fg_stop t l j (fun e => absurd e (by rw [HL.out]; exact hlt))).symm.trans hfg.out
      have hd2 : decide (j < c) = false := decide_eq_false hlt
      clear hfg
      go_wp2_with fail
      have HS : Hid (∀ W, (Instr.sliceAt 54 (.pointer (some ⟨b, 0, none⟩)) (some (.int .i64 j)) (some (.int .i64 c)) none).run Try.prog W = .ok (.slice (some (cutA b j)) (c - j) (100 - j)) W) := slice_lh b j c hj hle
      have HC : Hid ((Builtin.copy_ #[26, 26] 3 #[.slice (some ⟨b, 0, none⟩) 100 100, .slice (some (cutA b j)) (c - j) (100 - j)]).run Try.prog wr.drew = .ok (.int .i64 (c - j : Nat)) (wr.drew.setCells b 0 (cellsS (l.drop j)))) := by
        have h2 := h.later (Below.refl _ _).drew
        obtain ⟨f, hl, hr, hf⟩ := id h2
        exact run_copy3 wr.drew b 100 (cutA b j) (c - j) (100 - j) (l.drop j) (by rw [List.length_drop, HL.out]) (by omega) (h2.source j)
          (fun q hq => by
            rcases (by omega : q % 3 = 0 ∨ q % 3 = 1 ∨ q % 3 = 2) with e | e | e
            · rw [show q = q / 3 * 3 by omega, hr.ct _ (by omega)]; rfl
            · rw [show q = q / 3 * 3 + 1 by omega, hr.cv _ (by omega)]; rfl
            · rw [show q = q / 3 * 3 + 2 by omega, hr.cn _ (by omega)]; rfl)
          (fun q hq => hr.fz q (by omega))
      have hM := (h.later (Below.refl _ _).drew).moved j (c - j) (by rw [HL.out]; exact hj) (by rw [HL.out])
      have hgc := (grown_below (Below.refl _ wr).drew (some b)).trans (grown_setCells b (cellsS (l.drop j)) 0 wr.drew)
      have q300 : wr.drew.cell? ⟨b, 300, none⟩ = some (.int .i64 c) := hc1
      have q300c : (wr.drew.setCells b 0 (cellsS (l.drop j))).cell? ⟨b, 300, none⟩ = some (.int .i64 c) := by
        rw [World.cell?_setCells_out b _ _ _ _ (fun _ _ => Or.inr (by show 0 + (cellsS (l.drop j)).length ≤ 300; rw [cellsS_length, List.length_drop, HL.out]; omega))]
        exact q300
      have f300c : (wr.drew.setCells b 0 (cellsS (l.drop j))).frozen? ⟨b, 300, none⟩ = false := by
        rw [World.frozen?_setCells]
        obtain ⟨f, hl, hr, hf⟩ := h.later (Below.refl _ _).drew
        exact hr.fz 300 (by omega)
      generalize wr.drew.setCells b 0 (cellsS (l.drop j)) = wc at *
      generalize cutA b j = A at *
      have ew : IntKind.i64.wrap ((c : Int) - j) = ((c - j : Nat) : Int) := by rw [wI (by omega) (by omega)]; omega
      generalize c - j = m at *
      generalize 100 - j = m2 at *
      have EW : Hid (IntKind.i64.wrap ((c : Int) - j) = (m : Int)) := ew
      have EW2 : Hid ((c : Int) - j = (m : Int)) := by show _ = _; rw [← ew, wI (by omega) (by omega)]
      clear ew
      have hS0 : (fun W : World => W.cell? ⟨b, 300, none⟩ = some (Value.int .i64 c)) _ := q300
      refine wp_region_noPanic ?_
      refine wp_region_held_drew (S := fun W : World => W.cell? ⟨b, 300, none⟩ = some (Value.int .i64 c)) (by kernel_rfl) hS0 (fun _ => ?_)
      refine take_at 0 (some 24) (.pointer (some ⟨b, 0, none⟩)) rfl rfl (by kernel_rfl) (by kernel_rfl) (by kernel_rfl) (fun _ _ _ h => h) (by rfl) (fun W hSw => by have q0 : W.cell? ⟨b, 300, none⟩ = some (Value.int .i64 c) := hSw; go_simp) hS0 ?_
      simp only [Act.put, List.setIfInBounds_toArray, List.set_cons_zero, List.set_cons_succ]
      refine take_at 1 (some 25) (.pointer (some ⟨b, 0, none⟩)) rfl rfl (by kernel_rfl) (by kernel_rfl) (by kernel_rfl) (fun _ _ _ h => h) (by rfl) (fun W hSw => by have q0 : W.cell? ⟨b, 300, none⟩ = some (Value.int .i64 c) := hSw; go_simp) hS0 ?_
      simp only [Act.put, List.setIfInBounds_toArray, List.set_cons_zero, List.set_cons_succ]
      refine take_at 2 (some 26) (.pointer (some ⟨b, 0, none⟩)) rfl rfl (by kernel_rfl) (by kernel_rfl) (by kernel_rfl) (fun _ _ _ h => h) (by rfl) (fun W hSw => by have q0 : W.cell? ⟨b, 300, none⟩ = some (Value.int .i64 c) := hSw; go_simp) hS0 ?_
      simp only [Act.put, List.setIfInBounds_toArray, List.set_cons_zero, List.set_cons_succ]
      refine take_at 3 (some 27) (.slice (some ⟨b, 0, none⟩) 100 100) rfl rfl (by kernel_rfl) (by kernel_rfl) (by kernel_rfl) (fun _ _ _ h => h) (by rfl) (fun W hSw => by have q0 : W.cell? ⟨b, 300, none⟩ = some (Value.int .i64 c) := hSw; go_simp) hS0 ?_
      simp only [Act.put, List.setIfInBounds_toArray, List.set_cons_zero, List.set_cons_succ]
      refine take_at 4 (some 28) (.pointer (some ⟨b, 0, none⟩)) rfl rfl (by kernel_rfl) (by kernel_rfl) (by kernel_rfl) (fun _ _ _ h => h) (by rfl) (fun W hSw => by have q0 : W.cell? ⟨b, 300, none⟩ = some (Value.int .i64 c) := hSw; go_simp) hS0 ?_
      simp only [Act.put, List.setIfInBounds_toArray, List.set_cons_zero, List.set_cons_succ]
      refine take_at 5 (some 29) (.pointer (some ⟨b, 0, none⟩)) rfl rfl (by kernel_rfl) (by kernel_rfl) (by kernel_rfl) (fun _ _ _ h => h) (by rfl) (fun W hSw => by have q0 : W.cell? ⟨b, 300, none⟩ = some (Value.int .i64 c) := hSw; go_simp) hS0 ?_
      simp only [Act.put, List.setIfInBounds_toArray, List.set_cons_zero, List.set_cons_succ]
      refine take_at 6 (some 30) (.pointer (some ⟨b, 0, none⟩)) rfl rfl (by kernel_rfl) (by kernel_rfl) (by kernel_rfl) (fun _ _ _ h => h) (by rfl) (fun W hSw => by have q0 : W.cell? ⟨b, 300, none⟩ = some (Value.int .i64 c) := hSw; go_simp) hS0 ?_
      simp only [Act.put, List.setIfInBounds_toArray, List.set_cons_zero, List.set_cons_succ]
      refine take_at 7 (some 31) (.int .i64 j) rfl rfl (by kernel_rfl) (by kernel_rfl) (by kernel_rfl) (fun _ _ _ h => h) (by rfl) (fun W hSw => by have q0 : W.cell? ⟨b, 300, none⟩ = some (Value.int .i64 c) := hSw; go_simp) hS0 ?_
      simp only [Act.put, List.setIfInBounds_toArray, List.set_cons_zero, List.set_cons_succ]
      refine take_at 8 (some 32) (.pointer (some ⟨b, 0, none⟩)) rfl rfl (by kernel_rfl) (by kernel_rfl) (by kernel_rfl) (fun _ _ _ h => h) (by rfl) (fun W hSw => by have q0 : W.cell? ⟨b, 300, none⟩ = some (Value.int .i64 c) := hSw; go_simp) hS0 ?_
      simp only [Act.put, List.setIfInBounds_toArray, List.set_cons_zero, List.set_cons_succ]
      refine take_at 9 (some 33) (.pointer (some ⟨b, 0, none⟩)) rfl rfl (by kernel_rfl) (by kernel_rfl) (by kernel_rfl) (fun _ _ _ h => h) (by rfl) (fun W hSw => by have q0 : W.cell? ⟨b, 300, none⟩ = some (Value.int .i64 c) := hSw; go_simp) hS0 ?_
      simp only [Act.put, List.setIfInBounds_toArray, List.set_cons_zero, List.set_cons_succ]
      refine take_at 10 (some 34) (.pointer (some ⟨b, 300, none⟩)) rfl rfl (by kernel_rfl) (by kernel_rfl) (by kernel_rfl) (fun _ _ _ h => h) (by rfl) (fun W hSw => by have q0 : W.cell? ⟨b, 300, none⟩ = some (Value.int .i64 c) := hSw; go_simp) hS0 ?_
      simp only [Act.put, List.setIfInBounds_toArray, List.set_cons_zero, List.set_cons_succ]
      refine take_at 11 (some 35) (.int .i64 c) rfl rfl (by kernel_rfl) (by kernel_rfl) (by kernel_rfl) (fun _ _ _ h => h) (by rfl) (fun W hSw => by have q0 : W.cell? ⟨b, 300, none⟩ = some (Value.int .i64 c) := hSw; go_simp) hS0 ?_
      simp only [Act.put, List.setIfInBounds_toArray, List.set_cons_zero, List.set_cons_succ]
      refine take_at 12 (some 36) (.slice (some A) m m2) rfl rfl (by kernel_rfl) (by kernel_rfl) (by kernel_rfl) (fun _ _ _ h => h) (by rfl) (fun W hSw => by go_simp; rw [HS.out W]; rfl) hS0 ?_
      simp only [Act.put, List.setIfInBounds_toArray, List.set_cons_zero, List.set_cons_succ]
      refine wpAnyH_ready (rs := [13]) (by kernel_rfl) (by simp) ?_
      refine AllReadyH.cons rfl (fun K hK => ?_) AllReadyH.nil
      refine step_copy3 _ _ (some 37) rfl rfl rfl (by rfl) _ _ rfl rfl HC.out ?_
      have hS1 := (q300c : (fun W : World => W.cell? ⟨b, 300, none⟩ = some (Value.int .i64 c)) wc)
      refine hK.out _ _ hS1 (fun _ => ?_)
      clear hK K
      refine wpAnyH_done (by kernel_rfl) ?_ _
      refine NoPanic.normal ?_
      go_wp2
      go_end0
      exact ⟨rfl, by rw [← HN.out, EW2.out]; exact hM, hgc.trans (grown_set _ _ _ _)⟩
end Go.Proofs.Ythcakiibkocheaa
