/- Advance: of every counter. -/
import Derived.Test.YthcakiibkocheaaCForg
namespace Go.Proofs.Ythcakiibkocheaa
open Go.RowKit

set_option maxHeartbeats 1000000 in
theorem advance_any (b : Nat) (l : List Smp) (k now n : Int) (w : World) (h : Rl w b l k now) (hw : Wf l k now) :
    Calls Try.prog 10 #[.pointer (some ⟨b, 0, none⟩), .int .i64 n] w fun e w' => e = .returned (.tuple #[]) ∧ Rl w' b (fg (onw now n - k) l) k (onw now n) ∧ w.grownBy w' (some b) := by
  obtain ⟨f, hl, hr, hf⟩ := h
  have H2 : Rl (w.setCell ⟨b, 302, none⟩ (.int .i64 (onw now n))) b l k (onw now n) := ⟨f, hl, hr.setN _, hf⟩
  have h303 := hr.cw
  have h302 := hr.ck
  have f303 := hr.fz 302 (by omega)
  have k302 := (hr.setN (onw now n)).ck
  have hrg := onw_range n hw.n1
  have hk := hw.k1
  have e1 : wrap64 (onw now n - k) = onw now n - k := by unfold wrap64; omega
  have hfo := forget_any b l k (onw now n) (onw now n - k) _ (H2.later (Below.refl _ _).drew)
  have hg := grown_set w b 302 (.int .i64 (onw now n))
  have k303 : (w.setCell ⟨b, 302, none⟩ (.int .i64 (onw now n))).cell? ⟨b, 302, none⟩ = some (.int .i64 (onw now n)) := (hr.setN (onw now n)).cw
  have HO : Hid (onw now n = max now (min n 1000000)) := rfl
  unfold onw at H2 hrg e1 hfo hg k303 k302
  clear hr hf
  go_enter Try.func10, Try.ntmps10
  go_wp2_with fail
  generalize max now (min n 1000000) = nw at *
  generalize w.setCell ⟨b, 302, none⟩ (.int .i64 nw) = wa at *
  have k303d : wa.drew.cell? ⟨b, 302, none⟩ = some (.int .i64 nw) := k303
  have k302d : wa.drew.cell? ⟨b, 301, none⟩ = some (.int .i64 k) := k302
  have E1 : Hid (IntKind.i64.wrap (nw - k) = nw - k) := wI (by omega) (by omega)
  have hS0 : (fun W : World => W.cell? ⟨b, 302, none⟩ = some (Value.int .i64 nw) ∧ W.cell? ⟨b, 301, none⟩ = some (Value.int .i64 k)) _ := ⟨k303d, k302d⟩
  refine wp_region_noPanic ?_
  refine wp_region_held_drew (S := fun W : World => W.cell? ⟨b, 302, none⟩ = some (Value.int .i64 nw) ∧ W.cell? ⟨b, 301, none⟩ = some (Value.int .i64 k)) (by kernel_rfl) hS0 (fun _ => ?_)
  refine take_at 0 (some 14) (.pointer (some ⟨b, 0, none⟩)) rfl rfl (by kernel_rfl) (by kernel_rfl) (by kernel_rfl) (fun _ _ _ h => h) (by rfl) (fun W hSw => by obtain ⟨q1, q2⟩ := hSw; go_simp) hS0 ?_
  simp only [Act.put, List.setIfInBounds_toArray, List.set_cons_zero, List.set_cons_succ]
  refine take_at 1 (some 15) (.pointer (some ⟨b, 0, none⟩)) rfl rfl (by kernel_rfl) (by kernel_rfl) (by kernel_rfl) (fun _ _ _ h => h) (by rfl) (fun W hSw => by obtain ⟨q1, q2⟩ := hSw; go_simp) hS0 ?_
  simp only [Act.put, List.setIfInBounds_toArray, List.set_cons_zero, List.set_cons_succ]
  refine take_at 2 (some 16) (.pointer (some ⟨b, 0, none⟩)) rfl rfl (by kernel_rfl) (by kernel_rfl) (by kernel_rfl) (fun _ _ _ h => h) (by rfl) (fun W hSw => by obtain ⟨q1, q2⟩ := hSw; go_simp) hS0 ?_
  simp only [Act.put, List.setIfInBounds_toArray, List.set_cons_zero, List.set_cons_succ]
  refine take_at 3 (some 17) (.pointer (some ⟨b, 302, none⟩)) rfl rfl (by kernel_rfl) (by kernel_rfl) (by kernel_rfl) (fun _ _ _ h => h) (by rfl) (fun W hSw => by obtain ⟨q1, q2⟩ := hSw; go_simp) hS0 ?_
  simp only [Act.put, List.setIfInBounds_toArray, List.set_cons_zero, List.set_cons_succ]
  refine take_at 4 (some 18) (.int .i64 nw) rfl rfl (by kernel_rfl) (by kernel_rfl) (by kernel_rfl) (fun _ _ _ h => h) (by rfl) (fun W hSw => by obtain ⟨q1, q2⟩ := hSw; go_simp) hS0 ?_
  simp only [Act.put, List.setIfInBounds_toArray, List.set_cons_zero, List.set_cons_succ]
  refine take_at 5 (some 19) (.pointer (some ⟨b, 0, none⟩)) rfl rfl (by kernel_rfl) (by kernel_rfl) (by kernel_rfl) (fun _ _ _ h => h) (by rfl) (fun W hSw => by obtain ⟨q1, q2⟩ := hSw; go_simp) hS0 ?_
  simp only [Act.put, List.setIfInBounds_toArray, List.set_cons_zero, List.set_cons_succ]
  refine take_at 6 (some 20) (.pointer (some ⟨b, 0, none⟩)) rfl rfl (by kernel_rfl) (by kernel_rfl) (by kernel_rfl) (fun _ _ _ h => h) (by rfl) (fun W hSw => by obtain ⟨q1, q2⟩ := hSw; go_simp) hS0 ?_
  simp only [Act.put, List.setIfInBounds_toArray, List.set_cons_zero, List.set_cons_succ]
  refine take_at 7 (some 21) (.pointer (some ⟨b, 301, none⟩)) rfl rfl (by kernel_rfl) (by kernel_rfl) (by kernel_rfl) (fun _ _ _ h => h) (by rfl) (fun W hSw => by obtain ⟨q1, q2⟩ := hSw; go_simp) hS0 ?_
  simp only [Act.put, List.setIfInBounds_toArray, List.set_cons_zero, List.set_cons_succ]
  refine take_at 8 (some 22) (.int .i64 k) rfl rfl (by kernel_rfl) (by kernel_rfl) (by kernel_rfl) (fun _ _ _ h => h) (by rfl) (fun W hSw => by obtain ⟨q1, q2⟩ := hSw; go_simp) hS0 ?_
  simp only [Act.put, List.setIfInBounds_toArray, List.set_cons_zero, List.set_cons_succ]
  refine take_at 9 (some 23) (.int .i64 (nw - k)) rfl rfl (by kernel_rfl) (by kernel_rfl) (by kernel_rfl) (fun _ _ _ h => h) (by rfl) (fun W hSw => by go_simp; exact E1.out) hS0 ?_
  simp only [Act.put, List.setIfInBounds_toArray, List.set_cons_zero, List.set_cons_succ]
  refine wpAnyH_ready (rs := [10]) (by kernel_rfl) (by simp) ?_
  refine AllReadyH.cons rfl (fun K hK => ?_) AllReadyH.nil
  go_simp
  refine hfo.mono ?_
  rintro e w1 ⟨rfl, h1, h2⟩
  have hS1 := (⟨h1.time, h1.width⟩ : (fun W : World => W.cell? ⟨b, 302, none⟩ = some (Value.int .i64 nw) ∧ W.cell? ⟨b, 301, none⟩ = some (Value.int .i64 k)) w1)
  refine hK.out _ _ hS1 (fun _ => ?_)
  clear hK K
  refine wpAnyH_done (by kernel_rfl) ?_ _
  refine NoPanic.normal ?_
  go_wp2
  go_end0
  exact ⟨rfl, by rw [HO.out]; exact h1, (hg.trans (grown_below (Below.refl _ _).drew (some b))).trans h2⟩
theorem BoxS.putV {w : World} {b : Nat} {s : Smp} (h : BoxS w b s) (o : Bool) (n : Int) : BoxS ((w.setCell ⟨b, 1, none⟩ (.bool o)).setCell ⟨b, 2, none⟩ (.int .i64 n)) b (s.1, o, n) := by
  obtain ⟨c0, c1, c2, f0, f1, f2⟩ := h
  refine ⟨(set_ne (by omega)).trans ((set_ne (by omega)).trans c0), (set_ne (by omega)).trans (set_same c1), set_same ((set_ne (by omega)).trans c2), ?_, ?_, ?_⟩
  · simpa using f0
  · simpa using f1
  · simpa using f2
theorem Wf.room {l : List Smp} {k nw : Int} (h : Wf l k nw) {t : Int} (ho : ¬ (t < 0 ∨ nw < t ∨ t ≤ nw - k)) (h1 : ¬ (l ≠ [] ∧ t ≤ (lst l).1)) : l.length < 100 := by
  have e : adE l k nw (t, false, (0 : Int)).1 = 0 := by unfold adE; rw [if_neg ho, if_neg h1]
  have hw := (h.add (t, false, 0) ⟨by show _ ≤ (0 : Int); omega, by show (0 : Int) ≤ _; omega⟩).le
  unfold adL at hw
  rw [if_pos e, List.length_append, List.length_singleton] at hw
  omega
theorem adE_out {l : List Smp} {k nw t : Int} (h : t < 0 ∨ nw < t ∨ t ≤ nw - k) : adE l k nw t = 152 := by unfold adE; rw [if_pos h]
theorem adE_old {l : List Smp} {k nw t : Int} (h : ¬ (t < 0 ∨ nw < t ∨ t ≤ nw - k)) (h1 : l ≠ [] ∧ t ≤ (lst l).1) : adE l k nw t = 150 := by unfold adE; rw [if_neg h, if_pos h1]
theorem adE_ok {l : List Smp} {k nw t : Int} (h : ¬ (t < 0 ∨ nw < t ∨ t ≤ nw - k)) (h1 : ¬ (l ≠ [] ∧ t ≤ (lst l).1)) : adE l k nw t = 0 := by unfold adE; rw [if_neg h, if_neg h1]
end Go.Proofs.Ythcakiibkocheaa
