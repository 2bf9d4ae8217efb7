/- Parse: for every body. -/
import Derived.Test.YtcbjhfnlhpallaaGreatDoorETake2
import Derived.Test.YtcbjhfnlhpallaaGreatDoorELaws
namespace Go.Proofs.YtcbjhfnlhpallaaGreatDoor
open Go.RowKit Go.Maps

theorem Rd.made (w : World) (G : Nat → Prop) (h1 : ¬ G w.heap.size) (h2 : ¬ G (w.heap.size + 1)) : Rd G ((w.alloc (.map #[] 0)).alloc (.cells #[.map (some w.heap.size), .slice none 0 0, .slice none 0 0] 67)) (w.heap.size + 1) w.heap.size 0 (.slice none 0 0) (.slice none 0 0) [] st0 0 := by
  have hk := (Km.made w).kept (grown_below (bal (Below.refl _ (w.alloc (.map #[] 0))) (.cells #[.map (some w.heap.size), .slice none 0 0, .slice none 0 0] 67)) none) (by simp)
  have hn : (w.alloc (.map #[] 0)).heap.size = w.heap.size + 1 := by simp
  refine ⟨?_, ?_, ?_, ?_, ?_, hk, Nat.le_refl _, ⟨World.ownsRow_nil _ _ _ _, by simp, by simp⟩, rfl, Nat.le_refl _, World.ownsRow_nil _ _ _ _, Nat.le_refl _, h2, h1, by omega, by simp [Value.ownBlock], by simp [Value.ownBlock], by simp⟩
  all_goals
    rw [← hn]
    simp [go_sem]
theorem OwnX.later {w w' : World} {v : Value} {l : List (Value × Scr)} (h : OwnX w v l) (hb : Below w.heap.size w w') : OwnX w' v l := h.kept (grown_below hb none) (by simp) (by simp)
theorem OwnBd.later {w w' : World} {v : Value} {l : List (Int × Int)} (h : OwnBd w v l) (hb : Below w.heap.size w w') : OwnBd w' v l := h.kept (grown_below hb none) (by simp)
theorem keep_cell {G : Nat → Prop} {w w' : World} (h : Keep G w w') {b o : Nat} (hb : G b) {v : Value} (hc : w.cell? ⟨b, o, none⟩ = some v) : w'.cell? ⟨b, o, none⟩ = some v := (World.cell?_of_block (a := ⟨b, o, none⟩) (h.block b hb)).trans hc
theorem run_take {L : List Str} {j : Nat} (hj : j < L.length) : runL st0 1 (L.take (j + 1)) = stepL (runL st0 1 (L.take j)) (j + 1) (L.getD j []) := by
  rw [List.take_succ_eq_append_getElem hj, runL_snoc]
  congr 1
  · rw [List.length_take]; omega
  · simp [List.getD, List.getElem?_eq_getElem hj]
set_option maxRecDepth 20000 in
set_option maxHeartbeats 8000000 in
theorem parseX_any (s : Str) (w : World) (hs : s.length ≤ 100000) (he : Ev w) :
    Calls Tryz.prog 10 #[tx s] w fun e w' => ∃ sv bv l, e = .returned (.tuple #[sv, bv]) ∧ OwnX w' sv l ∧ l.map (·.2) = (bodyS s).out ∧ OwnBd w' bv (bodyS s).bad ∧ Below w.heap.size w w' := by
  have hmm := @run_makeMap Tryz.prog
  have hB2 : Below w.heap.size w ((w.alloc (.map #[] 0)).alloc (.cells #[.map (some w.heap.size), .slice none 0 0, .slice none 0 0] 67)) := bal (bal (Below.refl _ _) _) _
  have hsz2 : ((w.alloc (.map #[] 0)).alloc (.cells #[.map (some w.heap.size), .slice none 0 0, .slice none 0 0] 67)).heap.size = w.heap.size + 2 := by simp
  by_cases hl : 3000 < s.length
  · have HB : Hid (bodyS s = ⟨fun _ => 0, [], [(0, 11)]⟩) := by show _ = _; unfold bodyS; rw [if_pos hl]
    have hl' : (3000 : Int) < s.length := by omega
    have hR := Rd.made w (fun b => b < w.heap.size) (by simp) (by simp)
    have hrf := fun W hR hg => refuse_any (fun b => b < w.heap.size) W (w.heap.size + 1) w.heap.size 0 (.slice none 0 0) (.slice none 0 0) [] st0 0 0 11 hR hg (by omega)
    generalize bodyS s = B at *
    clear hl
    go_enter Tryz.func10, Tryz.ntmps10
    go_wp2_with fail
    generalize (w.alloc (.map #[] 0)).alloc (.cells _ 67) = w2 at *
    refine (hrf _ hR (fun b hb => by omega)).mono ?_
    rintro e w3 ⟨rfl, bv, r1, r2⟩
    have c1 := r1.c1
    have c2 := r1.c2
    go_wp2
    go_quiet (fail)
    go_wp2
    go_ret2
    have D := fun k => below_drewN (Below.refl w3.heap.size w3) k
    exact ⟨_, _, [], rfl, r1.ox.later (D _), by rw [HB.out]; rfl, by rw [HB.out]; exact r1.ob.later (D _), below_drewN (hB2.trans r2.below) _⟩
  · have HB : Hid (bodyS s = runL st0 1 (sp 10 s)) := by show _ = _; unfold bodyS; rw [if_neg hl]
    have hl' : ¬ (3000 : Int) < s.length := by omega
    have hR := Rd.made w (fun b => b < w.heap.size ∨ b = w.heap.size + 2) (by omega) (by omega)
    have hsp := splitS_any 10 s ((w.alloc (.map #[] 0)).alloc (.cells #[.map (some w.heap.size), .slice none 0 0, .slice none 0 0] 67)) (by omega) (he.later hB2).mx
    have hsub : ∀ a ∈ sp 10 s, a.length ≤ s.length := fun a ha => sp_sub ha
    have hcnt := sp_len 10 s
    have hne : 1 ≤ (sp 10 s).length := by
      have := spG_ne 10 s []
      cases e : sp 10 s with
      | nil => exact absurd e this
      | cons a b => simp
    generalize bodyS s = B at *
    generalize sp 10 s = L at *
    clear hl
    go_enter Tryz.func10, Tryz.ntmps10
    go_wp2_with fail
    generalize (w.alloc (.map #[] 0)).alloc (.cells _ 67) = w2 at *
    refine hsp.mono ?_
    rintro e w3 ⟨rfl, hss, hb3⟩
    rw [hsz2] at hss
    rw [hsz2]
    obtain ⟨_, hss⟩ := hss
    obtain ⟨bk, off, hbo, hcs⟩ := hss (by omega)
    obtain ⟨rfl, rfl⟩ : w.heap.size + 2 = bk ∧ 0 = off := by injection hbo with hbo; injection hbo with e1 e2 _; exact ⟨e1, e2⟩
    have hlt3 : w.heap.size + 2 < w3.heap.size := World.block_lt_of_cell? _ _ (hcs 0 (by omega))
    have hR3 := hR.later hb3
    have B3 := Below.chain hB2 hb3
    have hG3 : ∀ b, (b < w.heap.size ∨ b = w.heap.size + 2) → b < w3.heap.size := fun b hb => by have := B3.size; omega
    clear hss hbo hsp hR hb3 hB2
    go_wp2_with fail
    go_loopw [21] (fun i wr => ∃ (j n : Nat) (sv bv : Value) (l : List (Value × Scr)), j ≤ L.length ∧ i = .int .i64 j ∧ Rd (fun b => b < w.heap.size ∨ b = w.heap.size + 2) wr (w.heap.size + 1) w.heap.size n sv bv l (runL st0 1 (L.take j)) j ∧ Keep (fun b => b < w.heap.size ∨ b = w.heap.size + 2) w3 wr) (fun i _ => L.length - (intOf i).toNat)
    case atStart => exact ⟨0, 0, _, _, [], by omega, rfl, hR3, Keep.refl _ _⟩
    case round =>
      obtain ⟨j, n, sv, bv, l, hj, rfl, hr, hk⟩ := hrel
      have hBr : Below w.heap.size w wr := B3.trans (hk.mono (fun b hb => Or.inl hb)).below
      have hGr : ∀ b, (b < w.heap.size ∨ b = w.heap.size + 2) → b < wr.heap.size := fun b hb => Nat.lt_of_lt_of_le (hG3 b hb) hk.size
      by_cases hlt : j < L.length
      · have k0 : wr.cell? ⟨w.heap.size + 2, j, none⟩ = some (tx (L.getD j [])) := keep_cell hk (Or.inr rfl) (by have := hcs j hlt; rwa [Nat.zero_add] at this)
        have hln : (L.getD j []).length ≤ s.length := hsub _ (by simp [List.getD, List.getElem?_eq_getElem hlt])
        have HT : Hid (runL st0 1 (L.take (j + 1)) = stepL (runL st0 1 (L.take j)) (j + 1) (L.getD j [])) := run_take hlt
        have htk := take_any _ wr (w.heap.size + 1) w.heap.size n sv bv l (runL st0 1 (L.take j)) j (j + 1) (L.getD j []) hr hGr (by omega) (by omega) (he.later hBr)
        have htk : Calls Tryz.prog 27 #[.pointer (some ⟨w.heap.size + 1, 0, none⟩), .agg #[.int .i64 ((j : Int) + 1)], tx (L.getD j [])] wr _ := htk
        generalize L.getD j [] = a at *
        generalize runL st0 1 (L.take j) = st at *
        generalize stepL st (j + 1) a = st3 at *
        go_wp2_with fail
        refine htk.mono ?_
        rintro e w4 ⟨rfl, n', sv', bv', l', r1, r2⟩
        go_wp2_with fail
        go_roundw
        case rel => exact ⟨j + 1, n', sv', bv', l', by omega, by go_num, by rw [HT.out]; exact r1, hk.trans r2⟩
        case measure => simp [intOf]; omega
      · have e1 : j = L.length := by omega
        subst e1
        rw [List.take_length] at hr
        rw [← HB.out] at hr
        have c1 := hr.c1
        have c2 := hr.c2
        have hol : Hid _ := hr.ol
        have o1 := hr.ox
        have o2 := hr.ob
        have D := fun k => below_drewN (Below.refl wr.heap.size wr) k
        clear hr HB
        go_wp2
        go_quiet (fail)
        go_wp2
        go_ret2
        exact ⟨_, _, l, rfl, o1.later (D _), hol.out, o2.later (D _), below_drewN hBr _⟩
end Go.Proofs.YtcbjhfnlhpallaaGreatDoor
