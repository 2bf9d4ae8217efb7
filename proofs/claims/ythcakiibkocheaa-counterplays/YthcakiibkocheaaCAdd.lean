/- Add: of every counter. -/
import Derived.Test.YthcakiibkocheaaCAdv
import Derived.BigQuiet
namespace Go.Proofs.Ythcakiibkocheaa
open Go.RowKit

set_option maxHeartbeats 2000000 in
theorem add_out (b : Nat) (l : List Smp) (k now : Int) (s : Smp) (w : World) (h : Rl w b l k now) (hw : Wf l k now) (ho : s.1 < 0 ∨ now < s.1 ∨ s.1 ≤ now - k) :
    Calls Try.prog 12 #[.pointer (some ⟨b, 0, none⟩), sv s] w fun e w' => e = .returned (.int .i64 152) ∧ Below w.heap.size w w' := by
  have hb1 := bal (Below.refl _ w) (.cells #[.int .i64 s.1, .bool s.2.1, .int .i64 s.2.2] 32)
  have h1 := (h.later hb1).time
  have h2 := (h.later hb1).width
  have hk := hw.k1
  have hn := hw.n1
  have e1 : wrap64 (now - k) = now - k := by unfold wrap64; omega
  clear h
  obtain ⟨t, o, n⟩ := s
  dsimp only at *
  by_cases c1 : t < 0
  · have d1 : decide (t < 0) = true := decide_eq_true c1
    clear c1 ho
    go_enter Try.func12, Try.ntmps12
    go_wp2_with fail
    go_quiet (fail)
    go_wp2
    go_ret
    exact ⟨rfl, below_drewN hb1 _⟩
  · have d1 : decide (t < 0) = false := decide_eq_false c1
    by_cases c2 : now < t
    · have d2 : decide (now < t) = true := decide_eq_true c2
      clear c1 c2 ho
      go_enter Try.func12, Try.ntmps12
      go_wp2_with fail
      go_quiet (fail)
      go_wp2
      go_ret
      exact ⟨rfl, below_drewN hb1 _⟩
    · have d2 : decide (now < t) = false := decide_eq_false c2
      have d3 : decide (t ≤ now - k) = true := decide_eq_true (by omega)
      clear c1 c2 ho
      go_enter Try.func12, Try.ntmps12
      go_wp2_with fail
      go_quiet (fail)
      go_wp2
      go_ret
      exact ⟨rfl, below_drewN hb1 _⟩
theorem set3_ne {w : World} {a b : Nat} (h : a ≠ b) (q : Nat) (s : Smp) (j : Nat) : (set3 w b q s).cell? ⟨a, j, none⟩ = w.cell? ⟨a, j, none⟩ := by
  have hn : ∀ q : Nat, (⟨b, q, none⟩ : Addr) ≠ ⟨a, j, none⟩ := fun q e => h (by injection e with e; exact e.symm)
  rw [set_other (hn _), set_other (hn _), set_other (hn _)]
set_option maxHeartbeats 4000000 in
theorem add_in (b : Nat) (l : List Smp) (k now : Int) (s : Smp) (w : World) (h : Rl w b l k now) (hw : Wf l k now) (ho : ¬ (s.1 < 0 ∨ now < s.1 ∨ s.1 ≤ now - k)) :
    Calls Try.prog 12 #[.pointer (some ⟨b, 0, none⟩), sv s] w fun e w' => e = .returned (.int .i64 (adE l k now s.1)) ∧ Rl w' b (adL l k now s) k now ∧ w.grownBy w' (some b) := by
  have hb1 := bal (Below.refl _ w) (.cells #[.int .i64 s.1, .bool s.2.1, .int .i64 s.2.2] 32)
  have hR := h.later hb1
  have hx := BoxS.new w s
  have h1 := hR.time
  have h2 := hR.width
  have hk := hw.k1
  have hn := hw.n1
  have e1 : wrap64 (now - k) = now - k := by unfold wrap64; omega
  have hbl := h.lt
  have HLen : Hid (¬ (l ≠ [] ∧ s.1 ≤ (lst l).1) → l.length < 100) := fun hc => hw.room ho hc
  have HA : Hid (adL l k now s = if adE l k now s.1 = 0 then l ++ [s] else l) := rfl
  have HO : Hid (¬ (s.1 < 0 ∨ now < s.1 ∨ s.1 ≤ now - k)) := ho
  have d1 : decide (s.1 < 0) = false := decide_eq_false (by omega)
  have d2 : decide (now < s.1) = false := decide_eq_false (by omega)
  have d3 : decide (s.1 ≤ now - k) = false := decide_eq_false (by omega)
  clear h ho
  go_enter Try.func12, Try.ntmps12
  go_wp2_with fail
  go_quiet (fail)
  generalize hwq : (w.alloc (.cells #[.int .i64 s.1, .bool s.2.1, .int .i64 s.2.2] 32)).drewN _ = wa
  have hba : Below w.heap.size w wa := by rw [← hwq]; exact below_drewN hb1 _
  have hRa : Rl wa b l k now := by rw [← hwq]; exact hR.later (below_drewN (Below.refl _ _) _)
  have hxa : BoxS wa w.heap.size s := by rw [← hwq]; exact hx.later (below_drewN (Below.refl _ _) _)
  clear hwq hx hR h1 h2 hb1 d1 d2 d3 e1
  obtain ⟨c, hc⟩ : ∃ c, l.length = c := ⟨_, rfl⟩
  have HC : Hid (l.length = c) := hc
  have hc1 := hRa.count
  have hle := hRa.le
  rw [hc] at hc1 hle
  have HLst : Hid (∀ p, p + 1 = c → wa.cell? ⟨b, p * 3, none⟩ = some (.int .i64 (lst l).1)) := by
    intro p hp
    obtain ⟨f, _, hr, hf⟩ := id hRa
    have := hr.ct p (by omega)
    rw [hf p (by omega)] at this
    unfold lst
    rw [hc, show c - 1 = p by omega]
    exact this
  clear hc
  obtain ⟨t, o, n⟩ := s
  dsimp only at *
  obtain ⟨x0, x1, x2, g0, g1, g2⟩ := id hxa
  by_cases c4 : c = 0
  · have d4 : decide ((0 : Int) < (c : Int)) = false := decide_eq_false (by omega)
    have d4' : decide (0 < c) = false := decide_eq_false (by omega)
    have hnil : l = [] := List.length_eq_zero_iff.1 (HC.out.trans c4)
    have HE : Hid (adE l k now t = 0) := adE_ok HO.out (fun e => e.1 hnil)
    have hc100 : c < 100 := by omega
    clear hnil c4
    go_wp2_with fail
    go_quiet (fail)
    generalize hwq : wa.drewN _ = wd
    have hRd : Rl wd b l k now := by rw [← hwq]; exact hRa.later (below_drewN (Below.refl _ _) _)
    have hxd : BoxS wd w.heap.size (t, o, n) := by rw [← hwq]; exact hxa.later (below_drewN (Below.refl _ _) _)
    have hbd : Below w.heap.size w wd := by rw [← hwq]; exact below_drewN hba _
    clear hwq hxa hRa hba x0 x1 x2 g0 g1 g2 hc1
    go_wp2_with fail
    obtain ⟨f, _, hrd, hf⟩ := hRd
    rw [HC.out] at hrd
    have hr := hrd.later (Below.refl _ _).drew
    have hxe : BoxS wd.drew w.heap.size (t, o, n) := hxd.later (Below.refl _ _).drew
    have hbe : Below w.heap.size w wd.drew := hbd.drew
    have z0 := hrd.fz (c * 3) (by omega)
    have z1 := hrd.fz (c * 3 + 1) (by omega)
    have z2 := hrd.fz (c * 3 + 2) (by omega)
    have a0 := hrd.ct c hc100
    have a1 := hrd.cv c hc100
    have a2 := hrd.cn c hc100
    have hput : Rg (set3 wd b (c * 3) (t, o, n)).drew b (fun j => if j = c then (t, o, n) else f j) c k now := (hrd.put hc100 (t, o, n)).later (Below.refl _ _).drew
    have hg3 : wd.grownBy (set3 wd b (c * 3) (t, o, n)).drew (some b) := (grown3 wd b (c * 3) (t, o, n)).trans (grown_below (Below.refl _ _).drew (some b))
    have hbl' : w.heap.size ≠ b := by omega
    have hS0 : (fun W : World => W.cell? ⟨b, 300, none⟩ = some (Value.int .i64 c) ∧ W.cell? ⟨w.heap.size, 0, none⟩ = some (Value.int .i64 t) ∧ W.cell? ⟨w.heap.size, 1, none⟩ = some (Value.bool o) ∧ W.cell? ⟨w.heap.size, 2, none⟩ = some (Value.int .i64 n)) _ := ⟨hr.cc, hxe.c0, hxe.c1, hxe.c2⟩
    refine wp_region_noPanic ?_
    refine wp_region_held_drew (S := fun W : World => W.cell? ⟨b, 300, none⟩ = some (Value.int .i64 c) ∧ W.cell? ⟨w.heap.size, 0, none⟩ = some (Value.int .i64 t) ∧ W.cell? ⟨w.heap.size, 1, none⟩ = some (Value.bool o) ∧ W.cell? ⟨w.heap.size, 2, none⟩ = some (Value.int .i64 n)) (by kernel_rfl) hS0 (fun _ => ?_)
    refine take_at 0 (some 52) (.pointer (some ⟨b, 0, none⟩)) rfl rfl (by kernel_rfl) (by kernel_rfl) (by kernel_rfl) (fun _ _ _ h => h) (by rfl) (fun W hSw => by obtain ⟨q0, q1, q2, q3⟩ := hSw; go_simp) hS0 ?_
    simp only [Act.put, List.setIfInBounds_toArray, List.set_cons_zero, List.set_cons_succ]
    refine take_at 1 (some 53) (.pointer (some ⟨b, 0, none⟩)) rfl rfl (by kernel_rfl) (by kernel_rfl) (by kernel_rfl) (fun _ _ _ h => h) (by rfl) (fun W hSw => by obtain ⟨q0, q1, q2, q3⟩ := hSw; go_simp) hS0 ?_
    simp only [Act.put, List.setIfInBounds_toArray, List.set_cons_zero, List.set_cons_succ]
    refine take_at 2 (some 54) (.pointer (some ⟨b, 0, none⟩)) rfl rfl (by kernel_rfl) (by kernel_rfl) (by kernel_rfl) (fun _ _ _ h => h) (by rfl) (fun W hSw => by obtain ⟨q0, q1, q2, q3⟩ := hSw; go_simp) hS0 ?_
    simp only [Act.put, List.setIfInBounds_toArray, List.set_cons_zero, List.set_cons_succ]
    refine take_at 3 (some 55) (.pointer (some ⟨b, 300, none⟩)) rfl rfl (by kernel_rfl) (by kernel_rfl) (by kernel_rfl) (fun _ _ _ h => h) (by rfl) (fun W hSw => by obtain ⟨q0, q1, q2, q3⟩ := hSw; go_simp) hS0 ?_
    simp only [Act.put, List.setIfInBounds_toArray, List.set_cons_zero, List.set_cons_succ]
    refine take_at 4 (some 56) (.int .i64 c) rfl rfl (by kernel_rfl) (by kernel_rfl) (by kernel_rfl) (fun _ _ _ h => h) (by rfl) (fun W hSw => by obtain ⟨q0, q1, q2, q3⟩ := hSw; go_simp) hS0 ?_
    simp only [Act.put, List.setIfInBounds_toArray, List.set_cons_zero, List.set_cons_succ]
    refine take_at 5 (some 57) (.agg #[.int .i64 t, .bool o, .int .i64 n]) rfl rfl (by kernel_rfl) (by kernel_rfl) (by kernel_rfl) (fun _ _ _ h => h) (by rfl) (fun W hSw => by obtain ⟨q0, q1, q2, q3⟩ := hSw; go_simp) hS0 ?_
    simp only [Act.put, List.setIfInBounds_toArray, List.set_cons_zero, List.set_cons_succ]
    refine take_at 6 (some 58) (.pointer (some ⟨b, 0, none⟩)) rfl rfl (by kernel_rfl) (by kernel_rfl) (by kernel_rfl) (fun _ _ _ h => h) (by rfl) (fun W hSw => by obtain ⟨q0, q1, q2, q3⟩ := hSw; go_simp) hS0 ?_
    simp only [Act.put, List.setIfInBounds_toArray, List.set_cons_zero, List.set_cons_succ]
    refine take_at 7 (some 59) (.pointer (some ⟨b, 0, none⟩)) rfl rfl (by kernel_rfl) (by kernel_rfl) (by kernel_rfl) (fun _ _ _ h => h) (by rfl) (fun W hSw => by obtain ⟨q0, q1, q2, q3⟩ := hSw; go_simp) hS0 ?_
    simp only [Act.put, List.setIfInBounds_toArray, List.set_cons_zero, List.set_cons_succ]
    refine take_at 8 (some 60) (.pointer (some ⟨b, c * 3, none⟩)) rfl rfl (by kernel_rfl) (by kernel_rfl) (by kernel_rfl) (fun _ _ _ h => h) (by rfl) (fun W hSw => by obtain ⟨q0, q1, q2, q3⟩ := hSw; go_simp; exact fun e => absurd e (by omega)) hS0 ?_
    simp only [Act.put, List.setIfInBounds_toArray, List.set_cons_zero, List.set_cons_succ]
    refine wpAnyH_ready (rs := [9]) (by kernel_rfl) (by simp) ?_
    refine AllReadyH.cons rfl (fun K hK => ?_) AllReadyH.nil
    go_simp
    have hS1 := (⟨hput.cc, (set3_ne hbl' _ _ _).trans hxe.c0, (set3_ne hbl' _ _ _).trans hxe.c1, (set3_ne hbl' _ _ _).trans hxe.c2⟩ : (fun W : World => W.cell? ⟨b, 300, none⟩ = some (Value.int .i64 c) ∧ W.cell? ⟨w.heap.size, 0, none⟩ = some (Value.int .i64 t) ∧ W.cell? ⟨w.heap.size, 1, none⟩ = some (Value.bool o) ∧ W.cell? ⟨w.heap.size, 2, none⟩ = some (Value.int .i64 n)) ((set3 wd b (c * 3) (t, o, n)).drew))
    refine hK.out _ _ hS1 (fun _ => ?_)
    clear hK K
    refine wpAnyH_done (by kernel_rfl) ?_ _
    refine NoPanic.normal ?_
    change Exit.then _ _ Exit.normal _ (set3 wd b (c * 3) (t, o, n)).drew
    obtain ⟨r2, r3⟩ : (set3 wd b (c * 3) (t, o, n)).drew.cell? ⟨b, 300, none⟩ = some (.int .i64 c) ∧ (set3 wd b (c * 3) (t, o, n)).drew.frozen? ⟨b, 300, none⟩ = false := ⟨hput.cc, hput.fz 300 (by omega)⟩
    have hpc := hput.setC (c + 1)
    have ec : wrap64 ((c : Int) + 1) = ((c + 1 : Nat) : Int) := by unfold wrap64; omega
    have HF : Hid (Rl ((set3 wd b (c * 3) (t, o, n)).drew.setCell ⟨b, 300, none⟩ (.int .i64 (c + 1 : Nat))) b (l ++ [(t, o, n)]) k now) := Rl.push (by rw [HC.out]; exact hc100) hf (by rw [HC.out]; exact hpc)
    have HG : Hid (w.grownBy ((set3 wd b (c * 3) (t, o, n)).drew.setCell ⟨b, 300, none⟩ (.int .i64 (c + 1 : Nat))) (some b)) := ((grown_below hbd (some b)).trans hg3).trans (grown_set _ _ _ _)
    have EC : Hid ((c : Int) + 1 = ((c + 1 : Nat) : Int)) := by show _ = _; omega
    clear hput hpc hf hr hrd
    generalize (set3 wd b (c * 3) (t, o, n)).drew = wf at *
    go_wp2
    go_ret
    rw [HA.out, HE.out]
    exact ⟨rfl, by rw [if_pos rfl]; exact HF.out, HG.out⟩
  · have d4 : decide ((0 : Int) < (c : Int)) = true := decide_eq_true (by omega)
    have d4' : decide (0 < c) = true := decide_eq_true (by omega)
    obtain ⟨p, hp⟩ : ∃ p, p + 1 = c := ⟨c - 1, by omega⟩
    have h5 := HLst.out p hp
    have hne : l ≠ [] := fun e => c4 (by rw [← HC.out, e]; rfl)
    have HNe : Hid (l ≠ []) := hne
    have ep : wrap64 ((c : Int) - 1) = (p : Int) := by unfold wrap64; omega
    have ep2 : (c : Int) - 1 = (p : Int) := by omega
    have hp100 : p < 100 := by omega
    have HP : Hid (p + 1 = c) := hp
    clear hne c4 hp
    by_cases c5 : t ≤ (lst l).1
    · have d5 : decide (t ≤ (lst l).1) = true := decide_eq_true c5
      have HE : Hid (adE l k now t = 150) := adE_old HO.out ⟨HNe.out, c5⟩
      generalize (lst l).1 = lt at *
      clear c5 HLst HLen
      go_wp2_with fail
      go_quiet (fail)
      go_wp2
      go_ret
      rw [HA.out, HE.out]
      exact ⟨rfl, by rw [if_neg (by omega)]; exact hRa.later (below_drewN (Below.refl _ _) _), grown_below (below_drewN hba _) _⟩
    · have d5 : decide (t ≤ (lst l).1) = false := decide_eq_false c5
      have HE : Hid (adE l k now t = 0) := adE_ok HO.out (fun e => c5 e.2)
      have hc100 : c < 100 := by rw [← HC.out]; exact HLen.out (fun e => c5 e.2)
      generalize (lst l).1 = lt at *
      clear c5 HLst HLen
      go_wp2_with fail
      go_quiet (fail)
      generalize hwq : wa.drewN _ = wd
      have hRd : Rl wd b l k now := by rw [← hwq]; exact hRa.later (below_drewN (Below.refl _ _) _)
      have hxd : BoxS wd w.heap.size (t, o, n) := by rw [← hwq]; exact hxa.later (below_drewN (Below.refl _ _) _)
      have hbd : Below w.heap.size w wd := by rw [← hwq]; exact below_drewN hba _
      clear hwq hxa hRa hba x0 x1 x2 g0 g1 g2 hc1
      go_wp2_with fail
      obtain ⟨f, _, hrd, hf⟩ := hRd
      rw [HC.out] at hrd
      have hr := hrd.later (Below.refl _ _).drew
      have hxe : BoxS wd.drew w.heap.size (t, o, n) := hxd.later (Below.refl _ _).drew
      have hbe : Below w.heap.size w wd.drew := hbd.drew
      have z0 := hrd.fz (c * 3) (by omega)
      have z1 := hrd.fz (c * 3 + 1) (by omega)
      have z2 := hrd.fz (c * 3 + 2) (by omega)
      have a0 := hrd.ct c hc100
      have a1 := hrd.cv c hc100
      have a2 := hrd.cn c hc100
      have hput : Rg (set3 wd b (c * 3) (t, o, n)).drew b (fun j => if j = c then (t, o, n) else f j) c k now := (hrd.put hc100 (t, o, n)).later (Below.refl _ _).drew
      have hg3 : wd.grownBy (set3 wd b (c * 3) (t, o, n)).drew (some b) := (grown3 wd b (c * 3) (t, o, n)).trans (grown_below (Below.refl _ _).drew (some b))
      have hbl' : w.heap.size ≠ b := by omega
      have hS0 : (fun W : World => W.cell? ⟨b, 300, none⟩ = some (Value.int .i64 c) ∧ W.cell? ⟨w.heap.size, 0, none⟩ = some (Value.int .i64 t) ∧ W.cell? ⟨w.heap.size, 1, none⟩ = some (Value.bool o) ∧ W.cell? ⟨w.heap.size, 2, none⟩ = some (Value.int .i64 n)) _ := ⟨hr.cc, hxe.c0, hxe.c1, hxe.c2⟩
      refine wp_region_noPanic ?_
      refine wp_region_held_drew (S := fun W : World => W.cell? ⟨b, 300, none⟩ = some (Value.int .i64 c) ∧ W.cell? ⟨w.heap.size, 0, none⟩ = some (Value.int .i64 t) ∧ W.cell? ⟨w.heap.size, 1, none⟩ = some (Value.bool o) ∧ W.cell? ⟨w.heap.size, 2, none⟩ = some (Value.int .i64 n)) (by kernel_rfl) hS0 (fun _ => ?_)
      refine take_at 0 (some 52) (.pointer (some ⟨b, 0, none⟩)) rfl rfl (by kernel_rfl) (by kernel_rfl) (by kernel_rfl) (fun _ _ _ h => h) (by rfl) (fun W hSw => by obtain ⟨q0, q1, q2, q3⟩ := hSw; go_simp) hS0 ?_
      simp only [Act.put, List.setIfInBounds_toArray, List.set_cons_zero, List.set_cons_succ]
      refine take_at 1 (some 53) (.pointer (some ⟨b, 0, none⟩)) rfl rfl (by kernel_rfl) (by kernel_rfl) (by kernel_rfl) (fun _ _ _ h => h) (by rfl) (fun W hSw => by obtain ⟨q0, q1, q2, q3⟩ := hSw; go_simp) hS0 ?_
      simp only [Act.put, List.setIfInBounds_toArray, List.set_cons_zero, List.set_cons_succ]
      refine take_at 2 (some 54) (.pointer (some ⟨b, 0, none⟩)) rfl rfl (by kernel_rfl) (by kernel_rfl) (by kernel_rfl) (fun _ _ _ h => h) (by rfl) (fun W hSw => by obtain ⟨q0, q1, q2, q3⟩ := hSw; go_simp) hS0 ?_
      simp only [Act.put, List.setIfInBounds_toArray, List.set_cons_zero, List.set_cons_succ]
      refine take_at 3 (some 55) (.pointer (some ⟨b, 300, none⟩)) rfl rfl (by kernel_rfl) (by kernel_rfl) (by kernel_rfl) (fun _ _ _ h => h) (by rfl) (fun W hSw => by obtain ⟨q0, q1, q2, q3⟩ := hSw; go_simp) hS0 ?_
      simp only [Act.put, List.setIfInBounds_toArray, List.set_cons_zero, List.set_cons_succ]
      refine take_at 4 (some 56) (.int .i64 c) rfl rfl (by kernel_rfl) (by kernel_rfl) (by kernel_rfl) (fun _ _ _ h => h) (by rfl) (fun W hSw => by obtain ⟨q0, q1, q2, q3⟩ := hSw; go_simp) hS0 ?_
      simp only [Act.put, List.setIfInBounds_toArray, List.set_cons_zero, List.set_cons_succ]
      refine take_at 5 (some 57) (.agg #[.int .i64 t, .bool o, .int .i64 n]) rfl rfl (by kernel_rfl) (by kernel_rfl) (by kernel_rfl) (fun _ _ _ h => h) (by rfl) (fun W hSw => by obtain ⟨q0, q1, q2, q3⟩ := hSw; go_simp) hS0 ?_
      simp only [Act.put, List.setIfInBounds_toArray, List.set_cons_zero, List.set_cons_succ]
      refine take_at 6 (some 58) (.pointer (some ⟨b, 0, none⟩)) rfl rfl (by kernel_rfl) (by kernel_rfl) (by kernel_rfl) (fun _ _ _ h => h) (by rfl) (fun W hSw => by obtain ⟨q0, q1, q2, q3⟩ := hSw; go_simp) hS0 ?_
      simp only [Act.put, List.setIfInBounds_toArray, List.set_cons_zero, List.set_cons_succ]
      refine take_at 7 (some 59) (.pointer (some ⟨b, 0, none⟩)) rfl rfl (by kernel_rfl) (by kernel_rfl) (by kernel_rfl) (fun _ _ _ h => h) (by rfl) (fun W hSw => by obtain ⟨q0, q1, q2, q3⟩ := hSw; go_simp) hS0 ?_
      simp only [Act.put, List.setIfInBounds_toArray, List.set_cons_zero, List.set_cons_succ]
      refine take_at 8 (some 60) (.pointer (some ⟨b, c * 3, none⟩)) rfl rfl (by kernel_rfl) (by kernel_rfl) (by kernel_rfl) (fun _ _ _ h => h) (by rfl) (fun W hSw => by obtain ⟨q0, q1, q2, q3⟩ := hSw; go_simp; exact fun e => absurd e (by omega)) hS0 ?_
      simp only [Act.put, List.setIfInBounds_toArray, List.set_cons_zero, List.set_cons_succ]
      refine wpAnyH_ready (rs := [9]) (by kernel_rfl) (by simp) ?_
      refine AllReadyH.cons rfl (fun K hK => ?_) AllReadyH.nil
      go_simp
      have hS1 := (⟨hput.cc, (set3_ne hbl' _ _ _).trans hxe.c0, (set3_ne hbl' _ _ _).trans hxe.c1, (set3_ne hbl' _ _ _).trans hxe.c2⟩ : (fun W : World => W.cell? ⟨b, 300, none⟩ = some (Value.int .i64 c) ∧ W.cell? ⟨w.heap.size, 0, none⟩ = some (Value.int .i64 t) ∧ W.cell? ⟨w.heap.size, 1, none⟩ = some (Value.bool o) ∧ W.cell? ⟨w.heap.size, 2, none⟩ = some (Value.int .i64 n)) ((set3 wd b (c * 3) (t, o, n)).drew))
      refine hK.out _ _ hS1 (fun _ => ?_)
      clear hK K
      refine wpAnyH_done (by kernel_rfl) ?_ _
      refine NoPanic.normal ?_
      change Exit.then _ _ Exit.normal _ (set3 wd b (c * 3) (t, o, n)).drew
      obtain ⟨r2, r3⟩ : (set3 wd b (c * 3) (t, o, n)).drew.cell? ⟨b, 300, none⟩ = some (.int .i64 c) ∧ (set3 wd b (c * 3) (t, o, n)).drew.frozen? ⟨b, 300, none⟩ = false := ⟨hput.cc, hput.fz 300 (by omega)⟩
      have hpc := hput.setC (c + 1)
      have ec : wrap64 ((c : Int) + 1) = ((c + 1 : Nat) : Int) := by unfold wrap64; omega
      have HF : Hid (Rl ((set3 wd b (c * 3) (t, o, n)).drew.setCell ⟨b, 300, none⟩ (.int .i64 (c + 1 : Nat))) b (l ++ [(t, o, n)]) k now) := Rl.push (by rw [HC.out]; exact hc100) hf (by rw [HC.out]; exact hpc)
      have HG : Hid (w.grownBy ((set3 wd b (c * 3) (t, o, n)).drew.setCell ⟨b, 300, none⟩ (.int .i64 (c + 1 : Nat))) (some b)) := ((grown_below hbd (some b)).trans hg3).trans (grown_set _ _ _ _)
      have EC : Hid ((c : Int) + 1 = ((c + 1 : Nat) : Int)) := by show _ = _; omega
      clear hput hpc hf hr hrd
      generalize (set3 wd b (c * 3) (t, o, n)).drew = wf at *
      go_wp2
      go_ret
      rw [HA.out, HE.out]
      exact ⟨rfl, by rw [if_pos rfl]; exact HF.out, HG.out⟩
theorem add_any (b : Nat) (l : List Smp) (k now : Int) (s : Smp) (w : World) (h : Rl w b l k now) (hw : Wf l k now) :
    Calls Try.prog 12 #[.pointer (some ⟨b, 0, none⟩), sv s] w fun e w' => e = .returned (.int .i64 (adE l k now s.1)) ∧ Rl w' b (adL l k now s) k now ∧ w.grownBy w' (some b) := by
  by_cases ho : s.1 < 0 ∨ now < s.1 ∨ s.1 ≤ now - k
  · refine (add_out b l k now s w h hw ho).mono ?_
    rintro e w' ⟨rfl, hb⟩
    have he := adE_out (l := l) ho
    unfold adL
    rw [he]
    exact ⟨rfl, by rw [if_neg (by omega)]; exact h.later hb, grown_below hb _⟩
  · exact add_in b l k now s w h hw ho
end Go.Proofs.Ythcakiibkocheaa
