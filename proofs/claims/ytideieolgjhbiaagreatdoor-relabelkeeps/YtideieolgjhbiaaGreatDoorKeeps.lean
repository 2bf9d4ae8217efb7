/- RelabelKeeps: what keeps and what drops by one matcher are opposite; neither changes anything. -/
import Derived.Test.YtideieolgjhbiaaGreatDoorBoxR
namespace Go.Proofs.YtideieolgjhbiaaGreatDoor
open Go.RowKit

theorem keep_ap (l : List Pr) (m : Mat) : apAll l [⟨1, m, [], []⟩] = if fOne m (fGet l m.name) = true then (l, true, 0) else ([], false, 0) := by
  rw [apAll]
  unfold ap1K ap1S ap1E hit
  simp [apAll]
theorem drop_ap (l : List Pr) (m : Mat) : apAll l [⟨2, m, [], []⟩] = if fOne m (fGet l m.name) = true then ([], false, 0) else (l, true, 0) := by
  rw [apAll]
  unfold ap1K ap1S ap1E hit
  cases fOne m (fGet l m.name) <;> simp [apAll]
theorem keep_rule (m : Mat) : fRule ⟨1, m, [], []⟩ = fMat m ∧ fRule ⟨2, m, [], []⟩ = fMat m := by
  unfold fRule bare
  simp
set_option maxRecDepth 100000 in
set_option maxHeartbeats 4000000 in
theorem keeps_any (xa : Option Addr) (n c : Nat) (l : List Pr) (m : Mat) (w : World) (hn : n ≤ 9223372036854775807) (hfm : Big m.name ∧ Big m.text) (hf : Fit l) (hx : Ps w xa n l) (hm : Mx w) :
    Calls Tryz.prog 5 #[.slice xa n c, av m] w fun e w' => e = .returned (.bool true) ∧ Below w.heap.size w w' := by
  have hA := bal (Below.refl _ w) (.cells #[tx m.name, .int .i64 m.kind, tx m.text] 33)
  have hkn := known_any _ (hm.later hA)
  have hc0 : (w.alloc (.cells #[tx m.name, .int .i64 m.kind, tx m.text] 33)).cell? ⟨w.heap.size, 0, none⟩ = some (tx m.name) := by simp [go_sem]
  have hc1 : (w.alloc (.cells #[tx m.name, .int .i64 m.kind, tx m.text] 33)).cell? ⟨w.heap.size, 1, none⟩ = some (.int .i64 m.kind) := by simp [go_sem]
  have hc2 : (w.alloc (.cells #[tx m.name, .int .i64 m.kind, tx m.text] 33)).cell? ⟨w.heap.size, 2, none⟩ = some (tx m.text) := by simp [go_sem]
  have hfr1 : FitR ⟨1, m, [], []⟩ := ⟨hfm.1, hfm.2, big_nil, big_nil⟩
  have hfr2 : FitR ⟨2, m, [], []⟩ := ⟨hfm.1, hfm.2, big_nil, big_nil⟩
  have hfw := fun W => few_any xa n c l _ 1 1 [⟨1, m, [], []⟩] _ hn (by omega) (fitRs_one hfr1) hx.1 (Rs.one W ⟨1, m, [], []⟩)
  have his := fun W => isR_any ⟨1, m, [], []⟩ W hfr1
  rw [(keep_rule m).1] at his
  have hil := fun W (hW : Below w.heap.size w W) (h12 : n ≤ 12) => is_any xa n c l W (by omega) hf (hx.later hW)
  have hap1 := fun W (hW : Below w.heap.size w W) (h12 : n ≤ 12) => apply_any xa n c l _ 1 1 [⟨1, m, [], []⟩] _ (by omega) (by omega) hf (fitRs_one hfr1) (hx.later (bal hW _)) (Rs.one W ⟨1, m, [], []⟩) (hm.later (bal hW _))
  have hap2 := fun W (hW : Below w.heap.size w W) (h12 : n ≤ 12) => apply_any xa n c l _ 1 1 [⟨2, m, [], []⟩] _ (by omega) (by omega) hf (fitRs_one hfr2) (hx.later (bal hW _)) (Rs.one W ⟨2, m, [], []⟩) (hm.later (bal hW _))
  have HE1 : Hid (fMat m = true → fIs l = true → fApply l [⟨1, m, [], []⟩] = if fOne m (fGet l m.name) = true then (l, true, 0) else ([], false, 0)) := fun h1 h2 => by rw [apply_one ((keep_rule m).1.trans h1) h2, keep_ap]
  have HE2 : Hid (fMat m = true → fIs l = true → fApply l [⟨2, m, [], []⟩] = if fOne m (fGet l m.name) = true then ([], false, 0) else (l, true, 0)) := fun h1 h2 => by rw [apply_one ((keep_rule m).2.trans h1) h2, drop_ap]
  have HW : Hid (fewB l [⟨1, m, [], []⟩] = true → n ≤ 12) := fun h => by
    unfold fewB at h
    rw [Bool.and_eq_true, Bool.and_eq_true, decide_eq_true_iff] at h
    rw [← hx.1]; exact h.2.1
  have hsame := fun (W : World) (ao : Option Addr) (k : Nat) (hW : Below w.heap.size w W) (hp : Ps W ao n l) => same_any ao n k l xa n c l W hn hn hp (hx.later hW)
  clear hfr1 hfr2
  generalize hfew : fewB l [⟨1, m, [], []⟩] = fw at *
  generalize hfi : fMat m = fm at *
  clear hfi hfew
  have hap1' := fun W hW h12 hm hl => by
    have h := hap1 W hW h12
    rw [HE1.out hm hl] at h
    exact h
  have hap2' := fun W hW h12 hm hl => by
    have h := hap2 W hW h12
    rw [HE2.out hm hl] at h
    exact h
  clear hap1 hap2 HE1 HE2
  generalize hil0 : fIs l = il at *
  have HIL : Hid _ := hil0
  generalize hfo : fOne m (fGet l m.name) = fo at *
  clear hil0 hfo
  have hbr := fun W => BoxR.new W ⟨1, m, [], []⟩
  have hbs := fun W => BoxR.new W ⟨2, m, [], []⟩
  obtain ⟨nn, kk, tt⟩ := m
  dsimp only at *
  clear hfm
  go_enter Tryz.func5, Tryz.ntmps5
  go_wp2_with fail
  generalize w.alloc (.cells _ 33) = w0 at *
  refine hkn.mono ?_
  rintro e w1 ⟨rfl, hb1⟩
  have B1 := Below.chain hA hb1
  have d0 := cell_later hc0 hb1
  have d1 := cell_later hc1 hb1
  have d2 := cell_later hc2 hb1
  have hV := bal (bal (Below.refl _ w1) (cR ⟨1, ⟨nn, kk, tt⟩, [], []⟩)) (cR ⟨2, ⟨nn, kk, tt⟩, [], []⟩)
  have hbr1 := (hbr w1).later (bal (Below.refl _ _) (cR ⟨2, ⟨nn, kk, tt⟩, [], []⟩))
  have hbs1 := hbs (w1.alloc (cR ⟨1, ⟨nn, kk, tt⟩, [], []⟩))
  rw [size_alloc] at hbs1
  have hfw1 := hfw ((w1.alloc (cR ⟨1, ⟨nn, kk, tt⟩, [], []⟩)).alloc (cR ⟨2, ⟨nn, kk, tt⟩, [], []⟩))
  rw [size_alloc, size_alloc] at hfw1
  have g0 : (w1.alloc (.cells #[.int .i64 1, tx nn, .int .i64 kk, tx tt, tx [], tx []] 35)).cell? ⟨w.heap.size, 0, none⟩ = some (tx nn) := cell_later d0 (bal (Below.refl _ w1) _)
  have g1 : (w1.alloc (.cells #[.int .i64 1, tx nn, .int .i64 kk, tx tt, tx [], tx []] 35)).cell? ⟨w.heap.size, 1, none⟩ = some (.int .i64 kk) := cell_later d1 (bal (Below.refl _ w1) _)
  have g2 : (w1.alloc (.cells #[.int .i64 1, tx nn, .int .i64 kk, tx tt, tx [], tx []] 35)).cell? ⟨w.heap.size, 2, none⟩ = some (tx tt) := cell_later d2 (bal (Below.refl _ w1) _)
  clear hc0 hc1 hc2 hkn hA hb1 hbr hbs hfw
  go_wp2_with fail
  refine hfw1.mono ?_
  rintro e w3 ⟨rfl, rfl⟩
  have hbr2 := hbr1.later (bal (Below.refl _ _) (cR ⟨1, ⟨nn, kk, tt⟩, [], []⟩))
  have hbs2 := hbs1.later (bal (Below.refl _ _) (cR ⟨1, ⟨nn, kk, tt⟩, [], []⟩))
  have B2 := Below.chain B1 (bal hV (cR ⟨1, ⟨nn, kk, tt⟩, [], []⟩))
  clear hfw1 hbr1 hbs1 hV
  generalize ((w1.alloc (cR ⟨1, ⟨nn, kk, tt⟩, [], []⟩)).alloc (cR ⟨2, ⟨nn, kk, tt⟩, [], []⟩)).alloc (cR ⟨1, ⟨nn, kk, tt⟩, [], []⟩) = w2 at *
  cases fw with
  | false =>
    go_wp2_with fail
    go_ret
    exact ⟨rfl, B2⟩
  | true =>
    have h12 : n ≤ 12 := HW.out rfl
    have hbr3 := hbr2
    obtain ⟨c0, c1, c2, c3, c4, c5⟩ := hbr3
    dsimp only at c0 c1 c2 c3 c4 c5
    go_wp2_with fail
    refine (his _).mono ?_
    rintro e w3 ⟨rfl, hb3⟩
    have B3 := Below.chain B2 hb3
    have hbr3 := hbr2.later hb3
    have hbs3 := hbs2.later hb3
    clear hbr2 hbs2 hb3 B2 his c0 c1 c2 c3 c4 c5
    cases fm with
    | false =>
      go_wp2_with fail
      go_ret
      exact ⟨rfl, B3⟩
    | true =>
      go_wp2_with fail
      refine (hil _ B3 h12).mono ?_
      rintro e w4 ⟨rfl, hb4⟩
      have B4 := Below.chain B3 hb4
      have hbr4 := hbr3.later hb4
      have hbs4 := hbs3.later hb4
      clear hbr3 hbs3 hb4 B3 hil
      cases il with
      | false =>
        go_wp2_with fail
        go_ret
        exact ⟨rfl, B4⟩
      | true =>
        have ha1 := hap1' w4 B4 h12 (by trivial) (by trivial)
        obtain ⟨c0, c1, c2, c3, c4, c5⟩ := hbr4
        dsimp only at c0 c1 c2 c3 c4 c5
        cases fo with
        | true =>
          rw [if_pos rfl] at ha1
          rw [if_pos rfl] at hap2'
          go_wp2_with fail
          refine ha1.mono ?_
          rintro e w5 ⟨ao5, N5, cap5, rfl, hps5, hb5⟩
          have B5 := Below.chain (bal B4 (cR ⟨1, ⟨nn, kk, tt⟩, [], []⟩)) hb5
          have hbs5 := hbs4.later (Below.chain (bal (Below.refl _ w4) (cR ⟨1, ⟨nn, kk, tt⟩, [], []⟩)) hb5)
          have ha2 := hap2' w5 B5 h12 (by trivial) (by trivial)
          obtain rfl : N5 = n := hps5.1.symm.trans hx.1
          obtain ⟨e0, e1, e2, e3, e4, e5⟩ := hbs5
          dsimp only at e0 e1 e2 e3 e4 e5
          clear ha1 hap1' hap2' hbs4 hb5 c0 c1 c2 c3 c4 c5
          go_wp2_with fail
          refine ha2.mono ?_
          rintro e w6 ⟨ao6, N6, cap6, rfl, hps6, hb6⟩
          have B56 := Below.chain (bal (Below.refl _ w5) (cR ⟨2, ⟨nn, kk, tt⟩, [], []⟩)) hb6
          have B6 := Below.chain B5 B56
          have hsm := hsame w6 ao5 cap5 B6 (hps5.later B56)
          rw [show sameB l l = true from decide_eq_true rfl] at hsm
          clear ha2 hsame hps5 hps6 B56 hb6 e0 e1 e2 e3 e4 e5
          go_wp2_with fail
          refine hsm.mono ?_
          rintro e w7 ⟨rfl, k, rfl⟩
          go_wp2_with fail
          go_ret
          exact ⟨rfl, below_drewN B6 k⟩
        | false =>
          rw [if_neg (by simp)] at ha1
          rw [if_neg (by simp)] at hap2'
          go_wp2_with fail
          refine ha1.mono ?_
          rintro e w5 ⟨ao5, N5, cap5, rfl, hps5, hb5⟩
          have B5 := Below.chain (bal B4 (cR ⟨1, ⟨nn, kk, tt⟩, [], []⟩)) hb5
          have hbs5 := hbs4.later (Below.chain (bal (Below.refl _ w4) (cR ⟨1, ⟨nn, kk, tt⟩, [], []⟩)) hb5)
          have ha2 := hap2' w5 B5 h12 (by trivial) (by trivial)
          obtain ⟨e0, e1, e2, e3, e4, e5⟩ := hbs5
          dsimp only at e0 e1 e2 e3 e4 e5
          clear ha1 hap1' hap2' hbs4 hb5 c0 c1 c2 c3 c4 c5
          go_wp2_with fail
          refine ha2.mono ?_
          rintro e w6 ⟨ao6, N6, cap6, rfl, hps6, hb6⟩
          have B56 := Below.chain (bal (Below.refl _ w5) (cR ⟨2, ⟨nn, kk, tt⟩, [], []⟩)) hb6
          have B6 := Below.chain B5 B56
          obtain rfl : N6 = n := hps6.1.symm.trans hx.1
          have hsm := hsame w6 ao6 cap6 B6 hps6
          rw [show sameB l l = true from decide_eq_true rfl] at hsm
          clear ha2 hsame hps5 hps6 B56 hb6 e0 e1 e2 e3 e4 e5
          go_wp2_with fail
          refine hsm.mono ?_
          rintro e w7 ⟨rfl, k, rfl⟩
          go_wp2_with fail
          go_ret
          exact ⟨rfl, below_drewN B6 k⟩
end Go.Proofs.YtideieolgjhbiaaGreatDoor
