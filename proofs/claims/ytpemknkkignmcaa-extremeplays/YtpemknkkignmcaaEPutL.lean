/- put, of the least. -/
import Derived.Test.YtpemknkkignmcaaEBeat
namespace Go.Proofs.Ytpemknkkignmcaa
open Go.RowKit

set_option maxHeartbeats 1000000 in
theorem put_L (b p : Nat) (l : List Smp) (k now : Int) (g : Bool) (s : Smp) (w : World) (h : Rl w b l k now g) (hd : l.Pairwise (fun a b => kg false b < kg false a)) (hr : ∀ x ∈ l, R64 x.2.2) (hs : R64 s.2.2) (hlen : l.length < 100) (hx : BoxS w p s) (hpb : p ≠ b) :
    Calls Try.prog 33 #[.pointer (some ⟨b, 0, none⟩), sv s, .func (.func 35) #[] #[.pointer (some ⟨p, 0, none⟩)]] w fun e w' => e = .returned (.tuple #[]) ∧ Rl w' b (kp (kg false) s l ++ [s]) k now g ∧ w.grownBy w' (some b) := by
  have hfd := field_v
  have hb1 := bal (Below.refl _ w) (.cells #[.int .i64 s.1, .bool s.2.1, .int .i64 s.2.2] 32)
  have h1 := h.later hb1
  have hx1 := hx.later hb1
  have hy1 := BoxS.new w s
  have hbn : b ≠ w.heap.size := by have := h.lt; omega
  have hbt := beat_L p s
  have HD : Hid (l.Pairwise (fun a b => kg false b < kg false a)) := hd
  have HR : Hid (∀ x ∈ l, R64 x.2.2) := hr
  clear hd hr
  go_enter Try.func33, Try.ntmps33
  go_wp2_with fail
  go_loopw [] (fun wr => ∃ r, Rl wr b r k now g ∧ kp (kg false) s r = kp (kg false) s l ∧ r.Pairwise (fun a b => kg false b < kg false a) ∧ (∀ x ∈ r, R64 x.2.2) ∧ r.length < 100 ∧ BoxS wr p s ∧ BoxS wr w.heap.size s ∧ w.grownBy wr (some b)) (fun wr => cntW wr b)
  case atStart => exact ⟨l, h1, rfl, HD.out, HR.out, hlen, hx1, hy1, grown_below hb1 _⟩
  case round =>
    obtain ⟨r, hrl, hkp, hpd, hrr, hrlen, hxp, hyp, hg⟩ := hrel
    have HK : Hid (kp (kg false) s r = kp (kg false) s l) := hkp
    have HPD : Hid (r.Pairwise (fun a b => kg false b < kg false a)) := hpd
    have HRR : Hid (∀ x ∈ r, R64 x.2.2) := hrr
    clear hkp hpd hrr h1 hx1 hy1 hb1 h hx
    rcases List.eq_nil_or_concat r with hn | ⟨r', x, hc⟩
    · subst hn
      have HE : Hid (([] : List Smp) = kp (kg false) s l) := HK.out
      have i0 : wr.cell? ⟨b, 301, none⟩ = some (.int .i64 0) := by obtain ⟨f, o, ho, hl, hr, hf⟩ := hrl; exact hr.cc
      obtain ⟨f2, o2, ho2, hl2, hr2, hf2⟩ := hrl
      have HF2 : Hid (∀ i, i < ([] : List Smp).length → f2 ((o2 + i) % 100) = ([] : List Smp).getD i s0) := hf2
      have hx1 : (o2 + ([] : List Smp).length) % 100 < 100 := by omega
      have HL : Hid (([] : List Smp).length < 100) := (by show 0 < 100; omega)
      have hpl := fun W hW => place_cell b o2 ([] : List Smp).length W hW ho2 (by have := HL.out; omega)
      clear hf2 hl2
      generalize hmm2 : ([] : List Smp).length = m2 at *
      have HM2 : Hid _ := hmm2
      clear hmm2
      generalize hxx : (o2 + m2) % 100 = x2 at *
      have HX2 : Hid _ := hxx
      clear hxx
      go_wp2_with fail
      have hr3 : Rg wr.drew b f2 o2 m2 k now g := hr2.later (Below.refl _ _).drew
      have hx3 : BoxS wr.drew w.heap.size s := hyp.later (Below.refl _ _).drew
      have hg3 : w.grownBy wr.drew (some b) := hg.trans (grown_below (Below.refl _ _).drew (some b))
      have hc0 : wr.cell? ⟨b, x2 * 3, none⟩ = _ := hr2.ct x2 hx1
      have hc1 : wr.cell? ⟨b, x2 * 3 + 1, none⟩ = _ := hr2.cv x2 hx1
      have hc2 : wr.cell? ⟨b, x2 * 3 + 2, none⟩ = _ := hr2.cn x2 hx1
      have g0 := hr2.fz (x2 * 3) (by omega)
      have g1 := hr2.fz (x2 * 3 + 1) (by omega)
      have g2 := hr2.fz (x2 * 3 + 2) (by omega)
      clear hr2 hyp hg
      have hr4 := hr3.put hx1 s
      have hx4 := hx3.kept (grown3 wr.drew b (x2 * 3) s) (by simp; omega)
      have hg4 := hg3.trans (grown3 wr.drew b (x2 * 3) s)
      have i1 := hr3.cc
      have i2 := hr3.co
      obtain ⟨d0, d1, d2, _, _, _⟩ := id hx3
      have hS0 : (fun W : World => W.cell? ⟨b, 300, none⟩ = some (Value.int .i64 o2) ∧ W.cell? ⟨b, 301, none⟩ = some (Value.int .i64 m2) ∧ W.cell? ⟨w.heap.size, 0, none⟩ = some (Value.int .i64 s.1) ∧ W.cell? ⟨w.heap.size, 1, none⟩ = some (Value.bool s.2.1) ∧ W.cell? ⟨w.heap.size, 2, none⟩ = some (Value.int .i64 s.2.2)) _ := ⟨i2, i1, d0, d1, d2⟩
      refine wp_region_noPanic ?_
      refine wp_region_held_drew (S := fun W : World => W.cell? ⟨b, 300, none⟩ = some (Value.int .i64 o2) ∧ W.cell? ⟨b, 301, none⟩ = some (Value.int .i64 m2) ∧ W.cell? ⟨w.heap.size, 0, none⟩ = some (Value.int .i64 s.1) ∧ W.cell? ⟨w.heap.size, 1, none⟩ = some (Value.bool s.2.1) ∧ W.cell? ⟨w.heap.size, 2, none⟩ = some (Value.int .i64 s.2.2)) (by kernel_rfl) hS0 (fun _ => ?_)
      refine take_at 0 (some 25) (.pointer (some ⟨b, 0, none⟩)) rfl rfl (by kernel_rfl) (by kernel_rfl) (by kernel_rfl) (fun _ _ _ h => h) (by rfl) (fun W hSw => by obtain ⟨q0, q1, q2, q3, q4⟩ := hSw; go_simp) hS0 ?_
      simp only [Act.put, List.setIfInBounds_toArray, List.set_cons_zero, List.set_cons_succ]
      refine take_at 1 (some 26) (.pointer (some ⟨b, 0, none⟩)) rfl rfl (by kernel_rfl) (by kernel_rfl) (by kernel_rfl) (fun _ _ _ h => h) (by rfl) (fun W hSw => by obtain ⟨q0, q1, q2, q3, q4⟩ := hSw; go_simp) hS0 ?_
      simp only [Act.put, List.setIfInBounds_toArray, List.set_cons_zero, List.set_cons_succ]
      refine take_at 2 (some 27) (.pointer (some ⟨b, 0, none⟩)) rfl rfl (by kernel_rfl) (by kernel_rfl) (by kernel_rfl) (fun _ _ _ h => h) (by rfl) (fun W hSw => by obtain ⟨q0, q1, q2, q3, q4⟩ := hSw; go_simp) hS0 ?_
      simp only [Act.put, List.setIfInBounds_toArray, List.set_cons_zero, List.set_cons_succ]
      refine take_at 3 (some 28) (.pointer (some ⟨b, 0, none⟩)) rfl rfl (by kernel_rfl) (by kernel_rfl) (by kernel_rfl) (fun _ _ _ h => h) (by rfl) (fun W hSw => by obtain ⟨q0, q1, q2, q3, q4⟩ := hSw; go_simp) hS0 ?_
      simp only [Act.put, List.setIfInBounds_toArray, List.set_cons_zero, List.set_cons_succ]
      refine take_at 4 (some 29) (.pointer (some ⟨b, 301, none⟩)) rfl rfl (by kernel_rfl) (by kernel_rfl) (by kernel_rfl) (fun _ _ _ h => h) (by rfl) (fun W hSw => by obtain ⟨q0, q1, q2, q3, q4⟩ := hSw; go_simp) hS0 ?_
      simp only [Act.put, List.setIfInBounds_toArray, List.set_cons_zero, List.set_cons_succ]
      refine take_at 5 (some 30) (.int .i64 m2) rfl rfl (by kernel_rfl) (by kernel_rfl) (by kernel_rfl) (fun _ _ _ h => h) (by rfl) (fun W hSw => by obtain ⟨q0, q1, q2, q3, q4⟩ := hSw; go_simp) hS0 ?_
      simp only [Act.put, List.setIfInBounds_toArray, List.set_cons_zero, List.set_cons_succ]
      refine take_at 7 (some 32) (sv s) rfl rfl (by kernel_rfl) (by kernel_rfl) (by kernel_rfl) (fun _ _ _ h => h) (by rfl) (fun W hSw => by obtain ⟨q0, q1, q2, q3, q4⟩ := hSw; go_simp) hS0 ?_
      simp only [Act.put, List.setIfInBounds_toArray, List.set_cons_zero, List.set_cons_succ]
      refine take_at 8 (some 33) (.pointer (some ⟨b, 0, none⟩)) rfl rfl (by kernel_rfl) (by kernel_rfl) (by kernel_rfl) (fun _ _ _ h => h) (by rfl) (fun W hSw => by obtain ⟨q0, q1, q2, q3, q4⟩ := hSw; go_simp) hS0 ?_
      simp only [Act.put, List.setIfInBounds_toArray, List.set_cons_zero, List.set_cons_succ]
      refine take_at 9 (some 34) (.pointer (some ⟨b, 0, none⟩)) rfl rfl (by kernel_rfl) (by kernel_rfl) (by kernel_rfl) (fun _ _ _ h => h) (by rfl) (fun W hSw => by obtain ⟨q0, q1, q2, q3, q4⟩ := hSw; go_simp) hS0 ?_
      simp only [Act.put, List.setIfInBounds_toArray, List.set_cons_zero, List.set_cons_succ]
      refine wpAnyH_ready (rs := [6]) (by kernel_rfl) (by simp) ?_
      refine AllReadyH.cons rfl (fun K hK => ?_) AllReadyH.nil
      go_simp
      refine (hpl _ i2).mono ?_
      rintro e w' ⟨rfl, rfl⟩
      have hS1 := (⟨i2, i1, d0, d1, d2⟩ : (fun W : World => W.cell? ⟨b, 300, none⟩ = some (Value.int .i64 o2) ∧ W.cell? ⟨b, 301, none⟩ = some (Value.int .i64 m2) ∧ W.cell? ⟨w.heap.size, 0, none⟩ = some (Value.int .i64 s.1) ∧ W.cell? ⟨w.heap.size, 1, none⟩ = some (Value.bool s.2.1) ∧ W.cell? ⟨w.heap.size, 2, none⟩ = some (Value.int .i64 s.2.2)) _)
      refine hK.out _ _ hS1 (fun _ => ?_)
      clear hK K
      refine take_at 10 (some 35) (.pointer (some ⟨b, x2 * 3, none⟩)) rfl rfl (by kernel_rfl) (by kernel_rfl) (by kernel_rfl) (fun _ _ _ h => h) (by rfl) (fun W hSw => by obtain ⟨q0, q1, q2, q3, q4⟩ := hSw; go_simp; intro hh; exfalso; omega) hS1 ?_
      simp only [Act.put, List.setIfInBounds_toArray, List.set_cons_zero, List.set_cons_succ]
      refine wpAnyH_ready (rs := [11]) (by kernel_rfl) (by simp) ?_
      refine AllReadyH.cons rfl (fun K hK => ?_) AllReadyH.nil
      go_simp
      have hS2 := (⟨hr4.co, hr4.cc, hx4.c0, hx4.c1, hx4.c2⟩ : (fun W : World => W.cell? ⟨b, 300, none⟩ = some (Value.int .i64 o2) ∧ W.cell? ⟨b, 301, none⟩ = some (Value.int .i64 m2) ∧ W.cell? ⟨w.heap.size, 0, none⟩ = some (Value.int .i64 s.1) ∧ W.cell? ⟨w.heap.size, 1, none⟩ = some (Value.bool s.2.1) ∧ W.cell? ⟨w.heap.size, 2, none⟩ = some (Value.int .i64 s.2.2)) _)
      refine hK.out _ _ hS2 (fun _ => ?_)
      clear hK K
      refine wpAnyH_done (by kernel_rfl) ?_ _
      refine NoPanic.normal ?_
      change Exit.then _ _ Exit.normal _ (set3 wr.drew b (x2 * 3) s)
      generalize set3 wr.drew b (x2 * 3) s = wb at *
      have k1 := hr4.cc
      have k2 := hr4.fz 301 (by omega)
      have e1 : wrap64 ((m2 : Int) + 1) = ((m2 + 1 : Nat) : Int) := by have := HL.out; unfold wrap64; omega
      clear hS0 hS1 hS2
      go_wp2
      go_end0
      refine ⟨rfl, ?_, hg4.trans (grown_set _ _ _ _)⟩
      rw [← HE.out]
      have hq : Rg (wb.setCell ⟨b, 301, none⟩ (.int .i64 ((m2 : Int) + 1))) b (fun j => if j = x2 then s else f2 j) o2 (m2 + 1) k now g := hr4.setC (m2 + 1)
      exact Rl.push (f := f2) ho2 (by rw [HM2.out]; exact HL.out) (by rw [HM2.out]; exact HF2.out) (by rw [HM2.out, HX2.out]; exact hq)
    · rw [List.concat_eq_append] at hc
      have hne : r ≠ [] := by rw [hc]; simp
      have hla := last_any b r k now g wr hrl hne
      have hlx : lst r = x := by rw [hc, lst_snoc]
      rw [hlx] at hla
      have hrx : R64 x.2.2 := HRR.out x (by rw [hc]; simp)
      have hlr : r.length = r'.length + 1 := by rw [hc]; simp
      obtain ⟨xt, xo, xn⟩ := x
      have i1 : wr.cell? ⟨b, 301, none⟩ = some (.int .i64 ((r'.length : Int) + 1)) := by
        obtain ⟨f, o, ho, hl, hr, hf⟩ := hrl
        have := hr.cc
        rw [hlr] at this
        exact this
      have hm : cntW wr b = r'.length + 1 := by obtain ⟨f, o, ho, hl, hr, hf⟩ := hrl; rw [hr.cnt, hlr]
      have h2 : decide ((0 : Int) < (r'.length : Int) + 1) = true := decide_eq_true (by omega)
      have HC : Hid (r = r' ++ [(xt, xo, xn)]) := hc
      have HLR : Hid (r.length = r'.length + 1) := hlr
      have hl100 : r'.length + 1 < 100 := by omega
      clear hc hlr hlx hne hrlen
      generalize hm' : r'.length = m at *
      have HM : Hid (r'.length = m) := hm'
      clear hm'
      by_cases hq : kg false (xt, xo, xn) ≤ kg false s
      · have dq : decide (kg false (xt, xo, xn) ≤ kg false s) = true := decide_eq_true hq
        have HK2 : Hid (kp (kg false) s r' = kp (kg false) s l) := by show _ = _; rw [← HK.out, HC.out, kp_pop hq]
        clear hq
        go_wp2_with fail
        refine hla.mono ?_
        rintro e w1 ⟨rfl, hb1⟩
        go_wp2_with fail
        refine (hbt xt xo xn w1 (hxp.later hb1) hrx hs).mono ?_
        rintro e w2 ⟨rfl, hb2⟩
        rw [dq]
        have hb3 := Below.chain hb1 hb2
        have hrl2 := hrl.later hb3
        have hxp2 := hxp.later hb3
        have hyp2 := hyp.later hb3
        have hg2 := hg.trans (grown_below hb3 (some b))
        obtain ⟨f, o, ho, hl, hr, hf⟩ := hrl2
        have j1 : w2.cell? ⟨b, 301, none⟩ = some (.int .i64 ((m : Int) + 1)) := by have := hr.cc; rw [HLR.out] at this; exact this
        have j3 := hr.fz 301 (by omega)
        have e1 : wrap64 ((m : Int) + 1 - 1) = (m : Int) := by unfold wrap64; omega
        have e2 : wrap64 (m : Int) = (m : Int) := by unfold wrap64; omega
        have HF : Hid (∀ i, i < r.length → f ((o + i) % 100) = r.getD i s0) := hf
        clear hf hl hla
        go_wp2_with fail
        go_roundw
        case rel =>
          refine ⟨r', Rl.drop ho (by rw [HM.out]; omega) (s := (xt, xo, xn)) (by rw [← HC.out]; rw [HM.out]; have := HF.out; rw [HLR.out] at this; exact this) (by rw [HM.out]; exact hr.setC m), HK2.out, ?_, ?_, by rw [HM.out]; omega, hxp2.kept (grown_set _ _ _ _) (by simp; omega), hyp2.kept (grown_set _ _ _ _) (by simp; omega), hg2.trans (grown_set _ _ _ _)⟩
          · have := HPD.out
            rw [HC.out] at this
            exact (List.pairwise_append.1 this).1
          · exact fun y hy => HRR.out y (by rw [HC.out]; exact List.mem_append_left _ hy)
        case measure =>
          rw [(hr.setC m).cnt, hm]
          omega
      · have dq : decide (kg false (xt, xo, xn) ≤ kg false s) = false := decide_eq_false hq
        have HE : Hid (r = kp (kg false) s l) := by
          show _ = _
          rw [← HK.out]
          have := HPD.out
          rw [HC.out] at this ⊢
          rw [kp_all this hq]
        have hrl100 : r.length < 100 := by rw [HLR.out]; omega
        clear hq
        go_wp2_with fail
        refine hla.mono ?_
        rintro e w1 ⟨rfl, hb1⟩
        go_wp2_with fail
        refine (hbt xt xo xn w1 (hxp.later hb1) hrx hs).mono ?_
        rintro e w2 ⟨rfl, hb2⟩
        rw [dq]
        have hb3 := Below.chain hb1 hb2
        have hrl2 := hrl.later hb3
        have hyp2 := hyp.later hb3
        have hg2 := hg.trans (grown_below hb3 (some b))
        have i4 : w2.cell? ⟨b, 301, none⟩ = some (.int .i64 ((m : Int) + 1)) := by obtain ⟨f, o, ho, hl, hr, hf⟩ := hrl2; have := hr.cc; rw [HLR.out] at this; exact this
        clear hla hrl hxp hyp hg i1
        obtain ⟨f2, o2, ho2, hl2, hr2, hf2⟩ := hrl2
        have HF2 : Hid (∀ i, i < r.length → f2 ((o2 + i) % 100) = r.getD i s0) := hf2
        have hx1 : (o2 + r.length) % 100 < 100 := by omega
        have HL : Hid (r.length < 100) := hrl100
        have hpl := fun W hW => place_cell b o2 r.length W hW ho2 (by have := HL.out; omega)
        clear hf2 hl2
        generalize hmm2 : r.length = m2 at *
        have HM2 : Hid _ := hmm2
        clear hmm2
        generalize hxx : (o2 + m2) % 100 = x2 at *
        have HX2 : Hid _ := hxx
        clear hxx
        go_wp2_with fail
        have hr3 : Rg w2.drew b f2 o2 m2 k now g := hr2.later (Below.refl _ _).drew
        have hx3 : BoxS w2.drew w.heap.size s := hyp2.later (Below.refl _ _).drew
        have hg3 : w.grownBy w2.drew (some b) := hg2.trans (grown_below (Below.refl _ _).drew (some b))
        have hc0 : w2.cell? ⟨b, x2 * 3, none⟩ = _ := hr2.ct x2 hx1
        have hc1 : w2.cell? ⟨b, x2 * 3 + 1, none⟩ = _ := hr2.cv x2 hx1
        have hc2 : w2.cell? ⟨b, x2 * 3 + 2, none⟩ = _ := hr2.cn x2 hx1
        have g0 := hr2.fz (x2 * 3) (by omega)
        have g1 := hr2.fz (x2 * 3 + 1) (by omega)
        have g2 := hr2.fz (x2 * 3 + 2) (by omega)
        clear hr2 hyp2 hg2
        have hr4 := hr3.put hx1 s
        have hx4 := hx3.kept (grown3 w2.drew b (x2 * 3) s) (by simp; omega)
        have hg4 := hg3.trans (grown3 w2.drew b (x2 * 3) s)
        have i1 := hr3.cc
        have i2 := hr3.co
        obtain ⟨d0, d1, d2, _, _, _⟩ := id hx3
        have hS0 : (fun W : World => W.cell? ⟨b, 300, none⟩ = some (Value.int .i64 o2) ∧ W.cell? ⟨b, 301, none⟩ = some (Value.int .i64 m2) ∧ W.cell? ⟨w.heap.size, 0, none⟩ = some (Value.int .i64 s.1) ∧ W.cell? ⟨w.heap.size, 1, none⟩ = some (Value.bool s.2.1) ∧ W.cell? ⟨w.heap.size, 2, none⟩ = some (Value.int .i64 s.2.2)) _ := ⟨i2, i1, d0, d1, d2⟩
        refine wp_region_noPanic ?_
        refine wp_region_held_drew (S := fun W : World => W.cell? ⟨b, 300, none⟩ = some (Value.int .i64 o2) ∧ W.cell? ⟨b, 301, none⟩ = some (Value.int .i64 m2) ∧ W.cell? ⟨w.heap.size, 0, none⟩ = some (Value.int .i64 s.1) ∧ W.cell? ⟨w.heap.size, 1, none⟩ = some (Value.bool s.2.1) ∧ W.cell? ⟨w.heap.size, 2, none⟩ = some (Value.int .i64 s.2.2)) (by kernel_rfl) hS0 (fun _ => ?_)
        refine take_at 0 (some 25) (.pointer (some ⟨b, 0, none⟩)) rfl rfl (by kernel_rfl) (by kernel_rfl) (by kernel_rfl) (fun _ _ _ h => h) (by rfl) (fun W hSw => by obtain ⟨q0, q1, q2, q3, q4⟩ := hSw; go_simp) hS0 ?_
        simp only [Act.put, List.setIfInBounds_toArray, List.set_cons_zero, List.set_cons_succ]
        refine take_at 1 (some 26) (.pointer (some ⟨b, 0, none⟩)) rfl rfl (by kernel_rfl) (by kernel_rfl) (by kernel_rfl) (fun _ _ _ h => h) (by rfl) (fun W hSw => by obtain ⟨q0, q1, q2, q3, q4⟩ := hSw; go_simp) hS0 ?_
        simp only [Act.put, List.setIfInBounds_toArray, List.set_cons_zero, List.set_cons_succ]
        refine take_at 2 (some 27) (.pointer (some ⟨b, 0, none⟩)) rfl rfl (by kernel_rfl) (by kernel_rfl) (by kernel_rfl) (fun _ _ _ h => h) (by rfl) (fun W hSw => by obtain ⟨q0, q1, q2, q3, q4⟩ := hSw; go_simp) hS0 ?_
        simp only [Act.put, List.setIfInBounds_toArray, List.set_cons_zero, List.set_cons_succ]
        refine take_at 3 (some 28) (.pointer (some ⟨b, 0, none⟩)) rfl rfl (by kernel_rfl) (by kernel_rfl) (by kernel_rfl) (fun _ _ _ h => h) (by rfl) (fun W hSw => by obtain ⟨q0, q1, q2, q3, q4⟩ := hSw; go_simp) hS0 ?_
        simp only [Act.put, List.setIfInBounds_toArray, List.set_cons_zero, List.set_cons_succ]
        refine take_at 4 (some 29) (.pointer (some ⟨b, 301, none⟩)) rfl rfl (by kernel_rfl) (by kernel_rfl) (by kernel_rfl) (fun _ _ _ h => h) (by rfl) (fun W hSw => by obtain ⟨q0, q1, q2, q3, q4⟩ := hSw; go_simp) hS0 ?_
        simp only [Act.put, List.setIfInBounds_toArray, List.set_cons_zero, List.set_cons_succ]
        refine take_at 5 (some 30) (.int .i64 m2) rfl rfl (by kernel_rfl) (by kernel_rfl) (by kernel_rfl) (fun _ _ _ h => h) (by rfl) (fun W hSw => by obtain ⟨q0, q1, q2, q3, q4⟩ := hSw; go_simp) hS0 ?_
        simp only [Act.put, List.setIfInBounds_toArray, List.set_cons_zero, List.set_cons_succ]
        refine take_at 7 (some 32) (sv s) rfl rfl (by kernel_rfl) (by kernel_rfl) (by kernel_rfl) (fun _ _ _ h => h) (by rfl) (fun W hSw => by obtain ⟨q0, q1, q2, q3, q4⟩ := hSw; go_simp) hS0 ?_
        simp only [Act.put, List.setIfInBounds_toArray, List.set_cons_zero, List.set_cons_succ]
        refine take_at 8 (some 33) (.pointer (some ⟨b, 0, none⟩)) rfl rfl (by kernel_rfl) (by kernel_rfl) (by kernel_rfl) (fun _ _ _ h => h) (by rfl) (fun W hSw => by obtain ⟨q0, q1, q2, q3, q4⟩ := hSw; go_simp) hS0 ?_
        simp only [Act.put, List.setIfInBounds_toArray, List.set_cons_zero, List.set_cons_succ]
        refine take_at 9 (some 34) (.pointer (some ⟨b, 0, none⟩)) rfl rfl (by kernel_rfl) (by kernel_rfl) (by kernel_rfl) (fun _ _ _ h => h) (by rfl) (fun W hSw => by obtain ⟨q0, q1, q2, q3, q4⟩ := hSw; go_simp) hS0 ?_
        simp only [Act.put, List.setIfInBounds_toArray, List.set_cons_zero, List.set_cons_succ]
        refine wpAnyH_ready (rs := [6]) (by kernel_rfl) (by simp) ?_
        refine AllReadyH.cons rfl (fun K hK => ?_) AllReadyH.nil
        go_simp
        refine (hpl _ i2).mono ?_
        rintro e w' ⟨rfl, rfl⟩
        have hS1 := (⟨i2, i1, d0, d1, d2⟩ : (fun W : World => W.cell? ⟨b, 300, none⟩ = some (Value.int .i64 o2) ∧ W.cell? ⟨b, 301, none⟩ = some (Value.int .i64 m2) ∧ W.cell? ⟨w.heap.size, 0, none⟩ = some (Value.int .i64 s.1) ∧ W.cell? ⟨w.heap.size, 1, none⟩ = some (Value.bool s.2.1) ∧ W.cell? ⟨w.heap.size, 2, none⟩ = some (Value.int .i64 s.2.2)) _)
        refine hK.out _ _ hS1 (fun _ => ?_)
        clear hK K
        refine take_at 10 (some 35) (.pointer (some ⟨b, x2 * 3, none⟩)) rfl rfl (by kernel_rfl) (by kernel_rfl) (by kernel_rfl) (fun _ _ _ h => h) (by rfl) (fun W hSw => by obtain ⟨q0, q1, q2, q3, q4⟩ := hSw; go_simp; intro hh; exfalso; omega) hS1 ?_
        simp only [Act.put, List.setIfInBounds_toArray, List.set_cons_zero, List.set_cons_succ]
        refine wpAnyH_ready (rs := [11]) (by kernel_rfl) (by simp) ?_
        refine AllReadyH.cons rfl (fun K hK => ?_) AllReadyH.nil
        go_simp
        have hS2 := (⟨hr4.co, hr4.cc, hx4.c0, hx4.c1, hx4.c2⟩ : (fun W : World => W.cell? ⟨b, 300, none⟩ = some (Value.int .i64 o2) ∧ W.cell? ⟨b, 301, none⟩ = some (Value.int .i64 m2) ∧ W.cell? ⟨w.heap.size, 0, none⟩ = some (Value.int .i64 s.1) ∧ W.cell? ⟨w.heap.size, 1, none⟩ = some (Value.bool s.2.1) ∧ W.cell? ⟨w.heap.size, 2, none⟩ = some (Value.int .i64 s.2.2)) _)
        refine hK.out _ _ hS2 (fun _ => ?_)
        clear hK K
        refine wpAnyH_done (by kernel_rfl) ?_ _
        refine NoPanic.normal ?_
        change Exit.then _ _ Exit.normal _ (set3 w2.drew b (x2 * 3) s)
        generalize set3 w2.drew b (x2 * 3) s = wb at *
        have k1 := hr4.cc
        have k2 := hr4.fz 301 (by omega)
        have e1 : wrap64 ((m2 : Int) + 1) = ((m2 + 1 : Nat) : Int) := by have := HL.out; unfold wrap64; omega
        clear hS0 hS1 hS2
        go_wp2
        go_end0
        refine ⟨rfl, ?_, hg4.trans (grown_set _ _ _ _)⟩
        rw [← HE.out]
        have hq : Rg (wb.setCell ⟨b, 301, none⟩ (.int .i64 ((m2 : Int) + 1))) b (fun j => if j = x2 then s else f2 j) o2 (m2 + 1) k now g := hr4.setC (m2 + 1)
        exact Rl.push (f := f2) ho2 (by rw [HM2.out]; exact HL.out) (by rw [HM2.out]; exact HF2.out) (by rw [HM2.out, HX2.out]; exact hq)
set_option maxHeartbeats 2000000 in
theorem adder_L (b : Nat) (l : List Smp) (k now : Int) (g : Bool) (s : Smp) (w : World) (h : Rl w b l k now g) (hd : l.Pairwise (fun a b => kg false b < kg false a)) (hr : ∀ x ∈ l, R64 x.2.2) (hs : R64 s.2.2) (hlen : l.length < 100) :
    Calls Try.prog 25 #[.agg #[.pointer (some ⟨b, 0, none⟩)], sv s] w fun e w' => e = .returned (.tuple #[]) ∧ Rl w' b (kp (kg false) s l ++ [s]) k now g ∧ w.grownBy w' (some b) := by
  have hmf : ∀ (fn : Fn) (first cap : Array Value) (w : World), (Instr.makeFunc fn first cap).run Try.prog w = .ok (.func fn first cap) w := fun _ _ _ _ => rfl
  have hb1 := bal (Below.refl _ w) (.cells #[.pointer (some ⟨b, 0, none⟩)] 62)
  have hb2 := bal hb1 (.cells #[.int .i64 s.1, .bool s.2.1, .int .i64 s.2.2] 32)
  have hp : (((w.alloc (.cells #[.pointer (some ⟨b, 0, none⟩)] 62)).alloc (.cells #[.int .i64 s.1, .bool s.2.1, .int .i64 s.2.2] 32)).cell? ⟨w.heap.size, 0, none⟩) = some (.pointer (some ⟨b, 0, none⟩)) := by
    rw [World.cell?_alloc_past _ _ _ (by simp), World.cell?_alloc_new]; rfl
  have hx := BoxS.new (w.alloc (.cells #[.pointer (some ⟨b, 0, none⟩)] 62)) s
  have e0 : (w.alloc (.cells #[.pointer (some ⟨b, 0, none⟩)] 62)).heap.size = w.heap.size + 1 := by simp
  rw [e0] at hx
  have h2 := h.later hb2
  have hne : w.heap.size + 1 ≠ b := by have := h.lt; omega
  have hpt := put_L b (w.heap.size + 1) l k now g s _ h2 hd hr hs hlen hx hne
  obtain ⟨c0, c1, c2, _, _, _⟩ := id hx
  clear hd hr hlen h h2
  go_enter Try.func25, Try.ntmps25
  go_wp2_with fail
  refine hpt.mono ?_
  rintro e w1 ⟨rfl, h3, hg⟩
  go_wp2
  go_end0
  exact ⟨rfl, h3, (grown_below hb2 _).trans hg⟩
end Go.Proofs.Ytpemknkkignmcaa
