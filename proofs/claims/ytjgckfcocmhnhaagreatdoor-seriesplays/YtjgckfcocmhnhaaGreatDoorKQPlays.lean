/- Texts that the others lean on. -/
import Derived.Test.YtjgckfcocmhnhaaGreatDoorKQ3
import Derived.Test.YtjgckfcocmhnhaaGreatDoorKQ4
import Derived.Test.YtjgckfcocmhnhaaGreatDoorKQ5
namespace Go.Proofs.YtjgckfcocmhnhaaGreatDoor.Sp
open Go.RowKit
/-- A step in a block of its own. -/
def Bp (w : World) (x : Nat) (s : Stp) : Prop := w.cell? ⟨x, 0, none⟩ = some (.bool s.tm) ∧ w.cell? ⟨x, 1, none⟩ = some (.slice s.qa s.qn s.qc) ∧ w.cell? ⟨x, 2, none⟩ = some (.int .i64 s.x.1) ∧ w.cell? ⟨x, 3, none⟩ = some (.bool s.x.2.1) ∧ w.cell? ⟨x, 4, none⟩ = some (.int .i64 s.x.2.2)
theorem Bp.of {w w' : World} {x : Nat} {s : Stp} (h : Bp w x s) (e : w'.heap[x]? = w.heap[x]?) : Bp w' x s := by
 obtain ⟨h0, h1, h2, h3, h4⟩ := h
 exact ⟨(World.cell?_of_block (a := ⟨x, 0, none⟩) e).trans h0, (World.cell?_of_block (a := ⟨x, 1, none⟩) e).trans h1, (World.cell?_of_block (a := ⟨x, 2, none⟩) e).trans h2, (World.cell?_of_block (a := ⟨x, 3, none⟩) e).trans h3, (World.cell?_of_block (a := ⟨x, 4, none⟩) e).trans h4⟩
theorem Bp.new (w : World) (s : Stp) : Bp (w.alloc (.cells #[.bool s.tm, .slice s.qa s.qn s.qc, .int .i64 s.x.1, .bool s.x.2.1, .int .i64 s.x.2.2] 37)) w.heap.size s := by
 refine ⟨?_, ?_, ?_, ?_, ?_⟩ <;> simp [go_sem]
set_option maxHeartbeats 16000000 in
set_option maxRecDepth 100000 in
theorem plays_any (ao : Option Addr) (len cap : Nat) (f : Nat → Stp) (mo : Option Addr) (mn mc : Nat) (m : List Lb.Mat) (d : Int) (w : World) (hs : Sts w ao len f) (hm : Lb.Ms w mo mn m) (hg : Lb.FitM m) :
  Calls Tryz.prog 3 #[.slice ao len cap, .slice mo mn mc, .int .i64 d] w fun e w' => e = .returned (.bool true) ∧ Below w.heap.size w w' := by
 have HS : Hid (Sts w ao len f) := hs
 have HM : Hid (Lb.Ms w mo mn m) := hm
 have HG : Hid (Lb.FitM m) := hg
 clear hs hm hg
 go_enter Tryz.func3, Tryz.ntmps3
 go_wp2_with fail
 refine (Sr.known_any _).mono ?_
 rintro e w1 ⟨rfl, hb1⟩
 by_cases h80 : 80 < len
 ·
  have hd : decide (80 < (len : Int)) = true := decide_eq_true (by omega)
  go_wp2
  all_goals
   go_ret
   exact ⟨rfl, hb1⟩
 have hd80 : decide (80 < (len : Int)) = false := decide_eq_false (by omega)
 by_cases h6 : 6 < mn
 ·
  have hd : decide (6 < (mn : Int)) = true := decide_eq_true (by omega)
  go_wp2
  all_goals
   go_ret
   exact ⟨rfl, hb1⟩
 have hd6 : decide (6 < (mn : Int)) = false := decide_eq_false (by omega)
 go_wp2_with fail
 refine (Sr.new_so w1).mono ?_
 rintro e w2 ⟨rfl, hso, hb2⟩
 have hj0 := jj_new hso (Below.chain hb1 hb2) hb1.size
 go_upto_region 6 with fail
 have HJ0 : Hid (JJ w (w2.alloc (.cells #[.int .i64 0, .slice none 0 0] 30)) w1.heap.size 0 (vw 0 []) w2.heap.size 0 []) := hj0
 clear hj0 hso hb1 hb2 hd80 hd6
 generalize w1.heap.size = sb at *
 generalize w2.heap.size = hb at *
 generalize w2.alloc (.cells #[.int .i64 0, .slice none 0 0] 30) = w3 at *
 go_wp2
 go_loopw [9] (fun x wr => ∃ (i : Nat) (now : Int) (H : HL), i ≤ len ∧ x = .int .i64 i ∧ Hid (JJ w wr sb now (vw now H) hb now H) ∧ Hid (PH now H) ∧ Hid (FitH i H) ∧ Hid (∀ j, j < i → (f j).qn ≤ 12)) (fun x _ => len - (intOf x).toNat)
 case atStart => exact ⟨0, 0, [], by omega, rfl, HJ0.out, PH.nil 0, ⟨Nat.le_refl _, by simp⟩, fun j hj => by omega⟩
 case round =>
  obtain ⟨i, now, H, hil, rfl, hJ, hP, hF, hQ⟩ := hrel
  clear HJ0
  by_cases hlt : i < len
  ·
   have hd : decide ((i : Int) < (len : Int)) = true := decide_eq_true (by omega)
   have hdn : decide ((len : Int) ≤ (i : Int)) = false := decide_eq_false (by omega)
   have hst := HS.out.later hJ.out.b
   obtain ⟨b, off, rfl, hc⟩ := hst.1 (by omega)
   obtain ⟨c0, c1, c2, c3, c4⟩ := hc i hlt
   obtain ⟨k0, k1, k2, k3⟩ := HS.out.2 i hlt
   obtain ⟨s, hsE⟩ : ∃ s, f i = s := ⟨_, rfl⟩
   rw [hsE] at c0 c1 c2 c3 c4 k0 k1 k2 k3
   have HSE : Hid (f i = s) := hsE
   clear hst hc hsE
   go_upto_region 10 with fail
   have hbx := Bp.new wr s
   have hjx := hJ.out.jx (.cells #[.bool s.tm, .slice s.qa s.qn s.qc, .int .i64 s.x.1, .bool s.x.2.1, .int .i64 s.x.2.2] 37)
   clear c0 c1 c2 c3 c4
   generalize wr.heap.size = xb at *
   generalize wr.alloc (.cells #[.bool s.tm, .slice s.qa s.qn s.qc, .int .i64 s.x.1, .bool s.x.2.1, .int .i64 s.x.2.2] 37) = w4 at *
   obtain ⟨tm, qa, qn, qc, q, t, xo, xn⟩ := s
   have HBX : Hid (Bp w4 xb ⟨tm, qa, qn, qc, q, (t, xo, xn)⟩) := hbx
   have HJX : Hid (JX w w4 sb now (vw now H) hb now H xb) := hjx
   obtain ⟨x0, x1, x2, x3, x4⟩ := id hbx
   clear hbx hjx
   dsimp only at *
   by_cases h12 : 12 < qn
   ·
    have hd12 : decide (12 < (qn : Int)) = true := decide_eq_true (by omega)
    have hbf := HJX.out.jj.b
    go_wp2
    all_goals
     go_ret
     exact ⟨rfl, hbf⟩
   have hd12 : decide (12 < (qn : Int)) = false := decide_eq_false (by omega)
   have HQV : Hid (Sr.Pv w (.slice qa qn qc) q) := ⟨qa, qn, qc, rfl, by omega, k0⟩
   have HQN : Hid (∀ j, j < i + 1 → (f j).qn ≤ 12) := fun j hj => by
    by_cases e : j < i
    ·
     exact hQ.out j e
    ·
     obtain rfl : j = i := by omega
     rw [HSE.out]
     show qn ≤ 12
     omega
   have HK1 : Hid (Lb.Fit q) := k1
   have HK3 : Hid (R64 xn) := k3
   clear k0 k1 k2 k3
   go_upto_if 41 with fail
   go_cut [9] from 42 to 64 (fun v wx => v = .int .i64 i ∧ ∃ (now' : Int) (H' : HL), Hid (JX w wx sb now' (vw now' H') hb now' H' xb) ∧ Hid (PH now' H') ∧ Hid (FitH (i + 1) H') ∧ Hid (Bp wx xb ⟨tm, qa, qn, qc, q, (t, xo, xn)⟩))
   case first =>
    cases tm with
    | true =>
     go_wp2_with fail
     refine (step_sadv HJX.out hP.out t).mono ?_
     rintro e w5 ⟨rfl, hj5, hx5⟩
     have hb5 := HBX.out.of hx5
     obtain ⟨y0, y1, y2, y3, y4⟩ := id hb5
     clear x0 x1 x2 x3 x4
     dsimp only at *
     go_wp2_with fail
     refine (step_hadv hj5 t).mono ?_
     rintro e w6 ⟨rfl, hj6, hx6⟩
     have HB6 : Hid (Bp w6 xb ⟨true, qa, qn, qc, q, (t, xo, xn)⟩) := hb5.of hx6
     have HJ6 : Hid (JX w w6 sb (Rn.onw now t) (vw (Rn.onw now t) H) hb (Rn.onw now t) H xb) := hj6
     have HP6 : Hid (PH (Rn.onw now t) H) := hP.out.adv (onw_ge now t)
     clear hj5 hb5 hx5 hx6 hj6 y0 y1 y2 y3 y4
     go_wp2_with fail
     go_meet
     case rel => exact ⟨rfl, _, H, HJ6.out, HP6.out, hF.out.next, HB6.out⟩
    | false =>
     obtain ⟨ev, hev⟩ : ∃ e, Hy.addE now H q t = e := ⟨_, rfl⟩
     obtain ⟨H', hH⟩ : ∃ H', Hy.addL now H q (t, xo, xn) = H' := ⟨_, rfl⟩
     have HEV : Hid (Hy.addE now H q t = ev) := hev
     have HHE : Hid (Hy.addL now H q (t, xo, xn) = H') := hH
     have HP' : Hid (PH now H') := by rw [← hH]; exact hP.out.add q (t, xo, xn) HK3.out
     have HF' : Hid (FitH (i + 1) H') := by rw [← hH]; exact hF.out.add now q (t, xo, xn)
     clear hev hH
     go_upto_region 15 with fail
     have hjd := HJX.out.later (Below.refl w4.heap.size w4).drew
     have hbd := HBX.out.of (w' := w4.drew) rfl
     have hS0 : (fun W : World => Bp W xb ⟨false, qa, qn, qc, q, (t, xo, xn)⟩) _ := hbd
     refine wp_region_noPanic ?_
     refine wp_region_held_drew (S := fun W : World => Bp W xb ⟨false, qa, qn, qc, q, (t, xo, xn)⟩) (by kernel_rfl) hS0 (fun _ => ?_)
     refine take_at 0 (some 52) (.pointer (some ⟨sb, 0, none⟩)) rfl rfl (by kernel_rfl) (by kernel_rfl) (by kernel_rfl) (fun _ _ _ h => h) (by rfl) (fun W hSw => by clear hSw; go_simp) hS0 ?_
     simp only [Act.put, List.setIfInBounds_toArray, List.set_cons_zero, List.set_cons_succ]
     refine take_at 1 (some 53) (.pointer (some ⟨xb, 1, none⟩)) rfl rfl (by kernel_rfl) (by kernel_rfl) (by kernel_rfl) (fun _ _ _ h => h) (by rfl) (fun W hSw => by clear hSw; go_simp) hS0 ?_
     simp only [Act.put, List.setIfInBounds_toArray, List.set_cons_zero, List.set_cons_succ]
     refine take_at 2 (some 54) (.slice qa qn qc) rfl rfl (by kernel_rfl) (by kernel_rfl) (by kernel_rfl) (fun _ _ _ h => h) (by rfl) (fun W hSw => by obtain ⟨q0, q1, q2, q3, q4⟩ := hSw; dsimp only at *; go_simp) hS0 ?_
     simp only [Act.put, List.setIfInBounds_toArray, List.set_cons_zero, List.set_cons_succ]
     refine take_at 3 (some 55) (.pointer (some ⟨xb, 2, none⟩)) rfl rfl (by kernel_rfl) (by kernel_rfl) (by kernel_rfl) (fun _ _ _ h => h) (by rfl) (fun W hSw => by clear hSw; go_simp) hS0 ?_
     simp only [Act.put, List.setIfInBounds_toArray, List.set_cons_zero, List.set_cons_succ]
     refine take_at 4 (some 56) (.agg #[.int .i64 t, .bool xo, .int .i64 xn]) rfl rfl (by kernel_rfl) (by kernel_rfl) (by kernel_rfl) (fun _ _ _ h => h) (by rfl) (fun W hSw => by obtain ⟨q0, q1, q2, q3, q4⟩ := hSw; dsimp only at *; go_simp) hS0 ?_
     simp only [Act.put, List.setIfInBounds_toArray, List.set_cons_zero, List.set_cons_succ]
     refine take_at 6 (some 58) (.pointer (some ⟨hb, 0, none⟩)) rfl rfl (by kernel_rfl) (by kernel_rfl) (by kernel_rfl) (fun _ _ _ h => h) (by rfl) (fun W hSw => by clear hSw; go_simp) hS0 ?_
     simp only [Act.put, List.setIfInBounds_toArray, List.set_cons_zero, List.set_cons_succ]
     refine take_at 7 (some 59) (.pointer (some ⟨xb, 1, none⟩)) rfl rfl (by kernel_rfl) (by kernel_rfl) (by kernel_rfl) (fun _ _ _ h => h) (by rfl) (fun W hSw => by clear hSw; go_simp) hS0 ?_
     simp only [Act.put, List.setIfInBounds_toArray, List.set_cons_zero, List.set_cons_succ]
     refine take_at 8 (some 60) (.slice qa qn qc) rfl rfl (by kernel_rfl) (by kernel_rfl) (by kernel_rfl) (fun _ _ _ h => h) (by rfl) (fun W hSw => by obtain ⟨q0, q1, q2, q3, q4⟩ := hSw; dsimp only at *; go_simp) hS0 ?_
     simp only [Act.put, List.setIfInBounds_toArray, List.set_cons_zero, List.set_cons_succ]
     refine take_at 9 (some 61) (.pointer (some ⟨xb, 2, none⟩)) rfl rfl (by kernel_rfl) (by kernel_rfl) (by kernel_rfl) (fun _ _ _ h => h) (by rfl) (fun W hSw => by clear hSw; go_simp) hS0 ?_
     simp only [Act.put, List.setIfInBounds_toArray, List.set_cons_zero, List.set_cons_succ]
     refine take_at 10 (some 62) (.agg #[.int .i64 t, .bool xo, .int .i64 xn]) rfl rfl (by kernel_rfl) (by kernel_rfl) (by kernel_rfl) (fun _ _ _ h => h) (by rfl) (fun W hSw => by obtain ⟨q0, q1, q2, q3, q4⟩ := hSw; dsimp only at *; go_simp) hS0 ?_
     simp only [Act.put, List.setIfInBounds_toArray, List.set_cons_zero, List.set_cons_succ]
     refine wpAnyH_ready (rs := [5]) (by kernel_rfl) (by simp) ?_
     refine AllReadyH.cons rfl (fun K hK => ?_) AllReadyH.nil
     go_simp
     refine (step_sadd hjd hP.out qa qn qc q HQV.out HK1.out t xo xn HK3.out HEV.out HHE.out).mono ?_
     rintro e w5 ⟨rfl, hj5, hx5⟩
     have hb5 := hbd.of hx5
     have hS1 := hb5
     refine hK.out _ _ hS1 (fun _ => ?_)
     clear hK K
     refine wpAnyH_ready (rs := [11]) (by kernel_rfl) (by simp) ?_
     refine AllReadyH.cons rfl (fun K hK => ?_) AllReadyH.nil
     go_simp
     refine (step_hadd hj5 hF.out (by omega) qa qn qc q HQV.out HK1.out t xo xn HK3.out HEV.out HHE.out).mono ?_
     rintro e w6 ⟨rfl, hj6, hx6⟩
     have hb6 := hb5.of hx6
     have hS2 := hb6
     refine hK.out _ _ hS2 (fun _ => ?_)
     clear hK K
     refine take_at 12 (some 64) (.bool false) rfl rfl (by kernel_rfl) (by kernel_rfl) (by kernel_rfl) (fun _ _ _ h => h) (by rfl) (fun W hSw => by clear hSw; go_simp) hS2 ?_
     simp only [Act.put, List.setIfInBounds_toArray, List.set_cons_zero, List.set_cons_succ]
     refine wpAnyH_done (by kernel_rfl) ?_ _
     refine NoPanic.normal ?_
     have HB6 : Hid (Bp w6 xb ⟨false, qa, qn, qc, q, (t, xo, xn)⟩) := hb6
     have HJ6 : Hid (JX w w6 sb now (vw now H') hb now H' xb) := hj6
     clear hS0 hS1 hS2 hb5 hb6 hj5 hj6 hx5 hx6 hjd hbd x0 x1 x2 x3 x4
     go_wp2_with fail
     go_meet
     case rel => exact ⟨rfl, now, H', HJ6.out, HP'.out, HF'.out, HB6.out⟩
   case rest =>
    obtain ⟨rfl, now', H', hJ', hP', hF', hB'⟩ := hcut
    obtain ⟨y0, y1, y2, y3, y4⟩ := id hB'.out
    clear x0 x1 x2 x3 x4
    dsimp only at *
    have hal := alike_any hJ'.out.jj hP'.out qa qn qc q (HQV.out.later hJ'.out.jj.b) mo mn mc m (by omega) (HM.out.later hJ'.out.jj.b) HG.out d
    go_wp2_with fail
    refine hal.mono ?_
    rintro e w7 ⟨rfl, hb7⟩
    have HJ7 : Hid (JJ w w7 sb now' (vw now' H') hb now' H') := hJ'.out.jj.later hb7
    clear hal hb7 y0 y1 y2 y3 y4
    go_wp2
    go_roundw
    case rel => exact ⟨i + 1, now', H', by omega, by go_num, HJ7.out, hP'.out, hF'.out, HQN.out⟩
    case measure => simp [intOf]; omega
  ·
   obtain rfl : i = len := by omega
   have hd : decide ((i : Int) < (i : Int)) = false := decide_eq_false (by omega)
   obtain ⟨F, hso⟩ := hJ.out.so
   go_wp2_with fail
   refine (copy_s2 sb now F _ wr hso (vw_nr hP.out)).mono ?_
   rintro e w4 ⟨cb, rfl, h4⟩
   clear hso
   go_wp2_with fail
   refine (Sr.s2_now h4).mono ?_
   rintro e w5 ⟨rfl, hb5⟩
   have h5 := h4.later hb5
   clear h4 hb5
   go_wp2_with fail
   refine (Sr.s2_adv h5 _).mono ?_
   rintro e w6 ⟨rfl, h6⟩
   clear h5
   generalize Rn.onw now _ = n6 at *
   generalize Sr.advL n6 _ = L6 at *
   have h7 := h6.with _ (Sr.set_one w6 [113] [114]) (bal (Below.refl _ _) _) (Sr.own_new _ 1 1)
   clear h6
   go_wp2_with fail
   refine (Sr.s2_now h7).mono ?_
   rintro e w8 ⟨rfl, hb8⟩
   have h8 := h7.later hb8
   clear h7 hb8
   have hfit : Lb.Fit [([113], [114])] := by
    intro p hp
    rw [List.mem_singleton.1 hp]
    exact ⟨by decide, by decide⟩
   go_wp2_with fail
   refine (Sr.s2_add h8 hfit (n6, false, 0) (Sr.r64_lit rfl)).mono ?_
   rintro e w9 ⟨rfl, h9⟩
   have HJ9 : Hid (JJ w w9 sb now (vw now H) hb now H) := hJ.out.later h9.b
   clear h8 h9 hfit
   go_wp2
   go_loopw [12] (fun x wq => ∃ j : Nat, j ≤ i ∧ x = .int .i64 j ∧ Hid (JJ w wq sb now (vw now H) hb now H)) (fun x _ => i - (intOf x).toNat)
   case atStart => exact ⟨0, by omega, rfl, HJ9.out⟩
   case round =>
    obtain ⟨j, hjl, rfl, hJq⟩ := hrel
    clear HJ9
    by_cases hlt2 : j < i
    ·
     have hd2 : decide ((j : Int) < (i : Int)) = true := decide_eq_true (by omega)
     have hdn : decide ((i : Int) ≤ (j : Int)) = false := decide_eq_false (by omega)
     have hst := HS.out.later hJq.out.b
     obtain ⟨b, off, rfl, hc⟩ := hst.1 (by omega)
     obtain ⟨-, c1, -, -, -⟩ := hc j hlt2
     obtain ⟨k0, -, -, -⟩ := hst.2 j hlt2
     have k2 := hQ.out j hlt2
     obtain ⟨s, hsE⟩ : ∃ s, f j = s := ⟨_, rfl⟩
     rw [hsE] at c1 k0 k2
     have hal := alike_any hJq.out hP.out s.qa s.qn s.qc s.q ⟨_, _, _, rfl, by omega, k0⟩ mo mn mc m (by omega) (HM.out.later hJq.out.b) HG.out d
     clear hst hc hsE k0
     go_wp2_with fail
     refine hal.mono ?_
     rintro e wz ⟨rfl, hbz⟩
     have HJZ : Hid (JJ w wz sb now (vw now H) hb now H) := hJq.out.later hbz
     clear hal hbz c1
     go_wp2
     go_roundw
     case rel => exact ⟨j + 1, by omega, by go_num, HJZ.out⟩
     case measure => simp [intOf]; omega
    ·
     obtain rfl : j = i := by omega
     have hd2 : decide ((j : Int) < (j : Int)) = false := decide_eq_false (by omega)
     have hbf := hJq.out.b
     go_wp2
     all_goals
      go_ret
      exact ⟨rfl, hbf⟩
end Go.Proofs.YtjgckfcocmhnhaaGreatDoor.Sp
