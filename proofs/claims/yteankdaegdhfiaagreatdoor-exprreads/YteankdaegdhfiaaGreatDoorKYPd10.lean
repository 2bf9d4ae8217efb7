/- Texts that the others lean on. -/
import Derived.Deep.Cut
import Derived.Test.YteankdaegdhfiaaGreatDoorKYPd9
namespace Go.Proofs.YteankdaegdhfiaaGreatDoor
open Go.RowKit
theorem rfld4 (x : Tk) (W : World) : (Instr.field 39 (tv x) 4).run Tryz.prog W = .ok (.int .i64 x.d) W := by kernel_rfl
theorem Sq.out {R : Rc} {w : World} {nb : Nat} {p : Int} {W W' : World} {an : Option Addr} {n cn : Nat} {r : Int} {acc : List Mt} {j : Nat} {dp fp fy : Int} {RES : Rs Ex} (h : Sq R w nb p W (.slice an n cn) (.slice an n cn) r acc j dp fp fy) (h15 : dp ≤ 15) (ho : SeO R p RES acc r j fp fy) (oe : Off [w.heap.size] W W') : RnOut R w.heap.size w dp RES (exA 2 p false 0 [] (.slice an n cn) r false false false false nl nl) W' := by
 have hb := h.bl
 have hl := h.l1
 have P := h.rd.off oe (by simp; omega)
 have O := h.off.trans oe (by simp)
 rcases ho with ⟨rfl, hj, rfl⟩ | ⟨hy, hj, rfl⟩
 ·
  exact ⟨j, fp, rfl, hj, P, Tr.leaf ((Sl.owns (h.own.kept oe (by simp; omega)) (cellsM_len _)).lower (by omega)) (Sl.nil _ _ _), O⟩
 ·
  exact ⟨j, ⟨rfl, rfl⟩, by omega, hy, P, O⟩
set_option maxHeartbeats 16000000 in
set_option maxRecDepth 20000 in
theorem rsel_any (R : Rc) (dp : Int) (h15 : dp ≤ 15) : RunR R 174 #[R.ptr] dp (selP R.q) := by
 intro w i fp hin h
 obtain ⟨i0, hi, hz0, hz1, hz2⟩ := info_parts75
 have hnb := h.nb
 have hbl := h.bl
 have HT : Hid (R.T.length = R.n) := h.ts.1
 obtain ⟨RES, HRES⟩ : ∃ RES, Hid (selP R.q (R.T.drop i) = RES) := ⟨_, rfl⟩
 rw [HRES.out]
 have hp0 := fun W (hW : Pd R W i dp fp 0) => peek0_any R hW
 have hlt : Hid ((hd R.q (R.T.drop i)).k = 1 → i < R.n) := fun e => phd_lt h (by rw [e]; decide)
 obtain ⟨x, hx⟩ : ∃ x, Hid (hd R.q (R.T.drop i) = x) := ⟨_, rfl⟩
 have HS : Hid (RES = bnd (brP R.q (selA R.q (R.T.drop i)) (selL R.q (R.T.drop i))) fun z => bnd (wnP R.q z.2) fun y => .inr (eSel x.p z.1 y.1, y.2)) := by
  show _ = _
  rw [← HRES.out, ← hx.out]
  rfl
 simp only [hx.out] at hp0
 rw [hx.out] at hlt
 have f0 := fld0 x
 have f1 := fld1 x
 have f2 := fld2 x
 clear HRES
 go_enter Tryz.func174, Tryz.ntmps174
 have a1 := bal (Below.refl w.heap.size w) (.cells zE 29)
 have zz := size_le w (.cells zE 29)
 have z1 := a1.size
 have rd1 := h.later a1
 have O1 := (Off.refl [R.b] w).on a1
 have res1 := heap_new w (.cells zE 29)
 clear h a1
 go_wp2_with fail
 refine (hp0 _ rd1).mono ?_
 rintro e w1 ⟨rfl, b1⟩
 have z2 := b1.size
 have rd2 := rd1.later b1
 have O2 := O1.on b1
 have res2 := below_heap b1 res1
 clear rd1 O1 res1 b1
 go_upto_region 2 with (refine wp_new (w := w1) rfl 29 _ _ rfl zE (exA 2 x.p false 0 [] nl 0 false false false false nl nl) rfl rfl 13 inf29 rfl ⟨rfl, rfl⟩ ?_; intro w2 l2 b2 s2)
 have Q2 : Sq R w w1.heap.size x.p w2 nl nl 0 [] i dp fp 0 := ⟨rd2.later b2, below_heap b2 res2, l2, OwnM.nil _ _, O2.on b2, hbl, by omega⟩
 have hl1 : w.heap.size < w1.heap.size := by omega
 clear rd2 O2 res2 l2 b2 s2 z1 z2 zz
 generalize w1.heap.size = nb at *
 go_wp2_with fail
 refine (hp0 _ Q2.rd).mono ?_
 rintro e w3 ⟨rfl, b3⟩
 have Q3 := Q2.later b3
 clear Q2 b3
 go_upto_if 12 with fail
 go_cut [] from 12 (fun W => ∃ v acc i1, Sq R w nb x.p W v v 0 acc i1 dp fp 0 ∧ Hid (acc = selA R.q (R.T.drop i) ∧ R.T.drop i1 = selL R.q (R.T.drop i)) ∧ i1 ≤ R.n ∧ acc.length ≤ i1)
 case first =>
  cases hk1 : x.k == 1 with
  | false =>
   have hk2 : ¬ x.k = 1 := by simpa using hk1
   go_wp2_with fail
   go_meet
   case rel => exact ⟨nl, [], i, Q3, ⟨by rw [selA, hx.out, if_neg hk2], by rw [selL, hx.out, if_neg hk2]⟩, hin, Nat.zero_le _⟩
  | true =>
   have hk2 : x.k = 1 := by simpa using hk1
   have hl := hlt.out hk2
   have HA : Hid (selA R.q (R.T.drop i) = [⟨nmL, 1, x.t⟩] ∧ R.T.drop (i + 1) = selL R.q (R.T.drop i)) := ⟨by rw [selA, hx.out, if_pos hk2], by rw [selL, hx.out, if_pos hk2, List.tail_drop]⟩
   clear hk2 hlt HS
   go_upto_region 3 with fail
   have Q4 := Q3.later (drew_below w3)
   clear Q3
   refine wp_region_noPanic ?_
   refine wp_region_held_drew (S := fun _ => True) (by kernel_rfl) ?_ (fun _ => ?_)
   ·
    exact True.intro
   generalize w3.drew = w4 at *
   refine tk 0 13 (.pointer (some ⟨nb, 5, none⟩)) rfl (fun W hSw => by go_simp) True.intro ?_
   simp only [Act.put, pB, pC, pD]
   refine tk 2 15 (R.ptr) rfl (fun W hSw => by go_simp) True.intro ?_
   simp only [Act.put, pB, pC, pD]
   refine wpAnyH_ready (rs := [1, 3]) (by kernel_rfl) (by simp) ?_
   refine AllReadyH.cons rfl (fun K hK => ?_) (AllReadyH.cons rfl (fun K hK => ?_) AllReadyH.nil)
   ·
    have k1 := (cell_at Q4.nd 5).trans rfl
    go_simp
    refine hK.out _ _ ?_ (fun _ => ?_)
    ·
     exact True.intro
    clear hK K
    clear k1
    refine wpAnyH_ready (rs := [3]) (by kernel_rfl) (by simp) ?_
    refine AllReadyH.cons rfl (fun K hK => ?_) AllReadyH.nil
    go_simp
    refine (hp0 _ Q4.rd).mono ?_
    rintro e w5 ⟨rfl, b5⟩
    have Q5 := Q4.later b5
    clear b5 Q4 hp0
    refine hK.out _ _ ?_ (fun _ => ?_)
    ·
     exact True.intro
    clear hK K
    refine tk 4 17 (tx x.t) rfl (fun W hSw => by go_simp) True.intro ?_
    simp only [Act.put, pB, pC, pD]
    refine tk 5 18 (.agg #[tx [95, 95, 110, 97, 109, 101, 95, 95], .int .i64 1, tx x.t]) rfl (fun W hSw => by go_simp) True.intro ?_
    simp only [Act.put, pB, pC, pD]
    refine wpAnyH_ready (rs := [6]) (by kernel_rfl) (by simp) ?_
    refine AllReadyH.cons rfl (fun K hK => ?_) AllReadyH.nil
    have n10 := heap_new w5 (.cells #[tx [95, 95, 110, 97, 109, 101, 95, 95], .int .i64 1, tx x.t] 87)
    have B10 := bal (Below.refl w5.heap.size w5) (.cells #[tx [95, 95, 110, 97, 109, 101, 95, 95], .int .i64 1, tx x.t] 87)
    have Q10 := Q5.later B10
    clear Q5 B10
    go_simp
    generalize w5.alloc (.cells #[tx [95, 95, 110, 97, 109, 101, 95, 95], .int .i64 1, tx x.t] 87) = w10 at *
    refine hK.out _ _ ?_ (fun _ => ?_)
    ·
     exact True.intro
    clear hK K
    refine wpAnyH_ready (rs := [7]) (by kernel_rfl) (by simp) ?_
    refine AllReadyH.cons rfl (fun K hK => ?_) AllReadyH.nil
    have hsz := lt_of_heap Q10.nd
    refine step_append _ _ (some 20) 25 rfl rfl (by rfl) (nb + 1) 87 i0 (.agg #[tx [], .int .i64 0, tx []]) 3 40 Tryz.underlying25 hi hz0 hz1 hz2 rfl (by decide) (.slice none 0 0) 0 [] rfl Q10.own ⟨w5.heap.size, 0, none⟩ 1 1 [tx [95, 95, 110, 97, 109, 101, 95, 95], .int .i64 1, tx x.t] rfl rfl ?hnews ?hone ?h63 ?hby ?hbs ?_
    case hnews =>
     intro j u hu
     rw [Addr.add_lit, Nat.zero_add, cell_at n10 j]
     simpa using hu
    case hone =>
     intro u hu
     simp only [List.mem_cons, List.not_mem_nil, or_false] at hu
     rcases hu with rfl | rfl | rfl <;> rfl
    case h63 => unfold maxLen; omega
    case hby => omega
    case hbs => omega
    intro v' w11 own11 hg11
    have om11 : OwnM w11 (nb + 1) v' [⟨nmL, 1, x.t⟩] := own11
    have Q11 := Q10.grown om11 hg11
    obtain ⟨ao, cap, rfl⟩ : ∃ ao cap, v' = .slice ao 1 cap := om11.sl
    clear own11 hg11 n10 Q10 hsz om11
    refine hK.out _ _ ?_ (fun _ => ?_)
    ·
     exact True.intro
    clear hK K
    refine tk 8 21 (.pointer (some ⟨nb, 5, none⟩)) rfl (fun W hSw => by go_simp) True.intro ?_
    simp only [Act.put, pB, pC, pD]
    refine wpAnyH_ready (rs := [9]) (by kernel_rfl) (by simp) ?_
    refine AllReadyH.cons rfl (fun K hK => ?_) AllReadyH.nil
    have k7 := (cell_at Q11.nd 5).trans rfl
    have g7 := frozen_at Q11.nd 5
    have Q12 := Q11.set5
    clear Q11
    go_simp
    generalize w11.setCell ⟨nb, 5, none⟩ (.slice ao 1 cap) = w12 at *
    clear k7 g7
    refine hK.out _ _ ?_ (fun _ => ?_)
    ·
     exact True.intro
    clear hK K
    refine wpAnyH_done (by kernel_rfl) ?_ _
    refine NoPanic.normal ?_
    have Q13 := Q12.next (i + 1) (by omega)
    have c1 := Q12.rd.c1
    have g1 := Q12.rd.fz 1
    have ec : ((i + 1 : Nat) : Int) = (i : Int) + 1 := by omega
    rw [ec] at Q13
    clear ec
    go_wp2_with fail
    clear c1 g1
    go_meet
    case rel => exact ⟨_, [⟨nmL, 1, x.t⟩], i + 1, Q13, ⟨HA.out.1.symm, HA.out.2⟩, by omega, by show 1 ≤ i + 1; omega⟩
   ·
    go_simp
    refine (hp0 _ Q4.rd).mono ?_
    rintro e w5 ⟨rfl, b5⟩
    have Q5 := Q4.later b5
    clear b5 Q4 hp0
    refine hK.out _ _ ?_ (fun _ => ?_)
    ·
     exact True.intro
    clear hK K
    refine tk 4 17 (tx x.t) rfl (fun W hSw => by go_simp) True.intro ?_
    simp only [Act.put, pB, pC, pD]
    refine tk 5 18 (.agg #[tx [95, 95, 110, 97, 109, 101, 95, 95], .int .i64 1, tx x.t]) rfl (fun W hSw => by go_simp) True.intro ?_
    simp only [Act.put, pB, pC, pD]
    refine wpAnyH_ready (rs := [1, 6]) (by kernel_rfl) (by simp) ?_
    refine AllReadyH.cons rfl (fun K hK => ?_) (AllReadyH.cons rfl (fun K hK => ?_) AllReadyH.nil)
    ·
     have k1 := (cell_at Q5.nd 5).trans rfl
     go_simp
     refine hK.out _ _ ?_ (fun _ => ?_)
     ·
      exact True.intro
     clear hK K
     clear k1
     refine wpAnyH_ready (rs := [6]) (by kernel_rfl) (by simp) ?_
     refine AllReadyH.cons rfl (fun K hK => ?_) AllReadyH.nil
     have n10 := heap_new w5 (.cells #[tx [95, 95, 110, 97, 109, 101, 95, 95], .int .i64 1, tx x.t] 87)
     have B10 := bal (Below.refl w5.heap.size w5) (.cells #[tx [95, 95, 110, 97, 109, 101, 95, 95], .int .i64 1, tx x.t] 87)
     have Q10 := Q5.later B10
     clear Q5 B10
     go_simp
     generalize w5.alloc (.cells #[tx [95, 95, 110, 97, 109, 101, 95, 95], .int .i64 1, tx x.t] 87) = w10 at *
     refine hK.out _ _ ?_ (fun _ => ?_)
     ·
      exact True.intro
     clear hK K
     refine wpAnyH_ready (rs := [7]) (by kernel_rfl) (by simp) ?_
     refine AllReadyH.cons rfl (fun K hK => ?_) AllReadyH.nil
     have hsz := lt_of_heap Q10.nd
     refine step_append _ _ (some 20) 25 rfl rfl (by rfl) (nb + 1) 87 i0 (.agg #[tx [], .int .i64 0, tx []]) 3 40 Tryz.underlying25 hi hz0 hz1 hz2 rfl (by decide) (.slice none 0 0) 0 [] rfl Q10.own ⟨w5.heap.size, 0, none⟩ 1 1 [tx [95, 95, 110, 97, 109, 101, 95, 95], .int .i64 1, tx x.t] rfl rfl ?hnews ?hone ?h63 ?hby ?hbs ?_
     case hnews =>
      intro j u hu
      rw [Addr.add_lit, Nat.zero_add, cell_at n10 j]
      simpa using hu
     case hone =>
      intro u hu
      simp only [List.mem_cons, List.not_mem_nil, or_false] at hu
      rcases hu with rfl | rfl | rfl <;> rfl
     case h63 => unfold maxLen; omega
     case hby => omega
     case hbs => omega
     intro v' w11 own11 hg11
     have om11 : OwnM w11 (nb + 1) v' [⟨nmL, 1, x.t⟩] := own11
     have Q11 := Q10.grown om11 hg11
     obtain ⟨ao, cap, rfl⟩ : ∃ ao cap, v' = .slice ao 1 cap := om11.sl
     clear own11 hg11 n10 Q10 hsz om11
     refine hK.out _ _ ?_ (fun _ => ?_)
     ·
      exact True.intro
     clear hK K
     refine tk 8 21 (.pointer (some ⟨nb, 5, none⟩)) rfl (fun W hSw => by go_simp) True.intro ?_
     simp only [Act.put, pB, pC, pD]
     refine wpAnyH_ready (rs := [9]) (by kernel_rfl) (by simp) ?_
     refine AllReadyH.cons rfl (fun K hK => ?_) AllReadyH.nil
     have k7 := (cell_at Q11.nd 5).trans rfl
     have g7 := frozen_at Q11.nd 5
     have Q12 := Q11.set5
     clear Q11
     go_simp
     generalize w11.setCell ⟨nb, 5, none⟩ (.slice ao 1 cap) = w12 at *
     clear k7 g7
     refine hK.out _ _ ?_ (fun _ => ?_)
     ·
      exact True.intro
     clear hK K
     refine wpAnyH_done (by kernel_rfl) ?_ _
     refine NoPanic.normal ?_
     have Q13 := Q12.next (i + 1) (by omega)
     have c1 := Q12.rd.c1
     have g1 := Q12.rd.fz 1
     have ec : ((i + 1 : Nat) : Int) = (i : Int) + 1 := by omega
     rw [ec] at Q13
     clear ec
     go_wp2_with fail
     clear c1 g1
     go_meet
     case rel => exact ⟨_, [⟨nmL, 1, x.t⟩], i + 1, Q13, ⟨HA.out.1.symm, HA.out.2⟩, by omega, by show 1 ≤ i + 1; omega⟩
    ·
     have n10 := heap_new w5 (.cells #[tx [95, 95, 110, 97, 109, 101, 95, 95], .int .i64 1, tx x.t] 87)
     have B10 := bal (Below.refl w5.heap.size w5) (.cells #[tx [95, 95, 110, 97, 109, 101, 95, 95], .int .i64 1, tx x.t] 87)
     have Q10 := Q5.later B10
     clear Q5 B10
     go_simp
     generalize w5.alloc (.cells #[tx [95, 95, 110, 97, 109, 101, 95, 95], .int .i64 1, tx x.t] 87) = w10 at *
     refine hK.out _ _ ?_ (fun _ => ?_)
     ·
      exact True.intro
     clear hK K
     refine wpAnyH_ready (rs := [1]) (by kernel_rfl) (by simp) ?_
     refine AllReadyH.cons rfl (fun K hK => ?_) AllReadyH.nil
     have k1 := (cell_at Q10.nd 5).trans rfl
     go_simp
     refine hK.out _ _ ?_ (fun _ => ?_)
     ·
      exact True.intro
     clear hK K
     clear k1
     refine wpAnyH_ready (rs := [7]) (by kernel_rfl) (by simp) ?_
     refine AllReadyH.cons rfl (fun K hK => ?_) AllReadyH.nil
     have hsz := lt_of_heap Q10.nd
     refine step_append _ _ (some 20) 25 rfl rfl (by rfl) (nb + 1) 87 i0 (.agg #[tx [], .int .i64 0, tx []]) 3 40 Tryz.underlying25 hi hz0 hz1 hz2 rfl (by decide) (.slice none 0 0) 0 [] rfl Q10.own ⟨w5.heap.size, 0, none⟩ 1 1 [tx [95, 95, 110, 97, 109, 101, 95, 95], .int .i64 1, tx x.t] rfl rfl ?hnews ?hone ?h63 ?hby ?hbs ?_
     case hnews =>
      intro j u hu
      rw [Addr.add_lit, Nat.zero_add, cell_at n10 j]
      simpa using hu
     case hone =>
      intro u hu
      simp only [List.mem_cons, List.not_mem_nil, or_false] at hu
      rcases hu with rfl | rfl | rfl <;> rfl
     case h63 => unfold maxLen; omega
     case hby => omega
     case hbs => omega
     intro v' w11 own11 hg11
     have om11 : OwnM w11 (nb + 1) v' [⟨nmL, 1, x.t⟩] := own11
     have Q11 := Q10.grown om11 hg11
     obtain ⟨ao, cap, rfl⟩ : ∃ ao cap, v' = .slice ao 1 cap := om11.sl
     clear own11 hg11 n10 Q10 hsz om11
     refine hK.out _ _ ?_ (fun _ => ?_)
     ·
      exact True.intro
     clear hK K
     refine tk 8 21 (.pointer (some ⟨nb, 5, none⟩)) rfl (fun W hSw => by go_simp) True.intro ?_
     simp only [Act.put, pB, pC, pD]
     refine wpAnyH_ready (rs := [9]) (by kernel_rfl) (by simp) ?_
     refine AllReadyH.cons rfl (fun K hK => ?_) AllReadyH.nil
     have k7 := (cell_at Q11.nd 5).trans rfl
     have g7 := frozen_at Q11.nd 5
     have Q12 := Q11.set5
     clear Q11
     go_simp
     generalize w11.setCell ⟨nb, 5, none⟩ (.slice ao 1 cap) = w12 at *
     clear k7 g7
     refine hK.out _ _ ?_ (fun _ => ?_)
     ·
      exact True.intro
     clear hK K
     refine wpAnyH_done (by kernel_rfl) ?_ _
     refine NoPanic.normal ?_
     have Q13 := Q12.next (i + 1) (by omega)
     have c1 := Q12.rd.c1
     have g1 := Q12.rd.fz 1
     have ec : ((i + 1 : Nat) : Int) = (i : Int) + 1 := by omega
     rw [ec] at Q13
     clear ec
     go_wp2_with fail
     clear c1 g1
     go_meet
     case rel => exact ⟨_, [⟨nmL, 1, x.t⟩], i + 1, Q13, ⟨HA.out.1.symm, HA.out.2⟩, by omega, by show 1 ≤ i + 1; omega⟩
 case rest =>
  clear Q3 hp0 f0 f1 f2
  obtain ⟨v, acc, i1, Q4, HA, hi1, hn1⟩ := hcut
  clear hlt hin
  have hs5 := rsign_any R [123] Q4.rd
  obtain ⟨BR, HB⟩ : ∃ BR, Hid (brP R.q (selA R.q (R.T.drop i)) (selL R.q (R.T.drop i)) = BR) := ⟨_, rfl⟩
  have HB2 : Hid (BR = brP R.q acc (R.T.drop i1)) := by
   show _ = _
   rw [← HB.out, HA.out.1, HA.out.2]
  rw [HB.out] at HS
  clear HA HB
  go_wp2_with fail
  refine hs5.mono ?_
  rintro e w5 ⟨rfl, b5⟩
  have Q5 := Q4.later b5
  clear b5 hs5 Q4
  go_upto_if 30 with fail
  go_cut [4] from 30 (fun s4 W => ∃ v acc j fp' fy', Sq R w nb x.p W v v 0 acc j dp fp' fy' ∧ Hid (BrO R BR acc j fp' fy'))
  case first =>
   cases hsb : sg (hd R.q (R.T.drop i1)) [123] with
   | false =>
    go_wp2_with fail
    go_meet
    case rel => exact ⟨v, acc, i1, fp, 0, Q5, Or.inl ⟨rfl, hi1, by rw [HB2.out, brP, if_neg (by rw [hsb]; decide)]⟩⟩
   | true =>
    have hl := psg_lt Q5.rd hsb
    have S0 : Hid (MtSt R BR true acc (i1 + 1) fp 0) := by
     refine Or.inl ⟨rfl, by omega, (R.T.drop i1).length + 1, ?_, ?_⟩
     ·
      rw [List.length_drop, HT.out]; omega
     ·
      rw [HB2.out, brP, if_pos hsb, List.tail_drop]
    have Q6 := Q5.next (i1 + 1) (by omega)
    have c1 := Q5.rd.c1
    have g1 := Q5.rd.fz 1
    have ec : ((i1 + 1 : Nat) : Int) = (i1 : Int) + 1 := by omega
    rw [ec] at Q6
    clear hsb HB2 HS ec
    go_wp2_with fail
    generalize w5.setCell ⟨R.b, 1, none⟩ (.int .i64 ((i1 : Int) + 1)) = w6 at *
    clear c1 g1 Q5
    go_loopw [4] (fun t wr => ∃ (first : Bool) (v : Value) (acc : List Mt) (i : Nat) (fp' fy : Int), t = .bool first ∧ Sq R w nb x.p wr v v 0 acc i dp fp' fy ∧ acc.length ≤ i ∧ Hid (MtSt R BR first acc i fp' fy)) (fun _ wr => mesN R wr)
    case atStart => exact ⟨true, v, acc, i1 + 1, fp, 0, rfl, Q6, by omega, S0⟩
    case round =>
     clear Q6 S0 hi1 hn1 hl
     obtain ⟨first, v, acc, i, fp, fy, rfl, Q, hni, S⟩ := hrel
     obtain ⟨an, cn, rfl⟩ := Q.own.sl
     rcases S.out with ⟨rfl, hin, kf0, hkf, HR0⟩ | ⟨hy, hin, HR0⟩
     ·
      have HR : Hid _ := HR0
      clear HR0 S
      obtain ⟨kf, rfl⟩ : ∃ kf, kf0 = kf + 1 := ⟨kf0 - 1, by omega⟩
      have hg := rsign_any R [125] Q.rd
      have c3 := Q.rd.c3
      cases hc : sg (hd R.q (R.T.drop i)) [125] with
      | true =>
       have HX : Hid (BR = if fewM acc = true then .inr (acc, R.T.drop (i + 1)) else .inl (bad R.q (R.T.drop i) 32)) := by
        show _ = _
        rw [HR.out, lsF, if_pos hc, List.tail_drop]
       have hl := psg_lt Q.rd hc
       have hts := fun W (hW : Pd R W i dp fp 0) => rtake_yes R [125] hc hW (by omega)
       have hfl := fun W (hW : Pd R W i dp fp 0) => fail_new R 32 hW
       rw [hc] at hg
       clear HR hc
       by_cases h8 : acc.length ≤ 8
       ·
        have h8' : ¬ (8 : Int) < acc.length := by omega
        rw [fewM, decide_eq_true h8, if_pos rfl] at HX
        clear hfl h8
        go_wp2_with fail
        refine hg.mono ?_
        rintro e w7 ⟨rfl, b7⟩
        have Q7 := Q.later b7
        have d3 := Q7.rd.c3
        have d5 := (cell_at Q7.nd 5).trans rfl
        clear c3 hg b7 Q
        go_wp2_with fail
        refine (hts _ Q7.rd).mono ?_
        rintro e w8 ⟨rfl, P8, o8⟩
        have Q8 := Q7.read P8 o8
        clear d3 d5 Q7 hts o8 P8
        go_wp2_with fail
        go_meet
        case rel => exact ⟨_, acc, i + 1, fp, 0, Q8, Or.inl ⟨rfl, by omega, HX.out⟩⟩
       ·
        have h8' : (8 : Int) < acc.length := by omega
        rw [fewM, decide_eq_false h8, if_neg (by decide)] at HX
        clear hts h8
        go_wp2_with fail
        refine hg.mono ?_
        rintro e w7 ⟨rfl, b7⟩
        have Q7 := Q.later b7
        have d3 := Q7.rd.c3
        have d5 := (cell_at Q7.nd 5).trans rfl
        clear c3 hg b7 Q
        go_wp2_with fail
        refine (hfl _ Q7.rd).mono ?_
        rintro e w8 ⟨rfl, P8, o8⟩
        have Q8 := Q7.read P8 o8
        have hto := rtake_old R [125] (by decide) P8 (by omega)
        clear d3 d5 Q7 hfl o8 P8
        go_wp2_with fail
        refine hto.mono ?_
        rintro e w9 ⟨rfl, P9, o9⟩
        have Q9 := Q8.read P9 o9
        clear hto P9 o9 Q8
        go_wp2_with fail
        go_meet
        case rel => exact ⟨_, acc, i + 1, _, 32, Q9, Or.inr ⟨by decide, by omega, HX.out⟩⟩
      | false =>
       have HC : Hid (sg (hd R.q (R.T.drop i)) [125] = false) := hc
       rw [hc] at hg
       clear hc
       cases first with
       | true =>
        have hm := fun W fp1 fy1 (hW : Pd R W i dp fp1 fy1) => rmatcher_any R (by omega) hW
        go_wp2_with fail
        refine hg.mono ?_
        rintro e w7 ⟨rfl, b7⟩
        have Q7 := Q.later b7
        clear c3 hg b7
        go_upto_region 12 with fail
        have Q8 := Q7.later (drew_below w7)
        clear Q7
        refine wp_region_noPanic ?_
        refine wp_region_held_drew (S := fun _ => True) (by kernel_rfl) ?_ (fun _ => ?_)
        ·
         exact True.intro
        generalize w7.drew = w8 at *
        refine tk 0 52 (.pointer (some ⟨nb, 5, none⟩)) rfl (fun W hSw => by go_simp) True.intro ?_
        simp only [Act.put, pB, pC, pD]
        refine tk 2 54 (R.ptr) rfl (fun W hSw => by go_simp) True.intro ?_
        simp only [Act.put, pB, pC, pD]
        refine wpAnyH_ready (rs := [1, 3]) (by kernel_rfl) (by simp) ?_
        refine AllReadyH.cons rfl (fun K hK => ?_) (AllReadyH.cons rfl (fun K hK => ?_) AllReadyH.nil)
        ·
         have k1 := (cell_at Q8.nd 5).trans rfl
         go_simp
         refine hK.out _ _ ?_ (fun _ => ?_)
         ·
          exact True.intro
         clear hK K
         clear k1
         refine wpAnyH_ready (rs := [3]) (by kernel_rfl) (by simp) ?_
         refine AllReadyH.cons rfl (fun K hK => ?_) AllReadyH.nil
         go_simp
         refine (hm _ fp 0 Q8.rd).mono ?_
         rintro e w9 ⟨y, fp2, fy2, rfl, P9, o9, HM⟩
         have Q9 := Q8.read P9 o9
         clear P9 o9 Q8 hm
         refine hK.out _ _ ?_ (fun _ => ?_)
         ·
          exact True.intro
         clear hK K
         refine wpAnyH_ready (rs := [4]) (by kernel_rfl) (by simp) ?_
         refine AllReadyH.cons rfl (fun K hK => ?_) AllReadyH.nil
         have n10 := heap_new w9 (.cells #[tx y.name, .int .i64 y.kind, tx y.text] 87)
         have B10 := bal (Below.refl w9.heap.size w9) (.cells #[tx y.name, .int .i64 y.kind, tx y.text] 87)
         have Q10 := Q9.later B10
         clear Q9 B10
         go_simp
         generalize w9.alloc (.cells #[tx y.name, .int .i64 y.kind, tx y.text] 87) = w10 at *
         refine hK.out _ _ ?_ (fun _ => ?_)
         ·
          exact True.intro
         clear hK K
         refine wpAnyH_ready (rs := [5]) (by kernel_rfl) (by simp) ?_
         refine AllReadyH.cons rfl (fun K hK => ?_) AllReadyH.nil
         have hsz := lt_of_heap Q10.nd
         refine step_append _ _ (some 57) 25 rfl rfl (by rfl) (nb + 1) 87 i0 (.agg #[tx [], .int .i64 0, tx []]) 3 40 Tryz.underlying25 hi hz0 hz1 hz2 rfl (by decide) (.slice an acc.length cn) acc.length (cellsM acc) rfl Q10.own ⟨w9.heap.size, 0, none⟩ 1 1 [tx y.name, .int .i64 y.kind, tx y.text] rfl rfl ?hnews ?hone ?h63 ?hby ?hbs ?_
         case hnews =>
          intro j u hu
          rw [Addr.add_lit, Nat.zero_add, cell_at n10 j]
          simpa using hu
         case hone =>
          intro u hu
          simp only [List.mem_cons, List.not_mem_nil, or_false] at hu
          rcases hu with rfl | rfl | rfl <;> rfl
         case h63 => unfold maxLen; omega
         case hby => omega
         case hbs => omega
         intro v' w11 own11 hg11
         have Q11 := Q10.grown (OwnM.snoc own11) hg11
         obtain ⟨ao, cap, rfl⟩ : ∃ ao cap, v' = .slice ao (acc.length + 1) cap := by obtain ⟨ao, cap, e⟩ := Q11.own.sl; exact ⟨ao, cap, by rw [e, List.length_append]; rfl⟩
         clear own11 hg11 n10 Q10 hsz
         refine hK.out _ _ ?_ (fun _ => ?_)
         ·
          exact True.intro
         clear hK K
         refine tk 6 58 (.pointer (some ⟨nb, 5, none⟩)) rfl (fun W hSw => by go_simp) True.intro ?_
         simp only [Act.put, pB, pC, pD]
         refine wpAnyH_ready (rs := [7]) (by kernel_rfl) (by simp) ?_
         refine AllReadyH.cons rfl (fun K hK => ?_) AllReadyH.nil
         have k7 := (cell_at Q11.nd 5).trans rfl
         have g7 := frozen_at Q11.nd 5
         have Q12 := Q11.set5
         clear Q11
         go_simp
         generalize w11.setCell ⟨nb, 5, none⟩ (.slice ao (acc.length + 1) cap) = w12 at *
         clear k7 g7
         refine hK.out _ _ ?_ (fun _ => ?_)
         ·
          exact True.intro
         clear hK K
         refine wpAnyH_done (by kernel_rfl) ?_ _
         refine NoPanic.normal ?_
         go_wp2_with fail
         go_roundw
         case rel => exact ⟨false, _, acc ++ [y], i + 3, fp2, fy2, rfl, Q12, by rw [List.length_append]; simp only [List.length_singleton]; omega, mt_step R (fp := fp) (fp1 := fp) (fy1 := 0) hin hkf HR.out HC.out (Or.inl ⟨rfl, rfl, rfl, rfl⟩) HM.out⟩
         case measure => exact mes_lt Q.rd Q12.rd (by omega) hin
        ·
         go_simp
         refine (hm _ fp 0 Q8.rd).mono ?_
         rintro e w9 ⟨y, fp2, fy2, rfl, P9, o9, HM⟩
         have Q9 := Q8.read P9 o9
         clear P9 o9 Q8 hm
         refine hK.out _ _ ?_ (fun _ => ?_)
         ·
          exact True.intro
         clear hK K
         refine wpAnyH_ready (rs := [1, 4]) (by kernel_rfl) (by simp) ?_
         refine AllReadyH.cons rfl (fun K hK => ?_) (AllReadyH.cons rfl (fun K hK => ?_) AllReadyH.nil)
         ·
          have k1 := (cell_at Q9.nd 5).trans rfl
          go_simp
          refine hK.out _ _ ?_ (fun _ => ?_)
          ·
           exact True.intro
          clear hK K
          clear k1
          refine wpAnyH_ready (rs := [4]) (by kernel_rfl) (by simp) ?_
          refine AllReadyH.cons rfl (fun K hK => ?_) AllReadyH.nil
          have n10 := heap_new w9 (.cells #[tx y.name, .int .i64 y.kind, tx y.text] 87)
          have B10 := bal (Below.refl w9.heap.size w9) (.cells #[tx y.name, .int .i64 y.kind, tx y.text] 87)
          have Q10 := Q9.later B10
          clear Q9 B10
          go_simp
          generalize w9.alloc (.cells #[tx y.name, .int .i64 y.kind, tx y.text] 87) = w10 at *
          refine hK.out _ _ ?_ (fun _ => ?_)
          ·
           exact True.intro
          clear hK K
          refine wpAnyH_ready (rs := [5]) (by kernel_rfl) (by simp) ?_
          refine AllReadyH.cons rfl (fun K hK => ?_) AllReadyH.nil
          have hsz := lt_of_heap Q10.nd
          refine step_append _ _ (some 57) 25 rfl rfl (by rfl) (nb + 1) 87 i0 (.agg #[tx [], .int .i64 0, tx []]) 3 40 Tryz.underlying25 hi hz0 hz1 hz2 rfl (by decide) (.slice an acc.length cn) acc.length (cellsM acc) rfl Q10.own ⟨w9.heap.size, 0, none⟩ 1 1 [tx y.name, .int .i64 y.kind, tx y.text] rfl rfl ?hnews ?hone ?h63 ?hby ?hbs ?_
          case hnews =>
           intro j u hu
           rw [Addr.add_lit, Nat.zero_add, cell_at n10 j]
           simpa using hu
          case hone =>
           intro u hu
           simp only [List.mem_cons, List.not_mem_nil, or_false] at hu
           rcases hu with rfl | rfl | rfl <;> rfl
          case h63 => unfold maxLen; omega
          case hby => omega
          case hbs => omega
          intro v' w11 own11 hg11
          have Q11 := Q10.grown (OwnM.snoc own11) hg11
          obtain ⟨ao, cap, rfl⟩ : ∃ ao cap, v' = .slice ao (acc.length + 1) cap := by obtain ⟨ao, cap, e⟩ := Q11.own.sl; exact ⟨ao, cap, by rw [e, List.length_append]; rfl⟩
          clear own11 hg11 n10 Q10 hsz
          refine hK.out _ _ ?_ (fun _ => ?_)
          ·
           exact True.intro
          clear hK K
          refine tk 6 58 (.pointer (some ⟨nb, 5, none⟩)) rfl (fun W hSw => by go_simp) True.intro ?_
          simp only [Act.put, pB, pC, pD]
          refine wpAnyH_ready (rs := [7]) (by kernel_rfl) (by simp) ?_
          refine AllReadyH.cons rfl (fun K hK => ?_) AllReadyH.nil
          have k7 := (cell_at Q11.nd 5).trans rfl
          have g7 := frozen_at Q11.nd 5
          have Q12 := Q11.set5
          clear Q11
          go_simp
          generalize w11.setCell ⟨nb, 5, none⟩ (.slice ao (acc.length + 1) cap) = w12 at *
          clear k7 g7
          refine hK.out _ _ ?_ (fun _ => ?_)
          ·
           exact True.intro
          clear hK K
          refine wpAnyH_done (by kernel_rfl) ?_ _
          refine NoPanic.normal ?_
          go_wp2_with fail
          go_roundw
          case rel => exact ⟨false, _, acc ++ [y], i + 3, fp2, fy2, rfl, Q12, by rw [List.length_append]; simp only [List.length_singleton]; omega, mt_step R (fp := fp) (fp1 := fp) (fy1 := 0) hin hkf HR.out HC.out (Or.inl ⟨rfl, rfl, rfl, rfl⟩) HM.out⟩
          case measure => exact mes_lt Q.rd Q12.rd (by omega) hin
         ·
          have n10 := heap_new w9 (.cells #[tx y.name, .int .i64 y.kind, tx y.text] 87)
          have B10 := bal (Below.refl w9.heap.size w9) (.cells #[tx y.name, .int .i64 y.kind, tx y.text] 87)
          have Q10 := Q9.later B10
          clear Q9 B10
          go_simp
          generalize w9.alloc (.cells #[tx y.name, .int .i64 y.kind, tx y.text] 87) = w10 at *
          refine hK.out _ _ ?_ (fun _ => ?_)
          ·
           exact True.intro
          clear hK K
          refine wpAnyH_ready (rs := [1]) (by kernel_rfl) (by simp) ?_
          refine AllReadyH.cons rfl (fun K hK => ?_) AllReadyH.nil
          have k1 := (cell_at Q10.nd 5).trans rfl
          go_simp
          refine hK.out _ _ ?_ (fun _ => ?_)
          ·
           exact True.intro
          clear hK K
          clear k1
          refine wpAnyH_ready (rs := [5]) (by kernel_rfl) (by simp) ?_
          refine AllReadyH.cons rfl (fun K hK => ?_) AllReadyH.nil
          have hsz := lt_of_heap Q10.nd
          refine step_append _ _ (some 57) 25 rfl rfl (by rfl) (nb + 1) 87 i0 (.agg #[tx [], .int .i64 0, tx []]) 3 40 Tryz.underlying25 hi hz0 hz1 hz2 rfl (by decide) (.slice an acc.length cn) acc.length (cellsM acc) rfl Q10.own ⟨w9.heap.size, 0, none⟩ 1 1 [tx y.name, .int .i64 y.kind, tx y.text] rfl rfl ?hnews ?hone ?h63 ?hby ?hbs ?_
          case hnews =>
           intro j u hu
           rw [Addr.add_lit, Nat.zero_add, cell_at n10 j]
           simpa using hu
          case hone =>
           intro u hu
           simp only [List.mem_cons, List.not_mem_nil, or_false] at hu
           rcases hu with rfl | rfl | rfl <;> rfl
          case h63 => unfold maxLen; omega
          case hby => omega
          case hbs => omega
          intro v' w11 own11 hg11
          have Q11 := Q10.grown (OwnM.snoc own11) hg11
          obtain ⟨ao, cap, rfl⟩ : ∃ ao cap, v' = .slice ao (acc.length + 1) cap := by obtain ⟨ao, cap, e⟩ := Q11.own.sl; exact ⟨ao, cap, by rw [e, List.length_append]; rfl⟩
          clear own11 hg11 n10 Q10 hsz
          refine hK.out _ _ ?_ (fun _ => ?_)
          ·
           exact True.intro
          clear hK K
          refine tk 6 58 (.pointer (some ⟨nb, 5, none⟩)) rfl (fun W hSw => by go_simp) True.intro ?_
          simp only [Act.put, pB, pC, pD]
          refine wpAnyH_ready (rs := [7]) (by kernel_rfl) (by simp) ?_
          refine AllReadyH.cons rfl (fun K hK => ?_) AllReadyH.nil
          have k7 := (cell_at Q11.nd 5).trans rfl
          have g7 := frozen_at Q11.nd 5
          have Q12 := Q11.set5
          clear Q11
          go_simp
          generalize w11.setCell ⟨nb, 5, none⟩ (.slice ao (acc.length + 1) cap) = w12 at *
          clear k7 g7
          refine hK.out _ _ ?_ (fun _ => ?_)
          ·
           exact True.intro
          clear hK K
          refine wpAnyH_done (by kernel_rfl) ?_ _
          refine NoPanic.normal ?_
          go_wp2_with fail
          go_roundw
          case rel => exact ⟨false, _, acc ++ [y], i + 3, fp2, fy2, rfl, Q12, by rw [List.length_append]; simp only [List.length_singleton]; omega, mt_step R (fp := fp) (fp1 := fp) (fy1 := 0) hin hkf HR.out HC.out (Or.inl ⟨rfl, rfl, rfl, rfl⟩) HM.out⟩
          case measure => exact mes_lt Q.rd Q12.rd (by omega) hin
       | false =>
        have hm := fun W fp1 fy1 (hW : Pd R W (i + 1) dp fp1 fy1) => rmatcher_any R (by omega) hW
        have htk := fun W (hW : Pd R W i dp fp 0) => rtake_any R [44] hW (by omega)
        go_wp2_with fail
        refine hg.mono ?_
        rintro e w6 ⟨rfl, b6⟩
        have Q6 := Q.later b6
        clear c3 hg b6
        go_wp2_with fail
        refine (htk _ Q6.rd).mono ?_
        rintro e w7 ⟨rfl, fp1, fy1, P7, o7, HT7⟩
        have Q7 := Q6.read P7 o7
        have HT8 : Hid (sg (hd R.q (R.T.drop i)) [44] = true ∧ fp1 = fp ∧ fy1 = 0 ∨ sg (hd R.q (R.T.drop i)) [44] = false ∧ fp1 = (hd R.q (R.T.drop i)).p ∧ fy1 = 71) := by
         rcases HT7.out with ⟨h, _⟩ | ⟨_, h⟩
         ·
          exact absurd rfl h
         ·
          exact h
        clear HT7
        clear htk o7 P7 Q6
        go_upto_region 12 with fail
        have Q8 := Q7.later (drew_below w7)
        clear Q7
        refine wp_region_noPanic ?_
        refine wp_region_held_drew (S := fun _ => True) (by kernel_rfl) ?_ (fun _ => ?_)
        ·
         exact True.intro
        generalize w7.drew = w8 at *
        refine tk 0 52 (.pointer (some ⟨nb, 5, none⟩)) rfl (fun W hSw => by go_simp) True.intro ?_
        simp only [Act.put, pB, pC, pD]
        refine tk 2 54 (R.ptr) rfl (fun W hSw => by go_simp) True.intro ?_
        simp only [Act.put, pB, pC, pD]
        refine wpAnyH_ready (rs := [1, 3]) (by kernel_rfl) (by simp) ?_
        refine AllReadyH.cons rfl (fun K hK => ?_) (AllReadyH.cons rfl (fun K hK => ?_) AllReadyH.nil)
        ·
         have k1 := (cell_at Q8.nd 5).trans rfl
         go_simp
         refine hK.out _ _ ?_ (fun _ => ?_)
         ·
          exact True.intro
         clear hK K
         clear k1
         refine wpAnyH_ready (rs := [3]) (by kernel_rfl) (by simp) ?_
         refine AllReadyH.cons rfl (fun K hK => ?_) AllReadyH.nil
         go_simp
         refine (hm _ fp1 fy1 Q8.rd).mono ?_
         rintro e w9 ⟨y, fp2, fy2, rfl, P9, o9, HM⟩
         have Q9 := Q8.read P9 o9
         clear P9 o9 Q8 hm
         refine hK.out _ _ ?_ (fun _ => ?_)
         ·
          exact True.intro
         clear hK K
         refine wpAnyH_ready (rs := [4]) (by kernel_rfl) (by simp) ?_
         refine AllReadyH.cons rfl (fun K hK => ?_) AllReadyH.nil
         have n10 := heap_new w9 (.cells #[tx y.name, .int .i64 y.kind, tx y.text] 87)
         have B10 := bal (Below.refl w9.heap.size w9) (.cells #[tx y.name, .int .i64 y.kind, tx y.text] 87)
         have Q10 := Q9.later B10
         clear Q9 B10
         go_simp
         generalize w9.alloc (.cells #[tx y.name, .int .i64 y.kind, tx y.text] 87) = w10 at *
         refine hK.out _ _ ?_ (fun _ => ?_)
         ·
          exact True.intro
         clear hK K
         refine wpAnyH_ready (rs := [5]) (by kernel_rfl) (by simp) ?_
         refine AllReadyH.cons rfl (fun K hK => ?_) AllReadyH.nil
         have hsz := lt_of_heap Q10.nd
         refine step_append _ _ (some 57) 25 rfl rfl (by rfl) (nb + 1) 87 i0 (.agg #[tx [], .int .i64 0, tx []]) 3 40 Tryz.underlying25 hi hz0 hz1 hz2 rfl (by decide) (.slice an acc.length cn) acc.length (cellsM acc) rfl Q10.own ⟨w9.heap.size, 0, none⟩ 1 1 [tx y.name, .int .i64 y.kind, tx y.text] rfl rfl ?hnews ?hone ?h63 ?hby ?hbs ?_
         case hnews =>
          intro j u hu
          rw [Addr.add_lit, Nat.zero_add, cell_at n10 j]
          simpa using hu
         case hone =>
          intro u hu
          simp only [List.mem_cons, List.not_mem_nil, or_false] at hu
          rcases hu with rfl | rfl | rfl <;> rfl
         case h63 => unfold maxLen; omega
         case hby => omega
         case hbs => omega
         intro v' w11 own11 hg11
         have Q11 := Q10.grown (OwnM.snoc own11) hg11
         obtain ⟨ao, cap, rfl⟩ : ∃ ao cap, v' = .slice ao (acc.length + 1) cap := by obtain ⟨ao, cap, e⟩ := Q11.own.sl; exact ⟨ao, cap, by rw [e, List.length_append]; rfl⟩
         clear own11 hg11 n10 Q10 hsz
         refine hK.out _ _ ?_ (fun _ => ?_)
         ·
          exact True.intro
         clear hK K
         refine tk 6 58 (.pointer (some ⟨nb, 5, none⟩)) rfl (fun W hSw => by go_simp) True.intro ?_
         simp only [Act.put, pB, pC, pD]
         refine wpAnyH_ready (rs := [7]) (by kernel_rfl) (by simp) ?_
         refine AllReadyH.cons rfl (fun K hK => ?_) AllReadyH.nil
         have k7 := (cell_at Q11.nd 5).trans rfl
         have g7 := frozen_at Q11.nd 5
         have Q12 := Q11.set5
         clear Q11
         go_simp
         generalize w11.setCell ⟨nb, 5, none⟩ (.slice ao (acc.length + 1) cap) = w12 at *
         clear k7 g7
         refine hK.out _ _ ?_ (fun _ => ?_)
         ·
          exact True.intro
         clear hK K
         refine wpAnyH_done (by kernel_rfl) ?_ _
         refine NoPanic.normal ?_
         go_wp2_with fail
         go_roundw
         case rel => exact ⟨false, _, acc ++ [y], i + 1 + 3, fp2, fy2, rfl, Q12, by rw [List.length_append]; simp only [List.length_singleton]; omega, mt_step R (fp := fp) (fp1 := fp1) (fy1 := fy1) hin hkf HR.out HC.out (Or.inr ⟨rfl, rfl, HT8.out⟩) HM.out⟩
         case measure => exact mes_lt Q.rd Q12.rd (by omega) hin
        ·
         go_simp
         refine (hm _ fp1 fy1 Q8.rd).mono ?_
         rintro e w9 ⟨y, fp2, fy2, rfl, P9, o9, HM⟩
         have Q9 := Q8.read P9 o9
         clear P9 o9 Q8 hm
         refine hK.out _ _ ?_ (fun _ => ?_)
         ·
          exact True.intro
         clear hK K
         refine wpAnyH_ready (rs := [1, 4]) (by kernel_rfl) (by simp) ?_
         refine AllReadyH.cons rfl (fun K hK => ?_) (AllReadyH.cons rfl (fun K hK => ?_) AllReadyH.nil)
         ·
          have k1 := (cell_at Q9.nd 5).trans rfl
          go_simp
          refine hK.out _ _ ?_ (fun _ => ?_)
          ·
           exact True.intro
          clear hK K
          clear k1
          refine wpAnyH_ready (rs := [4]) (by kernel_rfl) (by simp) ?_
          refine AllReadyH.cons rfl (fun K hK => ?_) AllReadyH.nil
          have n10 := heap_new w9 (.cells #[tx y.name, .int .i64 y.kind, tx y.text] 87)
          have B10 := bal (Below.refl w9.heap.size w9) (.cells #[tx y.name, .int .i64 y.kind, tx y.text] 87)
          have Q10 := Q9.later B10
          clear Q9 B10
          go_simp
          generalize w9.alloc (.cells #[tx y.name, .int .i64 y.kind, tx y.text] 87) = w10 at *
          refine hK.out _ _ ?_ (fun _ => ?_)
          ·
           exact True.intro
          clear hK K
          refine wpAnyH_ready (rs := [5]) (by kernel_rfl) (by simp) ?_
          refine AllReadyH.cons rfl (fun K hK => ?_) AllReadyH.nil
          have hsz := lt_of_heap Q10.nd
          refine step_append _ _ (some 57) 25 rfl rfl (by rfl) (nb + 1) 87 i0 (.agg #[tx [], .int .i64 0, tx []]) 3 40 Tryz.underlying25 hi hz0 hz1 hz2 rfl (by decide) (.slice an acc.length cn) acc.length (cellsM acc) rfl Q10.own ⟨w9.heap.size, 0, none⟩ 1 1 [tx y.name, .int .i64 y.kind, tx y.text] rfl rfl ?hnews ?hone ?h63 ?hby ?hbs ?_
          case hnews =>
           intro j u hu
           rw [Addr.add_lit, Nat.zero_add, cell_at n10 j]
           simpa using hu
          case hone =>
           intro u hu
           simp only [List.mem_cons, List.not_mem_nil, or_false] at hu
           rcases hu with rfl | rfl | rfl <;> rfl
          case h63 => unfold maxLen; omega
          case hby => omega
          case hbs => omega
          intro v' w11 own11 hg11
          have Q11 := Q10.grown (OwnM.snoc own11) hg11
          obtain ⟨ao, cap, rfl⟩ : ∃ ao cap, v' = .slice ao (acc.length + 1) cap := by obtain ⟨ao, cap, e⟩ := Q11.own.sl; exact ⟨ao, cap, by rw [e, List.length_append]; rfl⟩
          clear own11 hg11 n10 Q10 hsz
          refine hK.out _ _ ?_ (fun _ => ?_)
          ·
           exact True.intro
          clear hK K
          refine tk 6 58 (.pointer (some ⟨nb, 5, none⟩)) rfl (fun W hSw => by go_simp) True.intro ?_
          simp only [Act.put, pB, pC, pD]
          refine wpAnyH_ready (rs := [7]) (by kernel_rfl) (by simp) ?_
          refine AllReadyH.cons rfl (fun K hK => ?_) AllReadyH.nil
          have k7 := (cell_at Q11.nd 5).trans rfl
          have g7 := frozen_at Q11.nd 5
          have Q12 := Q11.set5
          clear Q11
          go_simp
          generalize w11.setCell ⟨nb, 5, none⟩ (.slice ao (acc.length + 1) cap) = w12 at *
          clear k7 g7
          refine hK.out _ _ ?_ (fun _ => ?_)
          ·
           exact True.intro
          clear hK K
          refine wpAnyH_done (by kernel_rfl) ?_ _
          refine NoPanic.normal ?_
          go_wp2_with fail
          go_roundw
          case rel => exact ⟨false, _, acc ++ [y], i + 1 + 3, fp2, fy2, rfl, Q12, by rw [List.length_append]; simp only [List.length_singleton]; omega, mt_step R (fp := fp) (fp1 := fp1) (fy1 := fy1) hin hkf HR.out HC.out (Or.inr ⟨rfl, rfl, HT8.out⟩) HM.out⟩
          case measure => exact mes_lt Q.rd Q12.rd (by omega) hin
         ·
          have n10 := heap_new w9 (.cells #[tx y.name, .int .i64 y.kind, tx y.text] 87)
          have B10 := bal (Below.refl w9.heap.size w9) (.cells #[tx y.name, .int .i64 y.kind, tx y.text] 87)
          have Q10 := Q9.later B10
          clear Q9 B10
          go_simp
          generalize w9.alloc (.cells #[tx y.name, .int .i64 y.kind, tx y.text] 87) = w10 at *
          refine hK.out _ _ ?_ (fun _ => ?_)
          ·
           exact True.intro
          clear hK K
          refine wpAnyH_ready (rs := [1]) (by kernel_rfl) (by simp) ?_
          refine AllReadyH.cons rfl (fun K hK => ?_) AllReadyH.nil
          have k1 := (cell_at Q10.nd 5).trans rfl
          go_simp
          refine hK.out _ _ ?_ (fun _ => ?_)
          ·
           exact True.intro
          clear hK K
          clear k1
          refine wpAnyH_ready (rs := [5]) (by kernel_rfl) (by simp) ?_
          refine AllReadyH.cons rfl (fun K hK => ?_) AllReadyH.nil
          have hsz := lt_of_heap Q10.nd
          refine step_append _ _ (some 57) 25 rfl rfl (by rfl) (nb + 1) 87 i0 (.agg #[tx [], .int .i64 0, tx []]) 3 40 Tryz.underlying25 hi hz0 hz1 hz2 rfl (by decide) (.slice an acc.length cn) acc.length (cellsM acc) rfl Q10.own ⟨w9.heap.size, 0, none⟩ 1 1 [tx y.name, .int .i64 y.kind, tx y.text] rfl rfl ?hnews ?hone ?h63 ?hby ?hbs ?_
          case hnews =>
           intro j u hu
           rw [Addr.add_lit, Nat.zero_add, cell_at n10 j]
           simpa using hu
          case hone =>
           intro u hu
           simp only [List.mem_cons, List.not_mem_nil, or_false] at hu
           rcases hu with rfl | rfl | rfl <;> rfl
          case h63 => unfold maxLen; omega
          case hby => omega
          case hbs => omega
          intro v' w11 own11 hg11
          have Q11 := Q10.grown (OwnM.snoc own11) hg11
          obtain ⟨ao, cap, rfl⟩ : ∃ ao cap, v' = .slice ao (acc.length + 1) cap := by obtain ⟨ao, cap, e⟩ := Q11.own.sl; exact ⟨ao, cap, by rw [e, List.length_append]; rfl⟩
          clear own11 hg11 n10 Q10 hsz
          refine hK.out _ _ ?_ (fun _ => ?_)
          ·
           exact True.intro
          clear hK K
          refine tk 6 58 (.pointer (some ⟨nb, 5, none⟩)) rfl (fun W hSw => by go_simp) True.intro ?_
          simp only [Act.put, pB, pC, pD]
          refine wpAnyH_ready (rs := [7]) (by kernel_rfl) (by simp) ?_
          refine AllReadyH.cons rfl (fun K hK => ?_) AllReadyH.nil
          have k7 := (cell_at Q11.nd 5).trans rfl
          have g7 := frozen_at Q11.nd 5
          have Q12 := Q11.set5
          clear Q11
          go_simp
          generalize w11.setCell ⟨nb, 5, none⟩ (.slice ao (acc.length + 1) cap) = w12 at *
          clear k7 g7
          refine hK.out _ _ ?_ (fun _ => ?_)
          ·
           exact True.intro
          clear hK K
          refine wpAnyH_done (by kernel_rfl) ?_ _
          refine NoPanic.normal ?_
          go_wp2_with fail
          go_roundw
          case rel => exact ⟨false, _, acc ++ [y], i + 1 + 3, fp2, fy2, rfl, Q12, by rw [List.length_append]; simp only [List.length_singleton]; omega, mt_step R (fp := fp) (fp1 := fp1) (fy1 := fy1) hin hkf HR.out HC.out (Or.inr ⟨rfl, rfl, HT8.out⟩) HM.out⟩
          case measure => exact mes_lt Q.rd Q12.rd (by omega) hin
     ·
      have HX : Hid (BR = .inl (fp, fy)) := HR0
      have c3 := Q.rd.c3
      have hy' : (fy == 0) = false := by rw [beq_eq_false_iff_ne]; exact hy
      have hto := rtake_old R [125] hy Q.rd (by omega)
      have HY : Hid (fy ≠ 0) := hy
      clear HR0 S hy
      go_wp2_with fail
      refine hto.mono ?_
      rintro e w9 ⟨rfl, P9, o9⟩
      have Q9 := Q.read P9 o9
      clear hto P9 o9 c3 Q
      go_wp2_with fail
      go_meet
      case rel => exact ⟨_, acc, i + 1, fp, fy, Q9, Or.inr ⟨HY.out, by omega, HX.out⟩⟩
  case rest =>
   clear Q5 HB2 hi1 hn1
   clear v acc i1
   obtain ⟨v, acc, j, fp1, fy1, Q6, HO⟩ := hcut
   have HO2 : Hid (BrO R BR acc j fp1 fy1) := HO
   clear HO
   obtain ⟨an, cn, rfl⟩ := Q6.own.sl
   have c3 := Q6.rd.c3
   rcases HO2.out with ⟨rfl, hj, HBR⟩ | ⟨hy, hj, HBR⟩
   ·
    have HX : Hid (RES = bnd (wnP R.q (R.T.drop j)) fun y => .inr (eSel x.p acc y.1, y.2)) := by
     show _ = _
     rw [HS.out, HBR]
     rfl
    have hsb := rsign_any R [91] Q6.rd
    clear HS HBR HO2
    cases hs : sg (hd R.q (R.T.drop j)) [91] with
    | false =>
     have HY : Hid (RES = .inr (eSel x.p acc 0, R.T.drop j)) := by
      show _ = _
      rw [HX.out, wnP, if_pos hs]
      rfl
     rw [hs] at hsb
     clear hs HX
     go_wp2_with fail
     refine hsb.mono ?_
     rintro e w7 ⟨rfl, b7⟩
     have Q7 := Q6.later b7
     clear Q6 c3 hsb b7
     have nd := Q7.nd
     have rs := Q7.res
     go_wp2_with (first | (refine wp_get rfl 29 _ rfl nb (exA 2 x.p false 0 [] (.slice an acc.length cn) 0 false false false false nl nl) 29 rfl nd _ Tryz.underlying29 rfl 13 inf29 rfl ?_) | (refine wp_put rfl 29 _ _ rfl w.heap.size (exA 2 x.p false 0 [] (.slice an acc.length cn) 0 false false false false nl nl) rfl rfl _ 29 rs 13 inf29 rfl ⟨rfl, rfl⟩ ?_; intro we re oe ze))
     exact bodyPost_ret (res_cell Tryz.results174 _ _ w.heap.size 29 (exA 2 x.p false 0 [] (.slice an acc.length cn) 0 false false false false nl nl) _ rfl re Tryz.underlying29 rfl 13 inf29 rfl) rfl ⟨(exA 2 x.p false 0 [] (.slice an acc.length cn) 0 false false false false nl nl), rfl, Q7.out h15 (Or.inl ⟨rfl, hj, HY.out⟩) oe⟩
    | true =>
     have HY : Hid (RES = bnd (if (hd R.q (R.T.drop (j + 1))).k ≠ 3 then .inl (bad R.q (R.T.drop (j + 1)) 71) else if sg (hd R.q (R.T.drop (j + 2))) [93] = false then .inl (bad R.q (R.T.drop (j + 2)) 71) else .inr ((hd R.q (R.T.drop (j + 1))).d, R.T.drop (j + 3)) : Rs Int) fun y => .inr (eSel x.p acc y.1, y.2)) := by
      show _ = _
      rw [HX.out, wnP, if_neg (by rw [hs]; decide), List.tail_drop, List.tail_drop, List.tail_drop]
     have hl := psg_lt Q6.rd hs
     rw [hs] at hsb
     clear hs HX
     go_wp2_with fail
     refine hsb.mono ?_
     rintro e w7 ⟨rfl, b7⟩
     have Q7 := Q6.later b7
     clear Q6 c3 hsb b7
     have hpk := fun W fp fy (hW : Pd R W (j + 1) dp fp fy) => peek0_any R hW
     have hfl := fun W (hW : Pd R W (j + 1) dp fp1 0) => fail_new R 71 hW
     have hlt : Hid ((hd R.q (R.T.drop (j + 1))).k = 3 → ∀ W fp fy, Pd R W (j + 1) dp fp fy → j + 1 < R.n) := fun e W fp fy hW => phd_lt hW (by rw [e]; decide)
     obtain ⟨y, hy⟩ : ∃ y, Hid (hd R.q (R.T.drop (j + 1)) = y) := ⟨_, rfl⟩
     simp only [hy.out] at hpk hfl
     rw [hy.out] at HY hlt
     have f0 := fld0 y
     have f4 := rfld4 y
     have Q8 := Q7.next (j + 1) (by omega)
     have c1 := Q7.rd.c1
     have g1 := Q7.rd.fz 1
     have ec : ((j + 1 : Nat) : Int) = (j : Int) + 1 := by omega
     rw [ec] at Q8
     clear ec
     go_wp2_with fail
     generalize w7.setCell ⟨R.b, 1, none⟩ (.int .i64 ((j : Int) + 1)) = w8 at *
     refine (hpk _ _ _ Q8.rd).mono ?_
     rintro e w9 ⟨rfl, b9⟩
     have Q9 := Q8.later b9
     clear c1 g1 Q7 Q8 b9
     cases hk : y.k != 3 with
     | false =>
      have hk2 : y.k = 3 := by simpa using hk
      rw [if_neg (by simp [hk2])] at HY
      have hl2 := hlt.out hk2 _ _ _ Q9.rd
      clear hk2 hfl hlt
      go_wp2_with fail
      refine (hpk _ _ _ Q9.rd).mono ?_
      rintro e w10 ⟨rfl, b10⟩
      have Q10 := Q9.later b10
      clear Q9 b10 hpk
      have k6 := (cell_at Q10.nd 6).trans rfl
      have g6 := frozen_at Q10.nd 6
      have Q11 := Q10.set6 y.d
      clear Q10
      go_upto_region 21 with fail
      generalize w10.setCell ⟨nb, 6, none⟩ (.int .i64 y.d) = w11 at *
      clear k6 g6
      have htk := fun W (hW : Pd R W (j + 2) dp fp1 0) => rtake_any R [93] hW (by omega)
      have Q12 := Q11.next (j + 2) (by omega)
      have c1 := Q11.rd.c1
      have g1 := Q11.rd.fz 1
      have ec : ((j + 2 : Nat) : Int) = (j : Int) + 1 + 1 := by omega
      rw [ec] at Q12
      have ea : ((j + 1 : Nat) : Int) = (j : Int) + 1 := by omega
      rw [ea] at c1
      clear ec ea
      go_wp2_with fail
      generalize w11.setCell ⟨R.b, 1, none⟩ (.int .i64 ((j : Int) + 1 + 1)) = w12 at *
      refine (htk _ Q12.rd).mono ?_
      rintro e w13 ⟨rfl, fp2, fy2, P13, o13, HT13⟩
      have Q13 := Q12.read P13 o13
      have HO : Hid (SeO R x.p RES acc y.d (j + 3) fp2 fy2) := by
       rcases HT13.out with ⟨h, _⟩ | ⟨_, ⟨h, rfl, rfl⟩ | ⟨h, rfl, rfl⟩⟩
       ·
        exact absurd rfl h
       ·
        refine Or.inl ⟨rfl, ?_, ?_⟩
        ·
         have := psg_lt Q12.rd h; omega
        ·
         rw [HY.out, if_neg (by rw [h]; decide)]; rfl
       ·
        refine Or.inr ⟨by decide, by omega, ?_⟩
        rw [HY.out, if_pos h]; rfl
      clear c1 g1 Q11 htk P13 o13 HT13 HY Q12
      have nd := Q13.nd
      have rs := Q13.res
      go_wp2_with (first | (refine wp_get rfl 29 _ rfl nb (exA 2 x.p false 0 [] (.slice an acc.length cn) y.d false false false false nl nl) 29 rfl nd _ Tryz.underlying29 rfl 13 inf29 rfl ?_) | (refine wp_put rfl 29 _ _ rfl w.heap.size (exA 2 x.p false 0 [] (.slice an acc.length cn) y.d false false false false nl nl) rfl rfl _ 29 rs 13 inf29 rfl ⟨rfl, rfl⟩ ?_; intro we re oe ze))
      exact bodyPost_ret (res_cell Tryz.results174 _ _ w.heap.size 29 (exA 2 x.p false 0 [] (.slice an acc.length cn) y.d false false false false nl nl) _ rfl re Tryz.underlying29 rfl 13 inf29 rfl) rfl ⟨(exA 2 x.p false 0 [] (.slice an acc.length cn) y.d false false false false nl nl), rfl, Q13.out h15 (HO.out) oe⟩
     | true =>
      have hk2 : y.k ≠ 3 := by simpa using hk
      rw [if_pos hk2] at HY
      clear hk2 hlt
      go_wp2_with fail
      refine (hfl _ Q9.rd).mono ?_
      rintro e w10 ⟨rfl, P10, o10⟩
      have Q10 := Q9.read P10 o10
      clear Q9 P10 o10 hfl
      have hpk2 := hpk _ _ _ Q10.rd
      clear hpk
      go_wp2_with fail
      refine hpk2.mono ?_
      rintro e w11 ⟨rfl, b11⟩
      have Q11 := Q10.later b11
      clear Q10 b11 hpk2
      have k6 := (cell_at Q11.nd 6).trans rfl
      have g6 := frozen_at Q11.nd 6
      have Q12 := Q11.set6 y.d
      clear Q11
      go_upto_region 21 with fail
      generalize w11.setCell ⟨nb, 6, none⟩ (.int .i64 y.d) = w12 at *
      clear k6 g6
      have htk := fun W (hW : Pd R W (j + 2) dp y.p 71) => rtake_old R [93] (by decide) hW (by omega)
      have Q13 := Q12.next (j + 2) (by omega)
      have c1 := Q12.rd.c1
      have g1 := Q12.rd.fz 1
      have ec : ((j + 2 : Nat) : Int) = (j : Int) + 1 + 1 := by omega
      rw [ec] at Q13
      have ea : ((j + 1 : Nat) : Int) = (j : Int) + 1 := by omega
      rw [ea] at c1
      clear ec ea
      go_wp2_with fail
      generalize w12.setCell ⟨R.b, 1, none⟩ (.int .i64 ((j : Int) + 1 + 1)) = w13 at *
      refine (htk _ Q13.rd).mono ?_
      rintro e w14 ⟨rfl, P14, o14⟩
      have Q14 := Q13.read P14 o14
      have HO : Hid (SeO R x.p RES acc y.d (j + 3) y.p 71) := Or.inr ⟨by decide, by omega, by rw [HY.out]; show Sum.inl (bad R.q (R.T.drop (j + 1)) 71) = _; rw [bad, hy.out]⟩
      clear c1 g1 Q12 htk P14 o14 HY Q13
      have nd := Q14.nd
      have rs := Q14.res
      go_wp2_with (first | (refine wp_get rfl 29 _ rfl nb (exA 2 x.p false 0 [] (.slice an acc.length cn) y.d false false false false nl nl) 29 rfl nd _ Tryz.underlying29 rfl 13 inf29 rfl ?_) | (refine wp_put rfl 29 _ _ rfl w.heap.size (exA 2 x.p false 0 [] (.slice an acc.length cn) y.d false false false false nl nl) rfl rfl _ 29 rs 13 inf29 rfl ⟨rfl, rfl⟩ ?_; intro we re oe ze))
      exact bodyPost_ret (res_cell Tryz.results174 _ _ w.heap.size 29 (exA 2 x.p false 0 [] (.slice an acc.length cn) y.d false false false false nl nl) _ rfl re Tryz.underlying29 rfl 13 inf29 rfl) rfl ⟨(exA 2 x.p false 0 [] (.slice an acc.length cn) y.d false false false false nl nl), rfl, Q14.out h15 (HO.out) oe⟩
   ·
    have HX : Hid (RES = .inl (fp1, fy1)) := by
     show _ = _
     rw [HS.out, HBR]
     rfl
    have hy' : (fy1 == 0) = false := by rw [beq_eq_false_iff_ne]; exact hy
    have HY : Hid (fy1 ≠ 0) := hy
    clear hy HS HBR HO2
    go_upto_region 23 with fail
    clear c3
    have nd := Q6.nd
    have rs := Q6.res
    go_wp2_with (first | (refine wp_get rfl 29 _ rfl nb (exA 2 x.p false 0 [] (.slice an acc.length cn) 0 false false false false nl nl) 29 rfl nd _ Tryz.underlying29 rfl 13 inf29 rfl ?_) | (refine wp_put rfl 29 _ _ rfl w.heap.size (exA 2 x.p false 0 [] (.slice an acc.length cn) 0 false false false false nl nl) rfl rfl _ 29 rs 13 inf29 rfl ⟨rfl, rfl⟩ ?_; intro we re oe ze))
    exact bodyPost_ret (res_cell Tryz.results174 _ _ w.heap.size 29 (exA 2 x.p false 0 [] (.slice an acc.length cn) 0 false false false false nl nl) _ rfl re Tryz.underlying29 rfl 13 inf29 rfl) rfl ⟨(exA 2 x.p false 0 [] (.slice an acc.length cn) 0 false false false false nl nl), rfl, Q6.out h15 (Or.inr ⟨HY.out, by omega, HX.out⟩) oe⟩
end Go.Proofs.YteankdaegdhfiaaGreatDoor
