/- Texts that the others lean on. -/
import Derived.Test.YteankdaegdhfiaaGreatDoorKYPd6
import Derived.Test.YteankdaegdhfiaaGreatDoorKMD
namespace Go.Proofs.YteankdaegdhfiaaGreatDoor
open Go.RowKit
set_option maxHeartbeats 4000000 in
theorem runary_old (R : Rc) (dp : Int) (hP : OldR R 111 #[R.ptr] dp) : OldR R 66 #[R.ptr] dp := by
 intro w i fp fy hy hi h
 have hbl := h.bl
 have hp := fun W (hW : Pd R W i dp fp fy) => hP W i fp fy hy hi hW
 have hy' : (fy != 0) = true := by rw [bne_iff_ne]; exact hy
 clear hy hP
 ·
  go_enter Tryz.func66, Tryz.ntmps66
  have a1 := bal (Below.refl w.heap.size w) (.cells zE 29)
  have zz := size_le w (.cells zE 29)
  have z1 := a1.size
  have rd1 := h.later a1
  have O1 := (Off.refl [R.b] w).on a1
  have res1 := heap_new w (.cells zE 29)
  have c3 := rd1.c3
  clear h a1
  go_wp2_with fail
  refine (hp _ rd1).mono ?_
  rintro e w1 ⟨cs, j, rfl, row, hj, P1, o1⟩
  have z2 := o1.size
  have O2 := O1.then o1
  have res2 := o1.heap res1 (by simp <;> omega)
  clear rd1 O1 res1 hp c3
  go_wp2_with (refine wp_put rfl 29 _ _ rfl w.heap.size cs rfl rfl _ 29 res2 13 inf29 rfl row ?_; intro we re oe ze)
  have P2 := P1.off oe (by simp <;> omega)
  have O3 := O2.trans oe (by simp <;> omega)
  exact bodyPost_ret (res_cell Tryz.results66 _ _ w.heap.size 29 cs _ rfl re Tryz.underlying29 rfl 13 inf29 row.1) rfl ⟨cs, j, rfl, row, hj, P2, O3⟩
theorem RnOut.hand {R : Rc} {w w1 w2 w3 : World} {dp : Int} {res : Rs Ex} {cs : Array Value} (h : RnOut R w1.heap.size w1 dp res cs w2) (hO : Off [R.b] w w1) (hs : w.heap.size < w1.heap.size) (hb : R.b < w.heap.size) (ho : Off [w.heap.size] w2 w3) : RnOut R w.heap.size w dp res cs w3 := by
 have hz := hO.size
 cases res with
 | inr x =>
  obtain ⟨j, fp, hx, hj, P, t, o⟩ := h
  exact ⟨j, fp, hx, hj, P.off ho (by simp <;> omega), TrP.mono (fun b hb => by show _ ≤ _; have : w1.heap.size ≤ b := hb; omega) _ (TrP.off ho (by simp; omega) _ t), (hO.then o).trans ho (by simp <;> omega)⟩
 | inl er =>
  obtain ⟨j, r, hj, hy, P, o⟩ := h
  exact ⟨j, r, hj, hy, P.off ho (by simp <;> omega), (hO.then o).trans ho (by simp <;> omega)⟩
set_option maxHeartbeats 4000000 in
theorem runary_plain (R : Rc) {w : World} {i : Nat} {dp fp : Int} (n c : List Tk → Rs Ex) (hP : RunR R 111 #[R.ptr] dp (prmP R.q c)) (hin : i ≤ R.n) (hs : sg (hd R.q (R.T.drop i)) [45] = false) (h : Pd R w i dp fp 0) : Calls Tryz.prog 66 #[R.ptr] w fun e w' => ∃ cs, e = .returned (.agg cs) ∧ RnOut R w.heap.size w dp (unP R.q n c (R.T.drop i)) cs w' := by
 have e : unP R.q n c (R.T.drop i) = prmP R.q c (R.T.drop i) := by unfold unP; rw [if_pos hs]
 rw [e]
 have hbl := h.bl
 have hp := fun W (hW : Pd R W i dp fp 0) => hP W i fp hin hW
 have hsg := fun W (hW : Pd R W i dp fp 0) => rsign_any R [45] hW
 rw [hs] at hsg
 clear hs e hP
 generalize prmP R.q c (R.T.drop i) = RES at *
 ·
  go_enter Tryz.func66, Tryz.ntmps66
  have a1 := bal (Below.refl w.heap.size w) (.cells zE 29)
  have zz := size_le w (.cells zE 29)
  have z1 := a1.size
  have rd1 := h.later a1
  have O1 := (Off.refl [R.b] w).on a1
  have res1 := heap_new w (.cells zE 29)
  have c3 := rd1.c3
  clear h a1
  go_wp2_with fail
  refine (hsg _ rd1).mono ?_
  rintro e w1 ⟨rfl, b1⟩
  have z2 := b1.size
  have rd2 := rd1.later b1
  have O2 := O1.on b1
  have res2 := below_heap b1 res1
  clear c3 rd1 O1 res1 hsg
  go_wp2_with fail
  refine (hp _ rd2).mono ?_
  rintro e w2 ⟨cs, rfl, V⟩
  have row := V.row
  have res3 := V.heap.heap res2 (by simp <;> omega)
  have hz : w.heap.size < w1.heap.size := by omega
  clear hp rd2 res2
  go_wp2_with (refine wp_put rfl 29 _ _ rfl w.heap.size cs rfl rfl _ 29 res3 13 inf29 rfl row ?_; intro we re oe ze)
  exact bodyPost_ret (res_cell Tryz.results66 _ _ w.heap.size 29 cs _ rfl re Tryz.underlying29 rfl 13 inf29 row.1) rfl ⟨cs, rfl, V.hand O2 hz hbl oe⟩
set_option maxHeartbeats 8000000 in
set_option maxRecDepth 20000 in
theorem runary_deep (R : Rc) (c : List Tk → Rs Ex) (hP : RunR R 111 #[R.ptr] 15 (prmP R.q c)) : RunR R 66 #[R.ptr] 15 (unP R.q (deep R.q) c) := by
 intro w i fp hin h
 cases hs : sg (hd R.q (R.T.drop i)) [45] with
 | false => exact runary_plain R _ c hP hin hs h
 | true =>
  have e : unP R.q (deep R.q) c (R.T.drop i) = .inl ((hd R.q (R.T.drop (i + 1))).p, 72) := by unfold unP; rw [if_neg (by rw [hs]; decide), List.tail_drop]; rfl
  rw [e]
  have hl := psg_lt h hs
  have hbl := h.bl
  have hsg := fun W (hW : Pd R W i 15 fp 0) => rsign_any R [45] hW
  rw [hs] at hsg
  have hpk := fun W (hW : Pd R W i 15 fp 0) => peek0_any R hW
  have f1 := fld1 (hd R.q (R.T.drop i))
  have hdn := fun W (hW : Pd R W (i + 1) 15 fp 0) => rdown_no R (by decide) hW
  clear e hs hP
  generalize (hd R.q (R.T.drop (i + 1))).p = y at *
  generalize hd R.q (R.T.drop i) = x at *
  go_enter Tryz.func66, Tryz.ntmps66
  have a1 := bal (Below.refl w.heap.size w) (.cells zE 29)
  have zz := size_le w (.cells zE 29)
  have z1 := a1.size
  have rd1 := h.later a1
  have O1 := (Off.refl [R.b] w).on a1
  have res1 := heap_new w (.cells zE 29)
  have c3 := rd1.c3
  clear h a1
  go_wp2_with fail
  refine (hsg _ rd1).mono ?_
  rintro e w1 ⟨rfl, b1⟩
  have z2 := b1.size
  have rd2 := rd1.later b1
  have O2 := O1.on b1
  have res2 := below_heap b1 res1
  clear c3 rd1 O1 res1 hsg
  go_wp2_with fail
  refine (hpk _ rd2).mono ?_
  rintro e w2 ⟨rfl, b2⟩
  have z3 := b2.size
  have rd3 := rd2.later b2
  have O3 := O2.on b2
  have res3 := below_heap b2 res2
  clear rd2 O2 res2 hpk
  go_upto_region 4 with (refine wp_new (w := w2) rfl 29 _ _ rfl zE (exA 6 x.p false 0 [] nl 0 false false false false nl nl) rfl rfl 13 inf29 rfl ⟨rfl, rfl⟩ ?_; intro w4 l4 b4 s4)
  have z4 := b4.size
  have rd4 := rd3.later b4
  have O4 := O3.on b4
  have res4 := below_heap b4 res3
  have c1 := rd4.c1
  have f1 := rd4.fz 1
  have hnb := rd4.nb
  clear rd3 O3 res3
  go_upto_region 5 with fail
  have s5 := set_heap rd4.h 1 (.int .i64 ((i : Int) + 1))
  have o5 := set_off w4 R.b 1 (.int .i64 ((i : Int) + 1))
  generalize w4.setCell ⟨R.b, 1, none⟩ (.int .i64 ((i : Int) + 1)) = w5 at *
  have P5 := rd4.put (j := i + 1) (dp' := 15) (fp' := fp) (fy' := 0) o5 (by omega) s5
  have z5 := o5.size
  have O5 := O4.then o5
  have res5 := o5.heap res4 (by simp <;> omega)
  have l5 := o5.heap l4 (by simp <;> omega)
  clear c1 f1 s5 rd4 O4 res4 l4 o5
  go_wp2_with fail
  refine (hdn _ P5).mono ?_
  rintro e w6 ⟨rfl, P6, o6⟩
  have z6 := o6.size
  have O6 := O5.then o6
  have res6 := o6.heap res5 (by simp <;> omega)
  have l6 := o6.heap l5 (by simp <;> omega)
  clear P5 O5 res5 l5 hdn o6
  go_wp2_with (first | (refine wp_get rfl 29 _ rfl w2.heap.size (exA 6 x.p false 0 [] nl 0 false false false false nl nl) 29 rfl l6 _ Tryz.underlying29 rfl 13 inf29 rfl ?_) | (refine wp_put rfl 29 _ _ rfl w.heap.size (exA 6 x.p false 0 [] nl 0 false false false false nl nl) rfl rfl _ 29 res6 13 inf29 rfl ⟨rfl, rfl⟩ ?_; intro we re oe ze))
  have P7 := P6.off oe (by simp <;> omega)
  have O7 := O6.trans oe (by simp <;> omega)
  exact bodyPost_ret (res_cell Tryz.results66 _ _ w.heap.size 29 (exA 6 x.p false 0 [] nl 0 false false false false nl nl) _ rfl re Tryz.underlying29 rfl 13 inf29 rfl) rfl ⟨exA 6 x.p false 0 [] nl 0 false false false false nl nl, rfl, i + 1, ⟨rfl, rfl⟩, by omega, by show (72 : Int) ≠ 0; decide, P7, O7⟩
set_option maxHeartbeats 16000000 in
set_option maxRecDepth 20000 in
theorem runary_s (R : Rc) (dp : Int) (n c : List Tk → Rs Ex) (h0 : 0 ≤ dp) (h15 : dp < 15) (hU : RunR R 66 #[R.ptr] (dp + 1) n) (hP : RunR R 111 #[R.ptr] dp (prmP R.q c)) : RunR R 66 #[R.ptr] dp (unP R.q n c) := by
 intro w i fp hin h
 cases hs : sg (hd R.q (R.T.drop i)) [45] with
 | false => exact runary_plain R n c hP hin hs h
 | true =>
  have HB : Hid (unP R.q n c (R.T.drop i) = bnd (n (R.T.drop (i + 1))) fun x => .inr (eNeg (hd R.q (R.T.drop i)).p x.1, x.2)) := by
   show _ = _
   unfold unP
   rw [if_neg (by rw [hs]; decide), List.tail_drop]
  obtain ⟨RES, HE⟩ : ∃ RES, Hid (unP R.q n c (R.T.drop i) = RES) := ⟨_, rfl⟩
  rw [HE.out] at HB ⊢
  have hl := psg_lt h hs
  have hbl := h.bl
  have hsg := fun W (hW : Pd R W i dp fp 0) => rsign_any R [45] hW
  rw [hs] at hsg
  have hpk := fun W (hW : Pd R W i dp fp 0) => peek0_any R hW
  have f1 := fld1 (hd R.q (R.T.drop i))
  have hdn := fun W (hW : Pd R W (i + 1) dp fp 0) => rdown_yes R h0 h15 hW
  have h14 : dp ≤ 14 := by omega
  clear hs HE hP h15
  generalize hd R.q (R.T.drop i) = x at *
  go_enter Tryz.func66, Tryz.ntmps66
  have a1 := bal (Below.refl w.heap.size w) (.cells zE 29)
  have zz := size_le w (.cells zE 29)
  have z1 := a1.size
  have rd1 := h.later a1
  have O1 := (Off.refl [R.b] w).on a1
  have res1 := heap_new w (.cells zE 29)
  have c3 := rd1.c3
  clear h a1
  go_wp2_with fail
  refine (hsg _ rd1).mono ?_
  rintro e w1 ⟨rfl, b1⟩
  have z2 := b1.size
  have rd2 := rd1.later b1
  have O2 := O1.on b1
  have res2 := below_heap b1 res1
  clear c3 rd1 O1 res1 hsg
  go_wp2_with fail
  refine (hpk _ rd2).mono ?_
  rintro e w2 ⟨rfl, b2⟩
  have z3 := b2.size
  have rd3 := rd2.later b2
  have O3 := O2.on b2
  have res3 := below_heap b2 res2
  clear rd2 O2 res2 hpk
  go_upto_region 4 with (refine wp_new (w := w2) rfl 29 _ _ rfl zE (exA 6 x.p false 0 [] nl 0 false false false false nl nl) rfl rfl 13 inf29 rfl ⟨rfl, rfl⟩ ?_; intro w4 l4 b4 s4)
  have z4 := b4.size
  have rd4 := rd3.later b4
  have O4 := O3.on b4
  have res4 := below_heap b4 res3
  have c1 := rd4.c1
  have f1 := rd4.fz 1
  have hnb := rd4.nb
  clear rd3 O3 res3
  go_upto_region 5 with fail
  have s5 := set_heap rd4.h 1 (.int .i64 ((i : Int) + 1))
  have o5 := set_off w4 R.b 1 (.int .i64 ((i : Int) + 1))
  generalize w4.setCell ⟨R.b, 1, none⟩ (.int .i64 ((i : Int) + 1)) = w5 at *
  have P5 := rd4.put (j := i + 1) (dp' := dp) (fp' := fp) (fy' := 0) o5 (by omega) s5
  have z5 := o5.size
  have O5 := O4.then o5
  have res5 := o5.heap res4 (by simp <;> omega)
  have l5 := o5.heap l4 (by simp <;> omega)
  clear c1 f1 s5 rd4 O4 res4 l4 o5
  go_wp2_with fail
  refine (hdn _ P5).mono ?_
  rintro e w6 ⟨rfl, P6, o6⟩
  have z6 := o6.size
  have O6 := O5.then o6
  have res6 := o6.heap res5 (by simp <;> omega)
  have l6 := o6.heap l5 (by simp <;> omega)
  clear P5 O5 res5 l5 hdn o6
  have hc := hU w6 (i + 1) fp (by omega) P6
  clear hU
  go_wp2_with fail
  refine hc.mono ?_
  rintro e w7 ⟨cs, rfl, V⟩
  have row := V.row
  have oV := V.heap
  have z7 := oV.size
  have O7 := O6.then oV
  have res7 := oV.heap res6 (by simp <;> omega)
  have l7 := oV.heap l6 (by simp <;> omega)
  obtain ⟨j, fq, fy, A⟩ := V.at
  have HA : Hid _ := A
  have R7 := A.rd
  clear A hc V O6 res6 P6 l6 oV
  go_upto_region 8 with (first | (refine wp_mk1 rfl _ rfl cs rfl row.1 ?_; intro w8 k8 b8 s8) | (refine wp_st rfl 27 _ _ rfl w2.heap.size 12 (.slice (some ⟨w7.heap.size, 0, none⟩) 1 1) rfl rfl (exA 6 x.p false 0 [] nl 0 false false false false nl nl) 29 (below_heap b8 l7) (by simp) inf27 rfl (exA 6 x.p false 0 [] nl 0 false false false false nl (.slice (some ⟨w7.heap.size, 0, none⟩) 1 1)) rfl ?_; intro w9 nd9 o9 z9))
  have z8 := b8.size
  have U9 := (Off.of b8 [w2.heap.size]).then o9
  have O9 := (O7.on b8).trans o9 (by simp <;> omega)
  have res9 := o9.heap (below_heap b8 res7) (by simp <;> omega)
  have k9 := o9.heap k8 (by simp <;> omega)
  have rd9 := (R7.later b8).off o9 (by simp <;> omega)
  have c2 := rd9.c2
  have f2 := rd9.fz 2
  have e1 : dp + 1 - 1 = dp := by omega
  clear O7 res7 l7 R7 k8
  go_upto_region 9 with fail
  have s10 := set_heap rd9.h 2 (.int .i64 dp)
  have o10 := set_off w9 R.b 2 (.int .i64 dp)
  generalize w9.setCell ⟨R.b, 2, none⟩ (.int .i64 dp) = w10 at *
  have P10 := rd9.put (j := j) (dp' := dp) (fp' := fq) (fy' := fy) o10 rd9.ib s10
  clear c2 f2 e1 s10
  have z10 := o10.size
  have O10 := O9.then o10
  have res10 := o10.heap res9 (by simp <;> omega)
  have nd10 := o10.heap nd9 (by simp <;> omega)
  have k10 := o10.heap k9 (by simp <;> omega)
  clear rd9 O9 res9 nd9 k9
  go_wp2_with (first | (refine wp_get rfl 29 _ rfl w2.heap.size (exA 6 x.p false 0 [] nl 0 false false false false nl (.slice (some ⟨w7.heap.size, 0, none⟩) 1 1)) 29 rfl nd10 _ Tryz.underlying29 rfl 13 inf29 rfl ?_) | (refine wp_put rfl 29 _ _ rfl w.heap.size (exA 6 x.p false 0 [] nl 0 false false false false nl (.slice (some ⟨w7.heap.size, 0, none⟩) 1 1)) rfl rfl _ 29 res10 13 inf29 rfl ⟨rfl, rfl⟩ ?_; intro we re oe ze))
  have P11 := P10.off oe (by simp <;> omega)
  have O11 := O10.trans oe (by simp <;> omega)
  have k11 := oe.heap k10 (by simp <;> omega)
  refine bodyPost_ret (res_cell Tryz.results66 _ _ w.heap.size 29 (exA 6 x.p false 0 [] nl 0 false false false false nl (.slice (some ⟨w7.heap.size, 0, none⟩) 1 1)) _ rfl re Tryz.underlying29 rfl 13 inf29 rfl) rfl ⟨exA 6 x.p false 0 [] nl 0 false false false false nl (.slice (some ⟨w7.heap.size, 0, none⟩) 1 1), rfl, ?_⟩
  cases hr : n (R.T.drop (i + 1)) with
  | inr y =>
   rw [hr] at HB
   rw [HB.out]
   obtain ⟨rfl, g2, g3, g4⟩ := HA.out.good y hr
   refine ⟨j, fq, g2, g3, P11, ?_, O11⟩
   have t9 := TrP.off U9 (by simp; omega) _ g4
   have t10 := TrP.off o10 (by simp; omega) _ t9
   have t11 := TrP.off oe (by simp; omega) _ t10
   exact Tr.kid1 (Sl.nil _ _ _) (Sl.nil _ _ _) k11 (by show _ ≤ _; omega) (TrP.mono (fun b hb => by show _ ≤ _; have : w6.heap.size ≤ b := hb; omega) _ t11)
  | inl er =>
   rw [hr] at HB
   rw [HB.out]
   obtain ⟨rfl, g2, g3⟩ := HA.out.bad er hr
   exact ⟨j, ⟨rfl, rfl⟩, by omega, g2, P11, O11⟩
end Go.Proofs.YteankdaegdhfiaaGreatDoor
