/- Texts that the others lean on. -/
import Derived.Test.YteankdaegdhfiaaGreatDoorKYPd3
namespace Go.Proofs.YteankdaegdhfiaaGreatDoor
open Go.RowKit
set_option maxHeartbeats 16000000 in
set_option maxRecDepth 20000 in
theorem rmatcher_old (R : Rc) {w : World} {i i1 i2 i3 : Nat} {dp fp fy : Int} (e1 : (i : Int) + 1 = (i1 : Int)) (e2 : (i1 : Int) + 1 = (i2 : Int)) (e3 : (i2 : Int) + 1 = (i3 : Int)) (hb : i3 ≤ R.n + 100) (hy : fy ≠ 0) (h : Pd R w i dp fp fy) :
  Calls Tryz.prog 219 #[R.ptr] w fun e w' => e = .returned (.agg (mA ⟨(hd R.q (R.T.drop i)).t, mkd (hd R.q (R.T.drop i1)).t, (hd R.q (R.T.drop i2)).t⟩)) ∧ Pd R w' i3 dp fp fy ∧ Off [R.b] w w' := by
 have hbl := h.bl
 have hnb := h.nb
 have hp0 := fun W fp fy (hW : Pd R W i dp fp fy) => peek0_any R hW
 have hp1 := fun W fp fy (hW : Pd R W i1 dp fp fy) => peek0_any R hW
 have hp2 := fun W fp fy (hW : Pd R W i2 dp fp fy) => peek0_any R hW
 have hf0 := fun W fp (hW : Pd R W i dp fp 0) => fail_new R 71 hW
 have hf1 := fun W fp (hW : Pd R W i1 dp fp 0) => fail_new R 71 hW
 have hf2 := fun W fp (hW : Pd R W i2 dp fp 0) => fail_new R 71 hW
 have hkd := fun W => rkind_any (hd R.q (R.T.drop i1)).t W
 generalize hd R.q (R.T.drop i) = x1 at *
 generalize hd R.q (R.T.drop i1) = x2 at *
 generalize hd R.q (R.T.drop i2) = x3 at *
 generalize mkd x2.t = kd at *
 have a1 : i1 ≤ R.n + 100 := by omega
 have a2 : i2 ≤ R.n + 100 := by omega
 have hy' : (fy == 0) = false := by rw [beq_eq_false_iff_ne]; exact hy
 clear hy
 go_enter Tryz.func219, Tryz.ntmps219
 have O0 := Off.refl [R.b] w
 have a_1 := bal (Below.refl (w).heap.size (w)) (.cells (mA ⟨[], 0, []⟩) 87)
 have zz_1 := size_le (w) (.cells (mA ⟨[], 0, []⟩) 87)
 have z_2 := a_1.size
 have rd_3 := h.later a_1
 have O_4 := O0.on a_1
 have res_n1 := heap_new (w) (.cells (mA ⟨[], 0, []⟩) 87)
 clear h O0 a_1
 go_wp2_with fail
 refine (hp0 _ _ _ rd_3).mono ?_
 rintro e w1 ⟨rfl, b1⟩
 have z_5 := b1.size
 have rd_6 := rd_3.later b1
 have O_7 := O_4.on b1
 have res_8 := below_heap b1 res_n1
 clear rd_3 O_4 res_n1
 have a_9 := bal (Below.refl (w1).heap.size (w1)) (.cells (tcs x1) 39)
 have zz_9 := size_le (w1) (.cells (tcs x1) 39)
 have z_10 := a_9.size
 have rd_11 := rd_6.later a_9
 have O_12 := O_7.on a_9
 have res_13 := below_heap a_9 res_8
 have k1_n9 := heap_new (w1) (.cells (tcs x1) 39)
 clear rd_6 O_7 res_8 a_9
 go_upto_region 2 with fail
 generalize w1.alloc (.cells (tcs x1) 39) = w2 at *
 have c3 := rd_11.c3
 have d0 := (cell_at k1_n9 0).trans rfl
 have c1 := rd_11.c1
 have f1 := rd_11.fz 1
 have s1 := set_heap rd_11.h 1 (.int .i64 i1)
 have o1 := set_off w2 R.b 1 (.int .i64 i1)
 have rdn := rd_11.put (j := i1) (dp' := dp) (fp' := fp) (fy' := fy) o1 a1 s1
 go_upto_region 5 with fail
 generalize w2.setCell ⟨R.b, 1, none⟩ (.int .i64 i1) = w3 at *
 have z_14 := o1.size
 have O_15 := O_12.trans o1 (by simp <;> omega)
 have res_16 := o1.heap res_13 (by simp <;> omega)
 have k1_17 := o1.heap k1_n9 (by simp <;> omega)
 clear c1 f1 s1
 clear rd_11 O_12 res_13 k1_n9
 clear o1
 have rd_w3 := rdn
 clear rdn
 clear c3 d0
 go_wp2_with fail
 refine (hp1 _ _ _ rd_w3).mono ?_
 rintro e w4 ⟨rfl, b1⟩
 have z_18 := b1.size
 have rd_19 := rd_w3.later b1
 have O_20 := O_15.on b1
 have res_21 := below_heap b1 res_16
 have k1_22 := below_heap b1 k1_17
 clear rd_w3 O_15 res_16 k1_17
 have a_23 := bal (Below.refl (w4).heap.size (w4)) (.cells (tcs x2) 39)
 have zz_23 := size_le (w4) (.cells (tcs x2) 39)
 have z_24 := a_23.size
 have rd_25 := rd_19.later a_23
 have O_26 := O_20.on a_23
 have res_27 := below_heap a_23 res_21
 have k1_28 := below_heap a_23 k1_22
 have k2_n23 := heap_new (w4) (.cells (tcs x2) 39)
 clear rd_19 O_20 res_21 k1_22 a_23
 go_upto_region 6 with fail
 generalize w4.alloc (.cells (tcs x2) 39) = w5 at *
 have c3 := rd_25.c3
 have d0 := (cell_at k2_n23 0).trans rfl
 have d2 := (cell_at k2_n23 2).trans rfl
 have c1 := rd_25.c1
 have f1 := rd_25.fz 1
 have s1 := set_heap rd_25.h 1 (.int .i64 i2)
 have o1 := set_off w5 R.b 1 (.int .i64 i2)
 have rdn := rd_25.put (j := i2) (dp' := dp) (fp' := fp) (fy' := fy) o1 a2 s1
 go_upto_region 9 with fail
 generalize w5.setCell ⟨R.b, 1, none⟩ (.int .i64 i2) = w6 at *
 have z_29 := o1.size
 have O_30 := O_26.trans o1 (by simp <;> omega)
 have res_31 := o1.heap res_27 (by simp <;> omega)
 have k1_32 := o1.heap k1_28 (by simp <;> omega)
 have k2_33 := o1.heap k2_n23 (by simp <;> omega)
 clear c1 f1 s1
 clear rd_25 O_26 res_27 k1_28 k2_n23
 clear o1
 have rd_w6 := rdn
 clear rdn
 clear c3 d0 d2
 go_wp2_with fail
 refine (hp2 _ _ _ rd_w6).mono ?_
 rintro e w7 ⟨rfl, b1⟩
 have z_34 := b1.size
 have rd_35 := rd_w6.later b1
 have O_36 := O_30.on b1
 have res_37 := below_heap b1 res_31
 have k1_38 := below_heap b1 k1_32
 have k2_39 := below_heap b1 k2_33
 clear rd_w6 O_30 res_31 k1_32 k2_33
 have a_40 := bal (Below.refl (w7).heap.size (w7)) (.cells (tcs x3) 39)
 have zz_40 := size_le (w7) (.cells (tcs x3) 39)
 have z_41 := a_40.size
 have rd_42 := rd_35.later a_40
 have O_43 := O_36.on a_40
 have res_44 := below_heap a_40 res_37
 have k1_45 := below_heap a_40 k1_38
 have k2_46 := below_heap a_40 k2_39
 have k3_n40 := heap_new (w7) (.cells (tcs x3) 39)
 clear rd_35 O_36 res_37 k1_38 k2_39 a_40
 go_upto_region 10 with fail
 generalize w7.alloc (.cells (tcs x3) 39) = w8 at *
 have c3 := rd_42.c3
 have d0 := (cell_at k3_n40 0).trans rfl
 have c1 := rd_42.c1
 have f1 := rd_42.fz 1
 have s1 := set_heap rd_42.h 1 (.int .i64 i3)
 have o1 := set_off w8 R.b 1 (.int .i64 i3)
 have rdn := rd_42.put (j := i3) (dp' := dp) (fp' := fp) (fy' := fy) o1 hb s1
 go_upto_region 13 with fail
 generalize w8.setCell ⟨R.b, 1, none⟩ (.int .i64 i3) = w9 at *
 have z_47 := o1.size
 have O_48 := O_43.trans o1 (by simp <;> omega)
 have res_49 := o1.heap res_44 (by simp <;> omega)
 have k1_50 := o1.heap k1_45 (by simp <;> omega)
 have k2_51 := o1.heap k2_46 (by simp <;> omega)
 have k3_52 := o1.heap k3_n40 (by simp <;> omega)
 clear c1 f1 s1
 clear rd_42 O_43 res_44 k1_45 k2_46 k3_n40
 clear o1
 have rd_w9 := rdn
 clear rdn
 clear c3 d0
 refine wp_region_noPanic ?_
 have zR := lt_of_heap res_49
 refine wp_region_held_drew (S := fun W => Off [w.heap.size] w9 W) (by kernel_rfl) ?_ (fun _ => ?_)
 ·
  exact Off.of (drew_below w9) _
 have C0 : Off [w.heap.size] w9 w9.drew := Off.of (drew_below w9) _
 have r3 := below_heap (drew_below w9) res_49
 generalize w9.drew = wd at *
 refine tk 0 75 (.pointer (some ⟨w1.heap.size, 2, none⟩)) rfl (fun W hSw => by go_simp) C0 ?_
 simp only [Act.put, pB, pC, pD]
 refine tk 1 76 (tx x1.t) rfl (fun W hSw => by (have hk := (cell_at (hSw.heap k1_50 (by simp <;> omega)) 2).trans rfl; go_simp)) C0 ?_
 simp only [Act.put, pB, pC, pD]
 refine tk 2 77 (.pointer (some ⟨w4.heap.size, 2, none⟩)) rfl (fun W hSw => by go_simp) C0 ?_
 simp only [Act.put, pB, pC, pD]
 refine tk 3 78 (tx x2.t) rfl (fun W hSw => by (have hk := (cell_at (hSw.heap k2_51 (by simp <;> omega)) 2).trans rfl; go_simp)) C0 ?_
 simp only [Act.put, pB, pC, pD]
 refine tk 5 80 (.pointer (some ⟨w7.heap.size, 2, none⟩)) rfl (fun W hSw => by go_simp) C0 ?_
 simp only [Act.put, pB, pC, pD]
 refine tk 6 81 (tx x3.t) rfl (fun W hSw => by (have hk := (cell_at (hSw.heap k3_52 (by simp <;> omega)) 2).trans rfl; go_simp)) C0 ?_
 simp only [Act.put, pB, pC, pD]
 refine wpAnyH_ready (rs := [4]) (by kernel_rfl) (by simp) ?_
 refine AllReadyH.cons rfl (fun K hK => ?_) AllReadyH.nil
 go_simp
 refine (hkd _).mono ?_
 rintro e we ⟨rfl, be⟩
 have C1 := C0.on be
 have r4 := below_heap be r3
 refine hK.out _ _ ?_ (fun _ => ?_)
 ·
  exact C1
 clear hK K
 refine tk 7 82 (.agg (mA ⟨x1.t, kd, x3.t⟩)) rfl (fun W hSw => by go_simp) C1 ?_
 simp only [Act.put, pB, pC, pD]
 refine wpAnyH_ready (rs := [8]) (by kernel_rfl) (by simp) ?_
 refine AllReadyH.cons rfl (fun K hK => ?_) AllReadyH.nil
 refine step_put 87 _ _ none rfl rfl (by rfl) w.heap.size (mA ⟨x1.t, kd, x3.t⟩) rfl rfl _ 87 r4 3 inf75 rfl ⟨rfl, rfl⟩ ?_
 intro wf qf of zf
 clear zf
 refine hK.out _ _ ?_ (fun _ => ?_)
 ·
  exact C1.then of
 clear hK K
 refine wpAnyH_done (by kernel_rfl) ?_ _
 refine NoPanic.normal ?_
 go_wp2_with fail
 have CF := C1.then of
 exact bodyPost_ret (res_cell Tryz.results219 _ _ w.heap.size 87 (mA ⟨x1.t, kd, x3.t⟩) _ rfl qf Tryz.underlying87 rfl 3 inf75 rfl) rfl ⟨rfl, rd_w9.off CF (by simp <;> omega), O_48.trans CF (by simp <;> omega)⟩
set_option maxHeartbeats 16000000 in
set_option maxRecDepth 20000 in
theorem rmatcher_f1 (R : Rc) {w : World} {i i1 i2 i3 : Nat} {dp fp : Int} (e1 : (i : Int) + 1 = (i1 : Int)) (e2 : (i1 : Int) + 1 = (i2 : Int)) (e3 : (i2 : Int) + 1 = (i3 : Int)) (hb : i3 ≤ R.n + 100) (h1 : (hd R.q (R.T.drop i)).k ≠ 1) (h : Pd R w i dp fp 0) :
  Calls Tryz.prog 219 #[R.ptr] w fun e w' => e = .returned (.agg (mA ⟨(hd R.q (R.T.drop i)).t, mkd (hd R.q (R.T.drop i1)).t, (hd R.q (R.T.drop i2)).t⟩)) ∧ Pd R w' i3 dp (hd R.q (R.T.drop i)).p 71 ∧ Off [R.b] w w' := by
 have hbl := h.bl
 have hnb := h.nb
 have hp0 := fun W fp fy (hW : Pd R W i dp fp fy) => peek0_any R hW
 have hp1 := fun W fp fy (hW : Pd R W i1 dp fp fy) => peek0_any R hW
 have hp2 := fun W fp fy (hW : Pd R W i2 dp fp fy) => peek0_any R hW
 have hf0 := fun W fp (hW : Pd R W i dp fp 0) => fail_new R 71 hW
 have hf1 := fun W fp (hW : Pd R W i1 dp fp 0) => fail_new R 71 hW
 have hf2 := fun W fp (hW : Pd R W i2 dp fp 0) => fail_new R 71 hW
 have hkd := fun W => rkind_any (hd R.q (R.T.drop i1)).t W
 generalize hd R.q (R.T.drop i) = x1 at *
 generalize hd R.q (R.T.drop i1) = x2 at *
 generalize hd R.q (R.T.drop i2) = x3 at *
 generalize mkd x2.t = kd at *
 have a1 : i1 ≤ R.n + 100 := by omega
 have a2 : i2 ≤ R.n + 100 := by omega
 have t1 : (x1.k != 1) = true := by rw [bne_iff_ne]; exact h1
 clear h1
 go_enter Tryz.func219, Tryz.ntmps219
 have O0 := Off.refl [R.b] w
 have a_1 := bal (Below.refl (w).heap.size (w)) (.cells (mA ⟨[], 0, []⟩) 87)
 have zz_1 := size_le (w) (.cells (mA ⟨[], 0, []⟩) 87)
 have z_2 := a_1.size
 have rd_3 := h.later a_1
 have O_4 := O0.on a_1
 have res_n1 := heap_new (w) (.cells (mA ⟨[], 0, []⟩) 87)
 clear h O0 a_1
 go_wp2_with fail
 refine (hp0 _ _ _ rd_3).mono ?_
 rintro e w1 ⟨rfl, b1⟩
 have z_5 := b1.size
 have rd_6 := rd_3.later b1
 have O_7 := O_4.on b1
 have res_8 := below_heap b1 res_n1
 clear rd_3 O_4 res_n1
 have a_9 := bal (Below.refl (w1).heap.size (w1)) (.cells (tcs x1) 39)
 have zz_9 := size_le (w1) (.cells (tcs x1) 39)
 have z_10 := a_9.size
 have rd_11 := rd_6.later a_9
 have O_12 := O_7.on a_9
 have res_13 := below_heap a_9 res_8
 have k1_n9 := heap_new (w1) (.cells (tcs x1) 39)
 clear rd_6 O_7 res_8 a_9
 go_upto_region 2 with fail
 generalize w1.alloc (.cells (tcs x1) 39) = w2 at *
 have c3 := rd_11.c3
 have d0 := (cell_at k1_n9 0).trans rfl
 go_wp2_with fail
 refine (hf0 _ _ rd_11).mono ?_
 rintro e w3 ⟨rfl, rfw3, ofw3⟩
 have z_14 := ofw3.size
 have O_15 := O_12.trans ofw3 (by simp <;> omega)
 have res_16 := ofw3.heap res_13 (by simp <;> omega)
 have k1_17 := ofw3.heap k1_n9 (by simp <;> omega)
 clear rd_11 O_12 res_13 k1_n9
 clear c3 d0
 have c1 := rfw3.c1
 have f1 := rfw3.fz 1
 have s1 := set_heap rfw3.h 1 (.int .i64 i1)
 have o1 := set_off w3 R.b 1 (.int .i64 i1)
 have rdn := rfw3.put (j := i1) (dp' := dp) (fp' := x1.p) (fy' := 71) o1 a1 s1
 go_upto_region 5 with fail
 generalize w3.setCell ⟨R.b, 1, none⟩ (.int .i64 i1) = w4 at *
 have z_18 := o1.size
 have O_19 := O_15.trans o1 (by simp <;> omega)
 have res_20 := o1.heap res_16 (by simp <;> omega)
 have k1_21 := o1.heap k1_17 (by simp <;> omega)
 clear c1 f1 s1
 clear rfw3 O_15 res_16 k1_17
 clear o1
 have rd_w4 := rdn
 clear rdn
 go_wp2_with fail
 refine (hp1 _ _ _ rd_w4).mono ?_
 rintro e w5 ⟨rfl, b1⟩
 have z_22 := b1.size
 have rd_23 := rd_w4.later b1
 have O_24 := O_19.on b1
 have res_25 := below_heap b1 res_20
 have k1_26 := below_heap b1 k1_21
 clear rd_w4 O_19 res_20 k1_21
 have a_27 := bal (Below.refl (w5).heap.size (w5)) (.cells (tcs x2) 39)
 have zz_27 := size_le (w5) (.cells (tcs x2) 39)
 have z_28 := a_27.size
 have rd_29 := rd_23.later a_27
 have O_30 := O_24.on a_27
 have res_31 := below_heap a_27 res_25
 have k1_32 := below_heap a_27 k1_26
 have k2_n27 := heap_new (w5) (.cells (tcs x2) 39)
 clear rd_23 O_24 res_25 k1_26 a_27
 go_upto_region 6 with fail
 generalize w5.alloc (.cells (tcs x2) 39) = w6 at *
 have c3 := rd_29.c3
 have d0 := (cell_at k2_n27 0).trans rfl
 have d2 := (cell_at k2_n27 2).trans rfl
 have c1 := rd_29.c1
 have f1 := rd_29.fz 1
 have s1 := set_heap rd_29.h 1 (.int .i64 i2)
 have o1 := set_off w6 R.b 1 (.int .i64 i2)
 have rdn := rd_29.put (j := i2) (dp' := dp) (fp' := x1.p) (fy' := 71) o1 a2 s1
 go_upto_region 9 with fail
 generalize w6.setCell ⟨R.b, 1, none⟩ (.int .i64 i2) = w7 at *
 have z_33 := o1.size
 have O_34 := O_30.trans o1 (by simp <;> omega)
 have res_35 := o1.heap res_31 (by simp <;> omega)
 have k1_36 := o1.heap k1_32 (by simp <;> omega)
 have k2_37 := o1.heap k2_n27 (by simp <;> omega)
 clear c1 f1 s1
 clear rd_29 O_30 res_31 k1_32 k2_n27
 clear o1
 have rd_w7 := rdn
 clear rdn
 clear c3 d0 d2
 go_wp2_with fail
 refine (hp2 _ _ _ rd_w7).mono ?_
 rintro e w8 ⟨rfl, b1⟩
 have z_38 := b1.size
 have rd_39 := rd_w7.later b1
 have O_40 := O_34.on b1
 have res_41 := below_heap b1 res_35
 have k1_42 := below_heap b1 k1_36
 have k2_43 := below_heap b1 k2_37
 clear rd_w7 O_34 res_35 k1_36 k2_37
 have a_44 := bal (Below.refl (w8).heap.size (w8)) (.cells (tcs x3) 39)
 have zz_44 := size_le (w8) (.cells (tcs x3) 39)
 have z_45 := a_44.size
 have rd_46 := rd_39.later a_44
 have O_47 := O_40.on a_44
 have res_48 := below_heap a_44 res_41
 have k1_49 := below_heap a_44 k1_42
 have k2_50 := below_heap a_44 k2_43
 have k3_n44 := heap_new (w8) (.cells (tcs x3) 39)
 clear rd_39 O_40 res_41 k1_42 k2_43 a_44
 go_upto_region 10 with fail
 generalize w8.alloc (.cells (tcs x3) 39) = w9 at *
 have c3 := rd_46.c3
 have d0 := (cell_at k3_n44 0).trans rfl
 have c1 := rd_46.c1
 have f1 := rd_46.fz 1
 have s1 := set_heap rd_46.h 1 (.int .i64 i3)
 have o1 := set_off w9 R.b 1 (.int .i64 i3)
 have rdn := rd_46.put (j := i3) (dp' := dp) (fp' := x1.p) (fy' := 71) o1 hb s1
 go_upto_region 13 with fail
 generalize w9.setCell ⟨R.b, 1, none⟩ (.int .i64 i3) = w10 at *
 have z_51 := o1.size
 have O_52 := O_47.trans o1 (by simp <;> omega)
 have res_53 := o1.heap res_48 (by simp <;> omega)
 have k1_54 := o1.heap k1_49 (by simp <;> omega)
 have k2_55 := o1.heap k2_50 (by simp <;> omega)
 have k3_56 := o1.heap k3_n44 (by simp <;> omega)
 clear c1 f1 s1
 clear rd_46 O_47 res_48 k1_49 k2_50 k3_n44
 clear o1
 have rd_w10 := rdn
 clear rdn
 clear c3 d0
 refine wp_region_noPanic ?_
 have zR := lt_of_heap res_53
 refine wp_region_held_drew (S := fun W => Off [w.heap.size] w10 W) (by kernel_rfl) ?_ (fun _ => ?_)
 ·
  exact Off.of (drew_below w10) _
 have C0 : Off [w.heap.size] w10 w10.drew := Off.of (drew_below w10) _
 have r3 := below_heap (drew_below w10) res_53
 generalize w10.drew = wd at *
 refine tk 0 75 (.pointer (some ⟨w1.heap.size, 2, none⟩)) rfl (fun W hSw => by go_simp) C0 ?_
 simp only [Act.put, pB, pC, pD]
 refine tk 1 76 (tx x1.t) rfl (fun W hSw => by (have hk := (cell_at (hSw.heap k1_54 (by simp <;> omega)) 2).trans rfl; go_simp)) C0 ?_
 simp only [Act.put, pB, pC, pD]
 refine tk 2 77 (.pointer (some ⟨w5.heap.size, 2, none⟩)) rfl (fun W hSw => by go_simp) C0 ?_
 simp only [Act.put, pB, pC, pD]
 refine tk 3 78 (tx x2.t) rfl (fun W hSw => by (have hk := (cell_at (hSw.heap k2_55 (by simp <;> omega)) 2).trans rfl; go_simp)) C0 ?_
 simp only [Act.put, pB, pC, pD]
 refine tk 5 80 (.pointer (some ⟨w8.heap.size, 2, none⟩)) rfl (fun W hSw => by go_simp) C0 ?_
 simp only [Act.put, pB, pC, pD]
 refine tk 6 81 (tx x3.t) rfl (fun W hSw => by (have hk := (cell_at (hSw.heap k3_56 (by simp <;> omega)) 2).trans rfl; go_simp)) C0 ?_
 simp only [Act.put, pB, pC, pD]
 refine wpAnyH_ready (rs := [4]) (by kernel_rfl) (by simp) ?_
 refine AllReadyH.cons rfl (fun K hK => ?_) AllReadyH.nil
 go_simp
 refine (hkd _).mono ?_
 rintro e we ⟨rfl, be⟩
 have C1 := C0.on be
 have r4 := below_heap be r3
 refine hK.out _ _ ?_ (fun _ => ?_)
 ·
  exact C1
 clear hK K
 refine tk 7 82 (.agg (mA ⟨x1.t, kd, x3.t⟩)) rfl (fun W hSw => by go_simp) C1 ?_
 simp only [Act.put, pB, pC, pD]
 refine wpAnyH_ready (rs := [8]) (by kernel_rfl) (by simp) ?_
 refine AllReadyH.cons rfl (fun K hK => ?_) AllReadyH.nil
 refine step_put 87 _ _ none rfl rfl (by rfl) w.heap.size (mA ⟨x1.t, kd, x3.t⟩) rfl rfl _ 87 r4 3 inf75 rfl ⟨rfl, rfl⟩ ?_
 intro wf qf of zf
 clear zf
 refine hK.out _ _ ?_ (fun _ => ?_)
 ·
  exact C1.then of
 clear hK K
 refine wpAnyH_done (by kernel_rfl) ?_ _
 refine NoPanic.normal ?_
 go_wp2_with fail
 have CF := C1.then of
 exact bodyPost_ret (res_cell Tryz.results219 _ _ w.heap.size 87 (mA ⟨x1.t, kd, x3.t⟩) _ rfl qf Tryz.underlying87 rfl 3 inf75 rfl) rfl ⟨rfl, rd_w10.off CF (by simp <;> omega), O_52.trans CF (by simp <;> omega)⟩
set_option maxHeartbeats 16000000 in
set_option maxRecDepth 20000 in
theorem rmatcher_f2a (R : Rc) {w : World} {i i1 i2 i3 : Nat} {dp fp : Int} (e1 : (i : Int) + 1 = (i1 : Int)) (e2 : (i1 : Int) + 1 = (i2 : Int)) (e3 : (i2 : Int) + 1 = (i3 : Int)) (hb : i3 ≤ R.n + 100) (h1 : (hd R.q (R.T.drop i)).k = 1) (h2 : (hd R.q (R.T.drop i1)).k ≠ 5) (h : Pd R w i dp fp 0) :
  Calls Tryz.prog 219 #[R.ptr] w fun e w' => e = .returned (.agg (mA ⟨(hd R.q (R.T.drop i)).t, mkd (hd R.q (R.T.drop i1)).t, (hd R.q (R.T.drop i2)).t⟩)) ∧ Pd R w' i3 dp (hd R.q (R.T.drop i1)).p 71 ∧ Off [R.b] w w' := by
 have hbl := h.bl
 have hnb := h.nb
 have hp0 := fun W fp fy (hW : Pd R W i dp fp fy) => peek0_any R hW
 have hp1 := fun W fp fy (hW : Pd R W i1 dp fp fy) => peek0_any R hW
 have hp2 := fun W fp fy (hW : Pd R W i2 dp fp fy) => peek0_any R hW
 have hf0 := fun W fp (hW : Pd R W i dp fp 0) => fail_new R 71 hW
 have hf1 := fun W fp (hW : Pd R W i1 dp fp 0) => fail_new R 71 hW
 have hf2 := fun W fp (hW : Pd R W i2 dp fp 0) => fail_new R 71 hW
 have hkd := fun W => rkind_any (hd R.q (R.T.drop i1)).t W
 generalize hd R.q (R.T.drop i) = x1 at *
 generalize hd R.q (R.T.drop i1) = x2 at *
 generalize hd R.q (R.T.drop i2) = x3 at *
 generalize mkd x2.t = kd at *
 have a1 : i1 ≤ R.n + 100 := by omega
 have a2 : i2 ≤ R.n + 100 := by omega
 have t1 : (x1.k != 1) = false := by rw [bne_eq_false_iff_eq]; exact h1
 have t2 : (x2.k != 5) = true := by rw [bne_iff_ne]; exact h2
 clear h1 h2
 go_enter Tryz.func219, Tryz.ntmps219
 have O0 := Off.refl [R.b] w
 have a_1 := bal (Below.refl (w).heap.size (w)) (.cells (mA ⟨[], 0, []⟩) 87)
 have zz_1 := size_le (w) (.cells (mA ⟨[], 0, []⟩) 87)
 have z_2 := a_1.size
 have rd_3 := h.later a_1
 have O_4 := O0.on a_1
 have res_n1 := heap_new (w) (.cells (mA ⟨[], 0, []⟩) 87)
 clear h O0 a_1
 go_wp2_with fail
 refine (hp0 _ _ _ rd_3).mono ?_
 rintro e w1 ⟨rfl, b1⟩
 have z_5 := b1.size
 have rd_6 := rd_3.later b1
 have O_7 := O_4.on b1
 have res_8 := below_heap b1 res_n1
 clear rd_3 O_4 res_n1
 have a_9 := bal (Below.refl (w1).heap.size (w1)) (.cells (tcs x1) 39)
 have zz_9 := size_le (w1) (.cells (tcs x1) 39)
 have z_10 := a_9.size
 have rd_11 := rd_6.later a_9
 have O_12 := O_7.on a_9
 have res_13 := below_heap a_9 res_8
 have k1_n9 := heap_new (w1) (.cells (tcs x1) 39)
 clear rd_6 O_7 res_8 a_9
 go_upto_region 2 with fail
 generalize w1.alloc (.cells (tcs x1) 39) = w2 at *
 have c3 := rd_11.c3
 have d0 := (cell_at k1_n9 0).trans rfl
 have c1 := rd_11.c1
 have f1 := rd_11.fz 1
 have s1 := set_heap rd_11.h 1 (.int .i64 i1)
 have o1 := set_off w2 R.b 1 (.int .i64 i1)
 have rdn := rd_11.put (j := i1) (dp' := dp) (fp' := fp) (fy' := 0) o1 a1 s1
 go_upto_region 5 with fail
 generalize w2.setCell ⟨R.b, 1, none⟩ (.int .i64 i1) = w3 at *
 have z_14 := o1.size
 have O_15 := O_12.trans o1 (by simp <;> omega)
 have res_16 := o1.heap res_13 (by simp <;> omega)
 have k1_17 := o1.heap k1_n9 (by simp <;> omega)
 clear c1 f1 s1
 clear rd_11 O_12 res_13 k1_n9
 clear o1
 have rd_w3 := rdn
 clear rdn
 clear c3 d0
 go_wp2_with fail
 refine (hp1 _ _ _ rd_w3).mono ?_
 rintro e w4 ⟨rfl, b1⟩
 have z_18 := b1.size
 have rd_19 := rd_w3.later b1
 have O_20 := O_15.on b1
 have res_21 := below_heap b1 res_16
 have k1_22 := below_heap b1 k1_17
 clear rd_w3 O_15 res_16 k1_17
 have a_23 := bal (Below.refl (w4).heap.size (w4)) (.cells (tcs x2) 39)
 have zz_23 := size_le (w4) (.cells (tcs x2) 39)
 have z_24 := a_23.size
 have rd_25 := rd_19.later a_23
 have O_26 := O_20.on a_23
 have res_27 := below_heap a_23 res_21
 have k1_28 := below_heap a_23 k1_22
 have k2_n23 := heap_new (w4) (.cells (tcs x2) 39)
 clear rd_19 O_20 res_21 k1_22 a_23
 go_upto_region 6 with fail
 generalize w4.alloc (.cells (tcs x2) 39) = w5 at *
 have c3 := rd_25.c3
 have d0 := (cell_at k2_n23 0).trans rfl
 have d2 := (cell_at k2_n23 2).trans rfl
 go_wp2_with fail
 refine (hf1 _ _ rd_25).mono ?_
 rintro e w6 ⟨rfl, rfw6, ofw6⟩
 have z_29 := ofw6.size
 have O_30 := O_26.trans ofw6 (by simp <;> omega)
 have res_31 := ofw6.heap res_27 (by simp <;> omega)
 have k1_32 := ofw6.heap k1_28 (by simp <;> omega)
 have k2_33 := ofw6.heap k2_n23 (by simp <;> omega)
 clear rd_25 O_26 res_27 k1_28 k2_n23
 clear c3 d0 d2
 have c1 := rfw6.c1
 have f1 := rfw6.fz 1
 have s1 := set_heap rfw6.h 1 (.int .i64 i2)
 have o1 := set_off w6 R.b 1 (.int .i64 i2)
 have rdn := rfw6.put (j := i2) (dp' := dp) (fp' := x2.p) (fy' := 71) o1 a2 s1
 go_upto_region 9 with fail
 generalize w6.setCell ⟨R.b, 1, none⟩ (.int .i64 i2) = w7 at *
 have z_34 := o1.size
 have O_35 := O_30.trans o1 (by simp <;> omega)
 have res_36 := o1.heap res_31 (by simp <;> omega)
 have k1_37 := o1.heap k1_32 (by simp <;> omega)
 have k2_38 := o1.heap k2_33 (by simp <;> omega)
 clear c1 f1 s1
 clear rfw6 O_30 res_31 k1_32 k2_33
 clear o1
 have rd_w7 := rdn
 clear rdn
 go_wp2_with fail
 refine (hp2 _ _ _ rd_w7).mono ?_
 rintro e w8 ⟨rfl, b1⟩
 have z_39 := b1.size
 have rd_40 := rd_w7.later b1
 have O_41 := O_35.on b1
 have res_42 := below_heap b1 res_36
 have k1_43 := below_heap b1 k1_37
 have k2_44 := below_heap b1 k2_38
 clear rd_w7 O_35 res_36 k1_37 k2_38
 have a_45 := bal (Below.refl (w8).heap.size (w8)) (.cells (tcs x3) 39)
 have zz_45 := size_le (w8) (.cells (tcs x3) 39)
 have z_46 := a_45.size
 have rd_47 := rd_40.later a_45
 have O_48 := O_41.on a_45
 have res_49 := below_heap a_45 res_42
 have k1_50 := below_heap a_45 k1_43
 have k2_51 := below_heap a_45 k2_44
 have k3_n45 := heap_new (w8) (.cells (tcs x3) 39)
 clear rd_40 O_41 res_42 k1_43 k2_44 a_45
 go_upto_region 10 with fail
 generalize w8.alloc (.cells (tcs x3) 39) = w9 at *
 have c3 := rd_47.c3
 have d0 := (cell_at k3_n45 0).trans rfl
 have c1 := rd_47.c1
 have f1 := rd_47.fz 1
 have s1 := set_heap rd_47.h 1 (.int .i64 i3)
 have o1 := set_off w9 R.b 1 (.int .i64 i3)
 have rdn := rd_47.put (j := i3) (dp' := dp) (fp' := x2.p) (fy' := 71) o1 hb s1
 go_upto_region 13 with fail
 generalize w9.setCell ⟨R.b, 1, none⟩ (.int .i64 i3) = w10 at *
 have z_52 := o1.size
 have O_53 := O_48.trans o1 (by simp <;> omega)
 have res_54 := o1.heap res_49 (by simp <;> omega)
 have k1_55 := o1.heap k1_50 (by simp <;> omega)
 have k2_56 := o1.heap k2_51 (by simp <;> omega)
 have k3_57 := o1.heap k3_n45 (by simp <;> omega)
 clear c1 f1 s1
 clear rd_47 O_48 res_49 k1_50 k2_51 k3_n45
 clear o1
 have rd_w10 := rdn
 clear rdn
 clear c3 d0
 refine wp_region_noPanic ?_
 have zR := lt_of_heap res_54
 refine wp_region_held_drew (S := fun W => Off [w.heap.size] w10 W) (by kernel_rfl) ?_ (fun _ => ?_)
 ·
  exact Off.of (drew_below w10) _
 have C0 : Off [w.heap.size] w10 w10.drew := Off.of (drew_below w10) _
 have r3 := below_heap (drew_below w10) res_54
 generalize w10.drew = wd at *
 refine tk 0 75 (.pointer (some ⟨w1.heap.size, 2, none⟩)) rfl (fun W hSw => by go_simp) C0 ?_
 simp only [Act.put, pB, pC, pD]
 refine tk 1 76 (tx x1.t) rfl (fun W hSw => by (have hk := (cell_at (hSw.heap k1_55 (by simp <;> omega)) 2).trans rfl; go_simp)) C0 ?_
 simp only [Act.put, pB, pC, pD]
 refine tk 2 77 (.pointer (some ⟨w4.heap.size, 2, none⟩)) rfl (fun W hSw => by go_simp) C0 ?_
 simp only [Act.put, pB, pC, pD]
 refine tk 3 78 (tx x2.t) rfl (fun W hSw => by (have hk := (cell_at (hSw.heap k2_56 (by simp <;> omega)) 2).trans rfl; go_simp)) C0 ?_
 simp only [Act.put, pB, pC, pD]
 refine tk 5 80 (.pointer (some ⟨w8.heap.size, 2, none⟩)) rfl (fun W hSw => by go_simp) C0 ?_
 simp only [Act.put, pB, pC, pD]
 refine tk 6 81 (tx x3.t) rfl (fun W hSw => by (have hk := (cell_at (hSw.heap k3_57 (by simp <;> omega)) 2).trans rfl; go_simp)) C0 ?_
 simp only [Act.put, pB, pC, pD]
 refine wpAnyH_ready (rs := [4]) (by kernel_rfl) (by simp) ?_
 refine AllReadyH.cons rfl (fun K hK => ?_) AllReadyH.nil
 go_simp
 refine (hkd _).mono ?_
 rintro e we ⟨rfl, be⟩
 have C1 := C0.on be
 have r4 := below_heap be r3
 refine hK.out _ _ ?_ (fun _ => ?_)
 ·
  exact C1
 clear hK K
 refine tk 7 82 (.agg (mA ⟨x1.t, kd, x3.t⟩)) rfl (fun W hSw => by go_simp) C1 ?_
 simp only [Act.put, pB, pC, pD]
 refine wpAnyH_ready (rs := [8]) (by kernel_rfl) (by simp) ?_
 refine AllReadyH.cons rfl (fun K hK => ?_) AllReadyH.nil
 refine step_put 87 _ _ none rfl rfl (by rfl) w.heap.size (mA ⟨x1.t, kd, x3.t⟩) rfl rfl _ 87 r4 3 inf75 rfl ⟨rfl, rfl⟩ ?_
 intro wf qf of zf
 clear zf
 refine hK.out _ _ ?_ (fun _ => ?_)
 ·
  exact C1.then of
 clear hK K
 refine wpAnyH_done (by kernel_rfl) ?_ _
 refine NoPanic.normal ?_
 go_wp2_with fail
 have CF := C1.then of
 exact bodyPost_ret (res_cell Tryz.results219 _ _ w.heap.size 87 (mA ⟨x1.t, kd, x3.t⟩) _ rfl qf Tryz.underlying87 rfl 3 inf75 rfl) rfl ⟨rfl, rd_w10.off CF (by simp <;> omega), O_53.trans CF (by simp <;> omega)⟩
set_option maxHeartbeats 16000000 in
set_option maxRecDepth 20000 in
theorem rmatcher_f2b (R : Rc) {w : World} {i i1 i2 i3 : Nat} {dp fp : Int} (e1 : (i : Int) + 1 = (i1 : Int)) (e2 : (i1 : Int) + 1 = (i2 : Int)) (e3 : (i2 : Int) + 1 = (i3 : Int)) (hb : i3 ≤ R.n + 100) (h1 : (hd R.q (R.T.drop i)).k = 1) (h2 : (hd R.q (R.T.drop i1)).k = 5) (h3 : mkd (hd R.q (R.T.drop i1)).t = 0) (h : Pd R w i dp fp 0) :
  Calls Tryz.prog 219 #[R.ptr] w fun e w' => e = .returned (.agg (mA ⟨(hd R.q (R.T.drop i)).t, mkd (hd R.q (R.T.drop i1)).t, (hd R.q (R.T.drop i2)).t⟩)) ∧ Pd R w' i3 dp (hd R.q (R.T.drop i1)).p 71 ∧ Off [R.b] w w' := by
 have hbl := h.bl
 have hnb := h.nb
 have hp0 := fun W fp fy (hW : Pd R W i dp fp fy) => peek0_any R hW
 have hp1 := fun W fp fy (hW : Pd R W i1 dp fp fy) => peek0_any R hW
 have hp2 := fun W fp fy (hW : Pd R W i2 dp fp fy) => peek0_any R hW
 have hf0 := fun W fp (hW : Pd R W i dp fp 0) => fail_new R 71 hW
 have hf1 := fun W fp (hW : Pd R W i1 dp fp 0) => fail_new R 71 hW
 have hf2 := fun W fp (hW : Pd R W i2 dp fp 0) => fail_new R 71 hW
 have hkd := fun W => rkind_any (hd R.q (R.T.drop i1)).t W
 generalize hd R.q (R.T.drop i) = x1 at *
 generalize hd R.q (R.T.drop i1) = x2 at *
 generalize hd R.q (R.T.drop i2) = x3 at *
 generalize mkd x2.t = kd at *
 have a1 : i1 ≤ R.n + 100 := by omega
 have a2 : i2 ≤ R.n + 100 := by omega
 have t1 : (x1.k != 1) = false := by rw [bne_eq_false_iff_eq]; exact h1
 have t2 : (x2.k != 5) = false := by rw [bne_eq_false_iff_eq]; exact h2
 have t3 : (kd == 0) = true := by rw [beq_iff_eq]; exact h3
 clear h1 h2 h3
 go_enter Tryz.func219, Tryz.ntmps219
 have O0 := Off.refl [R.b] w
 have a_1 := bal (Below.refl (w).heap.size (w)) (.cells (mA ⟨[], 0, []⟩) 87)
 have zz_1 := size_le (w) (.cells (mA ⟨[], 0, []⟩) 87)
 have z_2 := a_1.size
 have rd_3 := h.later a_1
 have O_4 := O0.on a_1
 have res_n1 := heap_new (w) (.cells (mA ⟨[], 0, []⟩) 87)
 clear h O0 a_1
 go_wp2_with fail
 refine (hp0 _ _ _ rd_3).mono ?_
 rintro e w1 ⟨rfl, b1⟩
 have z_5 := b1.size
 have rd_6 := rd_3.later b1
 have O_7 := O_4.on b1
 have res_8 := below_heap b1 res_n1
 clear rd_3 O_4 res_n1
 have a_9 := bal (Below.refl (w1).heap.size (w1)) (.cells (tcs x1) 39)
 have zz_9 := size_le (w1) (.cells (tcs x1) 39)
 have z_10 := a_9.size
 have rd_11 := rd_6.later a_9
 have O_12 := O_7.on a_9
 have res_13 := below_heap a_9 res_8
 have k1_n9 := heap_new (w1) (.cells (tcs x1) 39)
 clear rd_6 O_7 res_8 a_9
 go_upto_region 2 with fail
 generalize w1.alloc (.cells (tcs x1) 39) = w2 at *
 have c3 := rd_11.c3
 have d0 := (cell_at k1_n9 0).trans rfl
 have c1 := rd_11.c1
 have f1 := rd_11.fz 1
 have s1 := set_heap rd_11.h 1 (.int .i64 i1)
 have o1 := set_off w2 R.b 1 (.int .i64 i1)
 have rdn := rd_11.put (j := i1) (dp' := dp) (fp' := fp) (fy' := 0) o1 a1 s1
 go_upto_region 5 with fail
 generalize w2.setCell ⟨R.b, 1, none⟩ (.int .i64 i1) = w3 at *
 have z_14 := o1.size
 have O_15 := O_12.trans o1 (by simp <;> omega)
 have res_16 := o1.heap res_13 (by simp <;> omega)
 have k1_17 := o1.heap k1_n9 (by simp <;> omega)
 clear c1 f1 s1
 clear rd_11 O_12 res_13 k1_n9
 clear o1
 have rd_w3 := rdn
 clear rdn
 clear c3 d0
 go_wp2_with fail
 refine (hp1 _ _ _ rd_w3).mono ?_
 rintro e w4 ⟨rfl, b1⟩
 have z_18 := b1.size
 have rd_19 := rd_w3.later b1
 have O_20 := O_15.on b1
 have res_21 := below_heap b1 res_16
 have k1_22 := below_heap b1 k1_17
 clear rd_w3 O_15 res_16 k1_17
 have a_23 := bal (Below.refl (w4).heap.size (w4)) (.cells (tcs x2) 39)
 have zz_23 := size_le (w4) (.cells (tcs x2) 39)
 have z_24 := a_23.size
 have rd_25 := rd_19.later a_23
 have O_26 := O_20.on a_23
 have res_27 := below_heap a_23 res_21
 have k1_28 := below_heap a_23 k1_22
 have k2_n23 := heap_new (w4) (.cells (tcs x2) 39)
 clear rd_19 O_20 res_21 k1_22 a_23
 go_upto_region 6 with fail
 generalize w4.alloc (.cells (tcs x2) 39) = w5 at *
 have c3 := rd_25.c3
 have d0 := (cell_at k2_n23 0).trans rfl
 have d2 := (cell_at k2_n23 2).trans rfl
 go_wp2_with fail
 refine (hkd _).mono ?_
 rintro e w6 ⟨rfl, b1⟩
 clear c3 d0 d2
 have z_29 := b1.size
 have rd_30 := rd_25.later b1
 have O_31 := O_26.on b1
 have res_32 := below_heap b1 res_27
 have k1_33 := below_heap b1 k1_28
 have k2_34 := below_heap b1 k2_n23
 clear rd_25 O_26 res_27 k1_28 k2_n23
 go_wp2_with fail
 refine (hf1 _ _ rd_30).mono ?_
 rintro e w7 ⟨rfl, rfw7, ofw7⟩
 have z_35 := ofw7.size
 have O_36 := O_31.trans ofw7 (by simp <;> omega)
 have res_37 := ofw7.heap res_32 (by simp <;> omega)
 have k1_38 := ofw7.heap k1_33 (by simp <;> omega)
 have k2_39 := ofw7.heap k2_34 (by simp <;> omega)
 clear rd_30 O_31 res_32 k1_33 k2_34
 have c1 := rfw7.c1
 have f1 := rfw7.fz 1
 have s1 := set_heap rfw7.h 1 (.int .i64 i2)
 have o1 := set_off w7 R.b 1 (.int .i64 i2)
 have rdn := rfw7.put (j := i2) (dp' := dp) (fp' := x2.p) (fy' := 71) o1 a2 s1
 go_upto_region 9 with fail
 generalize w7.setCell ⟨R.b, 1, none⟩ (.int .i64 i2) = w8 at *
 have z_40 := o1.size
 have O_41 := O_36.trans o1 (by simp <;> omega)
 have res_42 := o1.heap res_37 (by simp <;> omega)
 have k1_43 := o1.heap k1_38 (by simp <;> omega)
 have k2_44 := o1.heap k2_39 (by simp <;> omega)
 clear c1 f1 s1
 clear rfw7 O_36 res_37 k1_38 k2_39
 clear o1
 have rd_w8 := rdn
 clear rdn
 go_wp2_with fail
 refine (hp2 _ _ _ rd_w8).mono ?_
 rintro e w9 ⟨rfl, b1⟩
 have z_45 := b1.size
 have rd_46 := rd_w8.later b1
 have O_47 := O_41.on b1
 have res_48 := below_heap b1 res_42
 have k1_49 := below_heap b1 k1_43
 have k2_50 := below_heap b1 k2_44
 clear rd_w8 O_41 res_42 k1_43 k2_44
 have a_51 := bal (Below.refl (w9).heap.size (w9)) (.cells (tcs x3) 39)
 have zz_51 := size_le (w9) (.cells (tcs x3) 39)
 have z_52 := a_51.size
 have rd_53 := rd_46.later a_51
 have O_54 := O_47.on a_51
 have res_55 := below_heap a_51 res_48
 have k1_56 := below_heap a_51 k1_49
 have k2_57 := below_heap a_51 k2_50
 have k3_n51 := heap_new (w9) (.cells (tcs x3) 39)
 clear rd_46 O_47 res_48 k1_49 k2_50 a_51
 go_upto_region 10 with fail
 generalize w9.alloc (.cells (tcs x3) 39) = w10 at *
 have c3 := rd_53.c3
 have d0 := (cell_at k3_n51 0).trans rfl
 have c1 := rd_53.c1
 have f1 := rd_53.fz 1
 have s1 := set_heap rd_53.h 1 (.int .i64 i3)
 have o1 := set_off w10 R.b 1 (.int .i64 i3)
 have rdn := rd_53.put (j := i3) (dp' := dp) (fp' := x2.p) (fy' := 71) o1 hb s1
 go_upto_region 13 with fail
 generalize w10.setCell ⟨R.b, 1, none⟩ (.int .i64 i3) = w11 at *
 have z_58 := o1.size
 have O_59 := O_54.trans o1 (by simp <;> omega)
 have res_60 := o1.heap res_55 (by simp <;> omega)
 have k1_61 := o1.heap k1_56 (by simp <;> omega)
 have k2_62 := o1.heap k2_57 (by simp <;> omega)
 have k3_63 := o1.heap k3_n51 (by simp <;> omega)
 clear c1 f1 s1
 clear rd_53 O_54 res_55 k1_56 k2_57 k3_n51
 clear o1
 have rd_w11 := rdn
 clear rdn
 clear c3 d0
 refine wp_region_noPanic ?_
 have zR := lt_of_heap res_60
 refine wp_region_held_drew (S := fun W => Off [w.heap.size] w11 W) (by kernel_rfl) ?_ (fun _ => ?_)
 ·
  exact Off.of (drew_below w11) _
 have C0 : Off [w.heap.size] w11 w11.drew := Off.of (drew_below w11) _
 have r3 := below_heap (drew_below w11) res_60
 generalize w11.drew = wd at *
 refine tk 0 75 (.pointer (some ⟨w1.heap.size, 2, none⟩)) rfl (fun W hSw => by go_simp) C0 ?_
 simp only [Act.put, pB, pC, pD]
 refine tk 1 76 (tx x1.t) rfl (fun W hSw => by (have hk := (cell_at (hSw.heap k1_61 (by simp <;> omega)) 2).trans rfl; go_simp)) C0 ?_
 simp only [Act.put, pB, pC, pD]
 refine tk 2 77 (.pointer (some ⟨w4.heap.size, 2, none⟩)) rfl (fun W hSw => by go_simp) C0 ?_
 simp only [Act.put, pB, pC, pD]
 refine tk 3 78 (tx x2.t) rfl (fun W hSw => by (have hk := (cell_at (hSw.heap k2_62 (by simp <;> omega)) 2).trans rfl; go_simp)) C0 ?_
 simp only [Act.put, pB, pC, pD]
 refine tk 5 80 (.pointer (some ⟨w9.heap.size, 2, none⟩)) rfl (fun W hSw => by go_simp) C0 ?_
 simp only [Act.put, pB, pC, pD]
 refine tk 6 81 (tx x3.t) rfl (fun W hSw => by (have hk := (cell_at (hSw.heap k3_63 (by simp <;> omega)) 2).trans rfl; go_simp)) C0 ?_
 simp only [Act.put, pB, pC, pD]
 refine wpAnyH_ready (rs := [4]) (by kernel_rfl) (by simp) ?_
 refine AllReadyH.cons rfl (fun K hK => ?_) AllReadyH.nil
 go_simp
 refine (hkd _).mono ?_
 rintro e we ⟨rfl, be⟩
 have C1 := C0.on be
 have r4 := below_heap be r3
 refine hK.out _ _ ?_ (fun _ => ?_)
 ·
  exact C1
 clear hK K
 refine tk 7 82 (.agg (mA ⟨x1.t, kd, x3.t⟩)) rfl (fun W hSw => by go_simp) C1 ?_
 simp only [Act.put, pB, pC, pD]
 refine wpAnyH_ready (rs := [8]) (by kernel_rfl) (by simp) ?_
 refine AllReadyH.cons rfl (fun K hK => ?_) AllReadyH.nil
 refine step_put 87 _ _ none rfl rfl (by rfl) w.heap.size (mA ⟨x1.t, kd, x3.t⟩) rfl rfl _ 87 r4 3 inf75 rfl ⟨rfl, rfl⟩ ?_
 intro wf qf of zf
 clear zf
 refine hK.out _ _ ?_ (fun _ => ?_)
 ·
  exact C1.then of
 clear hK K
 refine wpAnyH_done (by kernel_rfl) ?_ _
 refine NoPanic.normal ?_
 go_wp2_with fail
 have CF := C1.then of
 exact bodyPost_ret (res_cell Tryz.results219 _ _ w.heap.size 87 (mA ⟨x1.t, kd, x3.t⟩) _ rfl qf Tryz.underlying87 rfl 3 inf75 rfl) rfl ⟨rfl, rd_w11.off CF (by simp <;> omega), O_59.trans CF (by simp <;> omega)⟩
set_option maxHeartbeats 16000000 in
set_option maxRecDepth 20000 in
theorem rmatcher_f3 (R : Rc) {w : World} {i i1 i2 i3 : Nat} {dp fp : Int} (e1 : (i : Int) + 1 = (i1 : Int)) (e2 : (i1 : Int) + 1 = (i2 : Int)) (e3 : (i2 : Int) + 1 = (i3 : Int)) (hb : i3 ≤ R.n + 100) (h1 : (hd R.q (R.T.drop i)).k = 1) (h2 : (hd R.q (R.T.drop i1)).k = 5) (h3 : mkd (hd R.q (R.T.drop i1)).t ≠ 0) (h4 : (hd R.q (R.T.drop i2)).k ≠ 4) (h : Pd R w i dp fp 0) :
  Calls Tryz.prog 219 #[R.ptr] w fun e w' => e = .returned (.agg (mA ⟨(hd R.q (R.T.drop i)).t, mkd (hd R.q (R.T.drop i1)).t, (hd R.q (R.T.drop i2)).t⟩)) ∧ Pd R w' i3 dp (hd R.q (R.T.drop i2)).p 71 ∧ Off [R.b] w w' := by
 have hbl := h.bl
 have hnb := h.nb
 have hp0 := fun W fp fy (hW : Pd R W i dp fp fy) => peek0_any R hW
 have hp1 := fun W fp fy (hW : Pd R W i1 dp fp fy) => peek0_any R hW
 have hp2 := fun W fp fy (hW : Pd R W i2 dp fp fy) => peek0_any R hW
 have hf0 := fun W fp (hW : Pd R W i dp fp 0) => fail_new R 71 hW
 have hf1 := fun W fp (hW : Pd R W i1 dp fp 0) => fail_new R 71 hW
 have hf2 := fun W fp (hW : Pd R W i2 dp fp 0) => fail_new R 71 hW
 have hkd := fun W => rkind_any (hd R.q (R.T.drop i1)).t W
 generalize hd R.q (R.T.drop i) = x1 at *
 generalize hd R.q (R.T.drop i1) = x2 at *
 generalize hd R.q (R.T.drop i2) = x3 at *
 generalize mkd x2.t = kd at *
 have a1 : i1 ≤ R.n + 100 := by omega
 have a2 : i2 ≤ R.n + 100 := by omega
 have t1 : (x1.k != 1) = false := by rw [bne_eq_false_iff_eq]; exact h1
 have t2 : (x2.k != 5) = false := by rw [bne_eq_false_iff_eq]; exact h2
 have t3 : (kd == 0) = false := by rw [beq_eq_false_iff_ne]; exact h3
 have t4 : (x3.k != 4) = true := by rw [bne_iff_ne]; exact h4
 clear h1 h2 h3 h4
 go_enter Tryz.func219, Tryz.ntmps219
 have O0 := Off.refl [R.b] w
 have a_1 := bal (Below.refl (w).heap.size (w)) (.cells (mA ⟨[], 0, []⟩) 87)
 have zz_1 := size_le (w) (.cells (mA ⟨[], 0, []⟩) 87)
 have z_2 := a_1.size
 have rd_3 := h.later a_1
 have O_4 := O0.on a_1
 have res_n1 := heap_new (w) (.cells (mA ⟨[], 0, []⟩) 87)
 clear h O0 a_1
 go_wp2_with fail
 refine (hp0 _ _ _ rd_3).mono ?_
 rintro e w1 ⟨rfl, b1⟩
 have z_5 := b1.size
 have rd_6 := rd_3.later b1
 have O_7 := O_4.on b1
 have res_8 := below_heap b1 res_n1
 clear rd_3 O_4 res_n1
 have a_9 := bal (Below.refl (w1).heap.size (w1)) (.cells (tcs x1) 39)
 have zz_9 := size_le (w1) (.cells (tcs x1) 39)
 have z_10 := a_9.size
 have rd_11 := rd_6.later a_9
 have O_12 := O_7.on a_9
 have res_13 := below_heap a_9 res_8
 have k1_n9 := heap_new (w1) (.cells (tcs x1) 39)
 clear rd_6 O_7 res_8 a_9
 go_upto_region 2 with fail
 generalize w1.alloc (.cells (tcs x1) 39) = w2 at *
 have c3 := rd_11.c3
 have d0 := (cell_at k1_n9 0).trans rfl
 have c1 := rd_11.c1
 have f1 := rd_11.fz 1
 have s1 := set_heap rd_11.h 1 (.int .i64 i1)
 have o1 := set_off w2 R.b 1 (.int .i64 i1)
 have rdn := rd_11.put (j := i1) (dp' := dp) (fp' := fp) (fy' := 0) o1 a1 s1
 go_upto_region 5 with fail
 generalize w2.setCell ⟨R.b, 1, none⟩ (.int .i64 i1) = w3 at *
 have z_14 := o1.size
 have O_15 := O_12.trans o1 (by simp <;> omega)
 have res_16 := o1.heap res_13 (by simp <;> omega)
 have k1_17 := o1.heap k1_n9 (by simp <;> omega)
 clear c1 f1 s1
 clear rd_11 O_12 res_13 k1_n9
 clear o1
 have rd_w3 := rdn
 clear rdn
 clear c3 d0
 go_wp2_with fail
 refine (hp1 _ _ _ rd_w3).mono ?_
 rintro e w4 ⟨rfl, b1⟩
 have z_18 := b1.size
 have rd_19 := rd_w3.later b1
 have O_20 := O_15.on b1
 have res_21 := below_heap b1 res_16
 have k1_22 := below_heap b1 k1_17
 clear rd_w3 O_15 res_16 k1_17
 have a_23 := bal (Below.refl (w4).heap.size (w4)) (.cells (tcs x2) 39)
 have zz_23 := size_le (w4) (.cells (tcs x2) 39)
 have z_24 := a_23.size
 have rd_25 := rd_19.later a_23
 have O_26 := O_20.on a_23
 have res_27 := below_heap a_23 res_21
 have k1_28 := below_heap a_23 k1_22
 have k2_n23 := heap_new (w4) (.cells (tcs x2) 39)
 clear rd_19 O_20 res_21 k1_22 a_23
 go_upto_region 6 with fail
 generalize w4.alloc (.cells (tcs x2) 39) = w5 at *
 have c3 := rd_25.c3
 have d0 := (cell_at k2_n23 0).trans rfl
 have d2 := (cell_at k2_n23 2).trans rfl
 go_wp2_with fail
 refine (hkd _).mono ?_
 rintro e w6 ⟨rfl, b1⟩
 clear c3 d0 d2
 have z_29 := b1.size
 have rd_30 := rd_25.later b1
 have O_31 := O_26.on b1
 have res_32 := below_heap b1 res_27
 have k1_33 := below_heap b1 k1_28
 have k2_34 := below_heap b1 k2_n23
 clear rd_25 O_26 res_27 k1_28 k2_n23
 have c1 := rd_30.c1
 have f1 := rd_30.fz 1
 have s1 := set_heap rd_30.h 1 (.int .i64 i2)
 have o1 := set_off w6 R.b 1 (.int .i64 i2)
 have rdn := rd_30.put (j := i2) (dp' := dp) (fp' := fp) (fy' := 0) o1 a2 s1
 go_upto_region 9 with fail
 generalize w6.setCell ⟨R.b, 1, none⟩ (.int .i64 i2) = w7 at *
 have z_35 := o1.size
 have O_36 := O_31.trans o1 (by simp <;> omega)
 have res_37 := o1.heap res_32 (by simp <;> omega)
 have k1_38 := o1.heap k1_33 (by simp <;> omega)
 have k2_39 := o1.heap k2_34 (by simp <;> omega)
 clear c1 f1 s1
 clear rd_30 O_31 res_32 k1_33 k2_34
 clear o1
 have rd_w7 := rdn
 clear rdn
 go_wp2_with fail
 refine (hp2 _ _ _ rd_w7).mono ?_
 rintro e w8 ⟨rfl, b1⟩
 have z_40 := b1.size
 have rd_41 := rd_w7.later b1
 have O_42 := O_36.on b1
 have res_43 := below_heap b1 res_37
 have k1_44 := below_heap b1 k1_38
 have k2_45 := below_heap b1 k2_39
 clear rd_w7 O_36 res_37 k1_38 k2_39
 have a_46 := bal (Below.refl (w8).heap.size (w8)) (.cells (tcs x3) 39)
 have zz_46 := size_le (w8) (.cells (tcs x3) 39)
 have z_47 := a_46.size
 have rd_48 := rd_41.later a_46
 have O_49 := O_42.on a_46
 have res_50 := below_heap a_46 res_43
 have k1_51 := below_heap a_46 k1_44
 have k2_52 := below_heap a_46 k2_45
 have k3_n46 := heap_new (w8) (.cells (tcs x3) 39)
 clear rd_41 O_42 res_43 k1_44 k2_45 a_46
 go_upto_region 10 with fail
 generalize w8.alloc (.cells (tcs x3) 39) = w9 at *
 have c3 := rd_48.c3
 have d0 := (cell_at k3_n46 0).trans rfl
 go_wp2_with fail
 refine (hf2 _ _ rd_48).mono ?_
 rintro e w10 ⟨rfl, rfw10, ofw10⟩
 have z_53 := ofw10.size
 have O_54 := O_49.trans ofw10 (by simp <;> omega)
 have res_55 := ofw10.heap res_50 (by simp <;> omega)
 have k1_56 := ofw10.heap k1_51 (by simp <;> omega)
 have k2_57 := ofw10.heap k2_52 (by simp <;> omega)
 have k3_58 := ofw10.heap k3_n46 (by simp <;> omega)
 clear rd_48 O_49 res_50 k1_51 k2_52 k3_n46
 clear c3 d0
 have c1 := rfw10.c1
 have f1 := rfw10.fz 1
 have s1 := set_heap rfw10.h 1 (.int .i64 i3)
 have o1 := set_off w10 R.b 1 (.int .i64 i3)
 have rdn := rfw10.put (j := i3) (dp' := dp) (fp' := x3.p) (fy' := 71) o1 hb s1
 go_upto_region 13 with fail
 generalize w10.setCell ⟨R.b, 1, none⟩ (.int .i64 i3) = w11 at *
 have z_59 := o1.size
 have O_60 := O_54.trans o1 (by simp <;> omega)
 have res_61 := o1.heap res_55 (by simp <;> omega)
 have k1_62 := o1.heap k1_56 (by simp <;> omega)
 have k2_63 := o1.heap k2_57 (by simp <;> omega)
 have k3_64 := o1.heap k3_58 (by simp <;> omega)
 clear c1 f1 s1
 clear rfw10 O_54 res_55 k1_56 k2_57 k3_58
 clear o1
 have rd_w11 := rdn
 clear rdn
 refine wp_region_noPanic ?_
 have zR := lt_of_heap res_61
 refine wp_region_held_drew (S := fun W => Off [w.heap.size] w11 W) (by kernel_rfl) ?_ (fun _ => ?_)
 ·
  exact Off.of (drew_below w11) _
 have C0 : Off [w.heap.size] w11 w11.drew := Off.of (drew_below w11) _
 have r3 := below_heap (drew_below w11) res_61
 generalize w11.drew = wd at *
 refine tk 0 75 (.pointer (some ⟨w1.heap.size, 2, none⟩)) rfl (fun W hSw => by go_simp) C0 ?_
 simp only [Act.put, pB, pC, pD]
 refine tk 1 76 (tx x1.t) rfl (fun W hSw => by (have hk := (cell_at (hSw.heap k1_62 (by simp <;> omega)) 2).trans rfl; go_simp)) C0 ?_
 simp only [Act.put, pB, pC, pD]
 refine tk 2 77 (.pointer (some ⟨w4.heap.size, 2, none⟩)) rfl (fun W hSw => by go_simp) C0 ?_
 simp only [Act.put, pB, pC, pD]
 refine tk 3 78 (tx x2.t) rfl (fun W hSw => by (have hk := (cell_at (hSw.heap k2_63 (by simp <;> omega)) 2).trans rfl; go_simp)) C0 ?_
 simp only [Act.put, pB, pC, pD]
 refine tk 5 80 (.pointer (some ⟨w8.heap.size, 2, none⟩)) rfl (fun W hSw => by go_simp) C0 ?_
 simp only [Act.put, pB, pC, pD]
 refine tk 6 81 (tx x3.t) rfl (fun W hSw => by (have hk := (cell_at (hSw.heap k3_64 (by simp <;> omega)) 2).trans rfl; go_simp)) C0 ?_
 simp only [Act.put, pB, pC, pD]
 refine wpAnyH_ready (rs := [4]) (by kernel_rfl) (by simp) ?_
 refine AllReadyH.cons rfl (fun K hK => ?_) AllReadyH.nil
 go_simp
 refine (hkd _).mono ?_
 rintro e we ⟨rfl, be⟩
 have C1 := C0.on be
 have r4 := below_heap be r3
 refine hK.out _ _ ?_ (fun _ => ?_)
 ·
  exact C1
 clear hK K
 refine tk 7 82 (.agg (mA ⟨x1.t, kd, x3.t⟩)) rfl (fun W hSw => by go_simp) C1 ?_
 simp only [Act.put, pB, pC, pD]
 refine wpAnyH_ready (rs := [8]) (by kernel_rfl) (by simp) ?_
 refine AllReadyH.cons rfl (fun K hK => ?_) AllReadyH.nil
 refine step_put 87 _ _ none rfl rfl (by rfl) w.heap.size (mA ⟨x1.t, kd, x3.t⟩) rfl rfl _ 87 r4 3 inf75 rfl ⟨rfl, rfl⟩ ?_
 intro wf qf of zf
 clear zf
 refine hK.out _ _ ?_ (fun _ => ?_)
 ·
  exact C1.then of
 clear hK K
 refine wpAnyH_done (by kernel_rfl) ?_ _
 refine NoPanic.normal ?_
 go_wp2_with fail
 have CF := C1.then of
 exact bodyPost_ret (res_cell Tryz.results219 _ _ w.heap.size 87 (mA ⟨x1.t, kd, x3.t⟩) _ rfl qf Tryz.underlying87 rfl 3 inf75 rfl) rfl ⟨rfl, rd_w11.off CF (by simp <;> omega), O_60.trans CF (by simp <;> omega)⟩
set_option maxHeartbeats 16000000 in
set_option maxRecDepth 20000 in
theorem rmatcher_ok (R : Rc) {w : World} {i i1 i2 i3 : Nat} {dp fp : Int} (e1 : (i : Int) + 1 = (i1 : Int)) (e2 : (i1 : Int) + 1 = (i2 : Int)) (e3 : (i2 : Int) + 1 = (i3 : Int)) (hb : i3 ≤ R.n + 100) (h1 : (hd R.q (R.T.drop i)).k = 1) (h2 : (hd R.q (R.T.drop i1)).k = 5) (h3 : mkd (hd R.q (R.T.drop i1)).t ≠ 0) (h4 : (hd R.q (R.T.drop i2)).k = 4) (h : Pd R w i dp fp 0) :
  Calls Tryz.prog 219 #[R.ptr] w fun e w' => e = .returned (.agg (mA ⟨(hd R.q (R.T.drop i)).t, mkd (hd R.q (R.T.drop i1)).t, (hd R.q (R.T.drop i2)).t⟩)) ∧ Pd R w' i3 dp fp 0 ∧ Off [R.b] w w' := by
 have hbl := h.bl
 have hnb := h.nb
 have hp0 := fun W fp fy (hW : Pd R W i dp fp fy) => peek0_any R hW
 have hp1 := fun W fp fy (hW : Pd R W i1 dp fp fy) => peek0_any R hW
 have hp2 := fun W fp fy (hW : Pd R W i2 dp fp fy) => peek0_any R hW
 have hf0 := fun W fp (hW : Pd R W i dp fp 0) => fail_new R 71 hW
 have hf1 := fun W fp (hW : Pd R W i1 dp fp 0) => fail_new R 71 hW
 have hf2 := fun W fp (hW : Pd R W i2 dp fp 0) => fail_new R 71 hW
 have hkd := fun W => rkind_any (hd R.q (R.T.drop i1)).t W
 generalize hd R.q (R.T.drop i) = x1 at *
 generalize hd R.q (R.T.drop i1) = x2 at *
 generalize hd R.q (R.T.drop i2) = x3 at *
 generalize mkd x2.t = kd at *
 have a1 : i1 ≤ R.n + 100 := by omega
 have a2 : i2 ≤ R.n + 100 := by omega
 have t1 : (x1.k != 1) = false := by rw [bne_eq_false_iff_eq]; exact h1
 have t2 : (x2.k != 5) = false := by rw [bne_eq_false_iff_eq]; exact h2
 have t3 : (kd == 0) = false := by rw [beq_eq_false_iff_ne]; exact h3
 have t4 : (x3.k != 4) = false := by rw [bne_eq_false_iff_eq]; exact h4
 clear h1 h2 h3 h4
 go_enter Tryz.func219, Tryz.ntmps219
 have O0 := Off.refl [R.b] w
 have a_1 := bal (Below.refl (w).heap.size (w)) (.cells (mA ⟨[], 0, []⟩) 87)
 have zz_1 := size_le (w) (.cells (mA ⟨[], 0, []⟩) 87)
 have z_2 := a_1.size
 have rd_3 := h.later a_1
 have O_4 := O0.on a_1
 have res_n1 := heap_new (w) (.cells (mA ⟨[], 0, []⟩) 87)
 clear h O0 a_1
 go_wp2_with fail
 refine (hp0 _ _ _ rd_3).mono ?_
 rintro e w1 ⟨rfl, b1⟩
 have z_5 := b1.size
 have rd_6 := rd_3.later b1
 have O_7 := O_4.on b1
 have res_8 := below_heap b1 res_n1
 clear rd_3 O_4 res_n1
 have a_9 := bal (Below.refl (w1).heap.size (w1)) (.cells (tcs x1) 39)
 have zz_9 := size_le (w1) (.cells (tcs x1) 39)
 have z_10 := a_9.size
 have rd_11 := rd_6.later a_9
 have O_12 := O_7.on a_9
 have res_13 := below_heap a_9 res_8
 have k1_n9 := heap_new (w1) (.cells (tcs x1) 39)
 clear rd_6 O_7 res_8 a_9
 go_upto_region 2 with fail
 generalize w1.alloc (.cells (tcs x1) 39) = w2 at *
 have c3 := rd_11.c3
 have d0 := (cell_at k1_n9 0).trans rfl
 have c1 := rd_11.c1
 have f1 := rd_11.fz 1
 have s1 := set_heap rd_11.h 1 (.int .i64 i1)
 have o1 := set_off w2 R.b 1 (.int .i64 i1)
 have rdn := rd_11.put (j := i1) (dp' := dp) (fp' := fp) (fy' := 0) o1 a1 s1
 go_upto_region 5 with fail
 generalize w2.setCell ⟨R.b, 1, none⟩ (.int .i64 i1) = w3 at *
 have z_14 := o1.size
 have O_15 := O_12.trans o1 (by simp <;> omega)
 have res_16 := o1.heap res_13 (by simp <;> omega)
 have k1_17 := o1.heap k1_n9 (by simp <;> omega)
 clear c1 f1 s1
 clear rd_11 O_12 res_13 k1_n9
 clear o1
 have rd_w3 := rdn
 clear rdn
 clear c3 d0
 go_wp2_with fail
 refine (hp1 _ _ _ rd_w3).mono ?_
 rintro e w4 ⟨rfl, b1⟩
 have z_18 := b1.size
 have rd_19 := rd_w3.later b1
 have O_20 := O_15.on b1
 have res_21 := below_heap b1 res_16
 have k1_22 := below_heap b1 k1_17
 clear rd_w3 O_15 res_16 k1_17
 have a_23 := bal (Below.refl (w4).heap.size (w4)) (.cells (tcs x2) 39)
 have zz_23 := size_le (w4) (.cells (tcs x2) 39)
 have z_24 := a_23.size
 have rd_25 := rd_19.later a_23
 have O_26 := O_20.on a_23
 have res_27 := below_heap a_23 res_21
 have k1_28 := below_heap a_23 k1_22
 have k2_n23 := heap_new (w4) (.cells (tcs x2) 39)
 clear rd_19 O_20 res_21 k1_22 a_23
 go_upto_region 6 with fail
 generalize w4.alloc (.cells (tcs x2) 39) = w5 at *
 have c3 := rd_25.c3
 have d0 := (cell_at k2_n23 0).trans rfl
 have d2 := (cell_at k2_n23 2).trans rfl
 go_wp2_with fail
 refine (hkd _).mono ?_
 rintro e w6 ⟨rfl, b1⟩
 clear c3 d0 d2
 have z_29 := b1.size
 have rd_30 := rd_25.later b1
 have O_31 := O_26.on b1
 have res_32 := below_heap b1 res_27
 have k1_33 := below_heap b1 k1_28
 have k2_34 := below_heap b1 k2_n23
 clear rd_25 O_26 res_27 k1_28 k2_n23
 have c1 := rd_30.c1
 have f1 := rd_30.fz 1
 have s1 := set_heap rd_30.h 1 (.int .i64 i2)
 have o1 := set_off w6 R.b 1 (.int .i64 i2)
 have rdn := rd_30.put (j := i2) (dp' := dp) (fp' := fp) (fy' := 0) o1 a2 s1
 go_upto_region 9 with fail
 generalize w6.setCell ⟨R.b, 1, none⟩ (.int .i64 i2) = w7 at *
 have z_35 := o1.size
 have O_36 := O_31.trans o1 (by simp <;> omega)
 have res_37 := o1.heap res_32 (by simp <;> omega)
 have k1_38 := o1.heap k1_33 (by simp <;> omega)
 have k2_39 := o1.heap k2_34 (by simp <;> omega)
 clear c1 f1 s1
 clear rd_30 O_31 res_32 k1_33 k2_34
 clear o1
 have rd_w7 := rdn
 clear rdn
 go_wp2_with fail
 refine (hp2 _ _ _ rd_w7).mono ?_
 rintro e w8 ⟨rfl, b1⟩
 have z_40 := b1.size
 have rd_41 := rd_w7.later b1
 have O_42 := O_36.on b1
 have res_43 := below_heap b1 res_37
 have k1_44 := below_heap b1 k1_38
 have k2_45 := below_heap b1 k2_39
 clear rd_w7 O_36 res_37 k1_38 k2_39
 have a_46 := bal (Below.refl (w8).heap.size (w8)) (.cells (tcs x3) 39)
 have zz_46 := size_le (w8) (.cells (tcs x3) 39)
 have z_47 := a_46.size
 have rd_48 := rd_41.later a_46
 have O_49 := O_42.on a_46
 have res_50 := below_heap a_46 res_43
 have k1_51 := below_heap a_46 k1_44
 have k2_52 := below_heap a_46 k2_45
 have k3_n46 := heap_new (w8) (.cells (tcs x3) 39)
 clear rd_41 O_42 res_43 k1_44 k2_45 a_46
 go_upto_region 10 with fail
 generalize w8.alloc (.cells (tcs x3) 39) = w9 at *
 have c3 := rd_48.c3
 have d0 := (cell_at k3_n46 0).trans rfl
 have c1 := rd_48.c1
 have f1 := rd_48.fz 1
 have s1 := set_heap rd_48.h 1 (.int .i64 i3)
 have o1 := set_off w9 R.b 1 (.int .i64 i3)
 have rdn := rd_48.put (j := i3) (dp' := dp) (fp' := fp) (fy' := 0) o1 hb s1
 go_upto_region 13 with fail
 generalize w9.setCell ⟨R.b, 1, none⟩ (.int .i64 i3) = w10 at *
 have z_53 := o1.size
 have O_54 := O_49.trans o1 (by simp <;> omega)
 have res_55 := o1.heap res_50 (by simp <;> omega)
 have k1_56 := o1.heap k1_51 (by simp <;> omega)
 have k2_57 := o1.heap k2_52 (by simp <;> omega)
 have k3_58 := o1.heap k3_n46 (by simp <;> omega)
 clear c1 f1 s1
 clear rd_48 O_49 res_50 k1_51 k2_52 k3_n46
 clear o1
 have rd_w10 := rdn
 clear rdn
 clear c3 d0
 refine wp_region_noPanic ?_
 have zR := lt_of_heap res_55
 refine wp_region_held_drew (S := fun W => Off [w.heap.size] w10 W) (by kernel_rfl) ?_ (fun _ => ?_)
 ·
  exact Off.of (drew_below w10) _
 have C0 : Off [w.heap.size] w10 w10.drew := Off.of (drew_below w10) _
 have r3 := below_heap (drew_below w10) res_55
 generalize w10.drew = wd at *
 refine tk 0 75 (.pointer (some ⟨w1.heap.size, 2, none⟩)) rfl (fun W hSw => by go_simp) C0 ?_
 simp only [Act.put, pB, pC, pD]
 refine tk 1 76 (tx x1.t) rfl (fun W hSw => by (have hk := (cell_at (hSw.heap k1_56 (by simp <;> omega)) 2).trans rfl; go_simp)) C0 ?_
 simp only [Act.put, pB, pC, pD]
 refine tk 2 77 (.pointer (some ⟨w4.heap.size, 2, none⟩)) rfl (fun W hSw => by go_simp) C0 ?_
 simp only [Act.put, pB, pC, pD]
 refine tk 3 78 (tx x2.t) rfl (fun W hSw => by (have hk := (cell_at (hSw.heap k2_57 (by simp <;> omega)) 2).trans rfl; go_simp)) C0 ?_
 simp only [Act.put, pB, pC, pD]
 refine tk 5 80 (.pointer (some ⟨w8.heap.size, 2, none⟩)) rfl (fun W hSw => by go_simp) C0 ?_
 simp only [Act.put, pB, pC, pD]
 refine tk 6 81 (tx x3.t) rfl (fun W hSw => by (have hk := (cell_at (hSw.heap k3_58 (by simp <;> omega)) 2).trans rfl; go_simp)) C0 ?_
 simp only [Act.put, pB, pC, pD]
 refine wpAnyH_ready (rs := [4]) (by kernel_rfl) (by simp) ?_
 refine AllReadyH.cons rfl (fun K hK => ?_) AllReadyH.nil
 go_simp
 refine (hkd _).mono ?_
 rintro e we ⟨rfl, be⟩
 have C1 := C0.on be
 have r4 := below_heap be r3
 refine hK.out _ _ ?_ (fun _ => ?_)
 ·
  exact C1
 clear hK K
 refine tk 7 82 (.agg (mA ⟨x1.t, kd, x3.t⟩)) rfl (fun W hSw => by go_simp) C1 ?_
 simp only [Act.put, pB, pC, pD]
 refine wpAnyH_ready (rs := [8]) (by kernel_rfl) (by simp) ?_
 refine AllReadyH.cons rfl (fun K hK => ?_) AllReadyH.nil
 refine step_put 87 _ _ none rfl rfl (by rfl) w.heap.size (mA ⟨x1.t, kd, x3.t⟩) rfl rfl _ 87 r4 3 inf75 rfl ⟨rfl, rfl⟩ ?_
 intro wf qf of zf
 clear zf
 refine hK.out _ _ ?_ (fun _ => ?_)
 ·
  exact C1.then of
 clear hK K
 refine wpAnyH_done (by kernel_rfl) ?_ _
 refine NoPanic.normal ?_
 go_wp2_with fail
 have CF := C1.then of
 exact bodyPost_ret (res_cell Tryz.results219 _ _ w.heap.size 87 (mA ⟨x1.t, kd, x3.t⟩) _ rfl qf Tryz.underlying87 rfl 3 inf75 rfl) rfl ⟨rfl, rd_w10.off CF (by simp <;> omega), O_54.trans CF (by simp <;> omega)⟩
end Go.Proofs.YteankdaegdhfiaaGreatDoor
