/- Texts that the others lean on. -/
import Derived.Deep.Cut
import Derived.Test.YteankdaegdhfiaaGreatDoorKYPd8
import Derived.Test.YteankdaegdhfiaaGreatDoorKYPd10
namespace Go.Proofs.YteankdaegdhfiaaGreatDoor
open Go.RowKit
theorem rmk1 {ops : Array Oper} {o : Oper} {a : Act} {W : World} {K : Act → World → Prop} {Q : Exit → Act → World → Prop} {E : Prop} (x : Operand) (d : Option Tmp) (ho : o.op = .buildSlice 27 1 #[(0, x)]) (hd : o.dst = d) (hw : Region.wanted o (yielded ops a.tmps) = true) (cs : Array Value) (hx : a.eval x = .agg cs) (hn : cs.size = 13)
  (h : ∀ W', W'.heap[W.heap.size]? = some (.cells cs 29) → Below W.heap.size W W' → W.heap.size + 1 ≤ W'.heap.size → K (a.put d (.slice (some ⟨W.heap.size, 0, none⟩) 1 1)) W') : if Region.wanted o (yielded ops a.tmps) = true then Oper.wp Tryz.prog o a W K Q else E := by
 subst hd
 rw [if_pos hw]
 have k := h _ (heap_new W _) (bal (Below.refl _ _) _) (size_le _ _)
 have e : (Array.map (fun y : Nat × Operand => (y.1, a.eval y.2)) #[(0, x)]) = #[(0, .agg cs)] := by simp [hx]
 unfold Oper.wp execOp
 simp only [ho, e, Sem.run_bind, Result.andThen_ok, run_mk1 W cs hn]
 exact k
def HeldPx (tb : Nat) (x : Tk) (W : World) : Prop := W.cell? ⟨tb, 1, none⟩ = some (.int .i64 x.p) ∧ W.cell? ⟨tb, 2, none⟩ = some (tx x.t)
set_option maxHeartbeats 16000000 in
set_option maxRecDepth 20000 in
theorem rprim_any (R : Rc) (dp : Int) (c : List Tk → Rs Ex) (h15 : dp ≤ 15) (hI : RunR R 173 #[R.ptr] dp (brkP R.q c)) : RunR R 111 #[R.ptr] dp (prmP R.q c) := by
 intro w i fp hin0 h
 have HIN : Hid (i ≤ R.n) := hin0
 have hnb := h.nb
 have HLT : Hid (∀ j, (hd R.q (R.T.drop j)).k ≠ 0 → j < R.n) := fun j q => by
  by_cases hl : j < R.n
  ·
   exact hl
  ·
   rw [hd_end (by have := h.ts.1; omega)] at q
   exact absurd rfl q
 have hfl := fun W (hW : Pd R W i dp fp 0) => fail_new R 71 hW
 obtain ⟨RES, HRS⟩ : ∃ RES, Hid (prmP R.q c (R.T.drop i) = RES) := ⟨_, rfl⟩
 rw [HRS.out]
 clear hin0
 have hbl := h.bl
 have hp0 := fun W (hW : Pd R W i dp fp 0) => peek0_any R hW
 have hp1 := fun W (hW : Pd R W i dp fp 0) => peek1_any R hW
 obtain ⟨x, hx⟩ : ∃ x, Hid (hd R.q (R.T.drop i) = x) := ⟨_, rfl⟩
 obtain ⟨y, hy⟩ : ∃ y, Hid (hd R.q (R.T.drop (i + 1)) = y) := ⟨_, rfl⟩
 simp only [hx.out] at hp0
 simp only [hy.out] at hp1
 obtain ⟨o, HO⟩ : ∃ o, Hid (sg y [40] = o) := ⟨_, rfl⟩
 obtain ⟨g, HG⟩ : ∃ g, Hid ((y.k == 1 && isGrpB y.t) = g) := ⟨_, rfl⟩
 go_enter Tryz.func111, Tryz.ntmps111
 have a1 := bal (Below.refl w.heap.size w) (.cells zE 29)
 have zz := size_le w (.cells zE 29)
 have z1 := a1.size
 have rd1 := h.later a1
 have O1 := (Off.refl [R.b] w).on a1
 have res1 := heap_new w (.cells zE 29)
 clear h a1
 go_wp2_with fail
 refine (hp0 _ rd1).mono ?_
 rintro e w1 ⟨rfl, b1⟩
 have z2 := b1.size
 have rd2 := rd1.later b1
 have O2 := O1.on b1
 have res2 := below_heap b1 res1
 clear rd1 O1 res1 hp0
 go_wp2_with fail
 refine (hp1 _ rd2).mono ?_
 rintro e w2 ⟨rfl, b2⟩
 have z3 := b2.size
 have rd3 := rd2.later b2
 have O3 := O2.on b2
 have res3 := below_heap b2 res2
 have q1 := heap_new w2 (.cells zT 39)
 have B1 := bal (Below.refl w2.heap.size w2) (.cells zT 39)
 have s1 := size_le w2 (.cells zT 39)
 have q2 := heap_new (w2.alloc (.cells zT 39)) (.cells zT 39)
 have B2 := bal B1 (.cells zT 39)
 have q1' := below_heap (bal (Below.refl _ (w2.alloc (.cells zT 39))) (.cells zT 39)) q1
 have hsz : (w2.alloc (.cells zT 39)).heap.size = w2.heap.size + 1 := by show (w2.heap.push _).size = _; exact Array.size_push _
 rw [hsz] at q2
 have rd4 := rd3.later B2
 have O4 := O3.on B2
 have res4 := below_heap B2 res3
 clear rd2 O2 res2 hp1 rd3 O3 res3
 go_upto_region 2 with (first | (refine wp_put rfl 39 _ _ rfl w2.heap.size (tcs x) rfl rfl _ 39 q1' 6 inf39 rfl ⟨rfl, rfl⟩ ?_; intro w3 k3 o3 y3) | (refine wp_put rfl 39 _ _ rfl (w2.heap.size + 1) (tcs y) rfl rfl _ 39 (o3.heap q2 (by simp <;> omega)) 6 inf39 rfl ⟨rfl, rfl⟩ ?_; intro w4 k4 o4 y4))
 have Q : Ph R w w2.heap.size w4 x y i dp fp 0 := ⟨(rd4.off o3 (by simp <;> omega)).off o4 (by simp <;> omega), o4.heap (o3.heap res4 (by simp <;> omega)) (by simp <;> omega), o4.heap k3 (by simp <;> omega), k4, (O4.trans o3 (by simp <;> omega)).trans o4 (by simp <;> omega), hbl, by omega⟩
 clear rd4 O4 res4 q1 q1' q2 B1 B2 y3 y4 hsz o3 o4 k3 k4 s1 z1 z2 z3 zz b1 b2
 generalize w2.heap.size = tb at *
 have d0 := (cell_at Q.n 0).trans rfl
 have d2 := (cell_at Q.n 2).trans rfl
 dsimp only [Act.put]
 go_cut [5] from 12 (fun s5 W => s5 = .bool o ∧ Ph R w tb W x y i dp fp 0)
 case first =>
  cases k5 : y.k == 5 with
  | false =>
   have e5 : o = false := by rw [← HO.out, sg, k5]; rfl
   go_wp2_with fail
   go_meet
   case rel => exact ⟨pair_bool e5.symm, Q⟩
  | true =>
   cases t1 : y.t == [40] with
   | false =>
    have e5 : o = false := by rw [← HO.out, sg, k5, t1]; rfl
    go_wp2_with fail
    go_meet
    case rel => exact ⟨pair_bool e5.symm, Q⟩
   | true =>
    have e5 : o = true := by rw [← HO.out, sg, k5, t1]; rfl
    go_wp2_with fail
    go_meet
    case rel => exact ⟨pair_bool e5.symm, Q⟩
 clear Q d0 d2
 obtain ⟨rfl, Q⟩ := hcut
 have d0 := (cell_at Q.n 0).trans rfl
 have d2 := (cell_at Q.n 2).trans rfl
 go_upto_region 3 with fail
 go_cut [6] from 12 (fun s6 W => s6 = .bool g ∧ Ph R w tb W x y i dp fp 0)
 case first =>
  cases k1 : y.k == 1 with
  | false =>
   have e5 : g = false := by rw [← HG.out, k1]; rfl
   go_wp2_with fail
   go_meet
   case rel => exact ⟨pair_bool e5.symm, Q⟩
  | true =>
   cases t2 : y.t == [98, 121] with
   | true =>
    have e5 : g = true := by rw [← HG.out, k1, isGrpB, wBy, t2]; rfl
    go_wp2_with fail
    go_meet
    case rel => exact ⟨pair_bool e5.symm, Q⟩
   | false =>
    cases t3 : y.t == [119, 105, 116, 104, 111, 117, 116] with
    | false =>
     have e5 : g = false := by rw [← HG.out, k1, isGrpB, wBy, wWo, t2, t3]; rfl
     go_wp2_with fail
     go_meet
     case rel => exact ⟨pair_bool e5.symm, Q⟩
    | true =>
     have e5 : g = true := by rw [← HG.out, k1, isGrpB, wBy, wWo, t2, t3]; rfl
     go_wp2_with fail
     go_meet
     case rel => exact ⟨pair_bool e5.symm, Q⟩
 clear Q d0 d2
 obtain ⟨rfl, Q⟩ := hcut
 go_upto_region 4 with fail
 have c3 := Q.rd.c3
 simp only [hx.out] at hfl
 have hin := HIN.out
 have key : ∀ r, prmP R.q c (R.T.drop i) = r → RES = r := fun r q => by rw [← q]; exact HRS.out.symm
 have KEY : Hid (∀ r, prmP R.q c (R.T.drop i) = r → RES = r) := key
 clear key HRS
 have tl : Hid ((R.T.drop i).tail = R.T.drop (i + 1)) := List.tail_drop
 have tl2 : Hid ((R.T.drop (i + 1)).tail = R.T.drop (i + 2)) := List.tail_drop
 by_cases k2 : x.k = 2
 ·
  have hk : (x.k == 2) = true := by rw [k2]; rfl
  have HR : Hid (RES = .inr (eNum x.p x.o x.n, R.T.drop (i + 1))) := KEY.out _ (by unfold prmP; rw [hx.out, if_pos k2, tl.out])
  have hin : i < R.n := HLT.out i (by rw [hx.out, k2]; decide)
  clear hfl k2 KEY
  have k0 := (cell_at Q.t 0).trans rfl
  have k1 := (cell_at Q.t 1).trans rfl
  have k3 := (cell_at Q.t 3).trans rfl
  have k4 := (cell_at Q.t 4).trans rfl
  have Q2 := Q.next (i + 1) (by omega)
  have c1 := Q.rd.c1
  have g1 := Q.rd.fz 1
  have ec : ((i + 1 : Nat) : Int) = (i : Int) + 1 := by omega
  rw [ec] at Q2
  clear ec
  go_upto_region 8 with fail
  generalize wc.setCell ⟨R.b, 1, none⟩ (.int .i64 ((i : Int) + 1)) = w8 at *
  clear c1 g1 Q
  have m1 := (cell_at Q2.t 1).trans rfl
  have m3 := (cell_at Q2.t 3).trans rfl
  have m4 := (cell_at Q2.t 4).trans rfl
  clear k0 k1 k3 k4
  have rs := Q2.res
  go_wp2_with (refine wp_put rfl 29 _ _ rfl w.heap.size (exA 1 x.p x.o x.n [] nl 0 false false false false nl nl) rfl rfl _ 29 rs 13 inf29 rfl ⟨rfl, rfl⟩ ?_; intro we re oe ze)
  have hb := Q2.bl
  have hl1 := Q2.l1
  exact bodyPost_ret (res_cell Tryz.results111 _ _ w.heap.size 29 (exA 1 x.p x.o x.n [] nl 0 false false false false nl nl) _ rfl re Tryz.underlying29 rfl 13 inf29 rfl) rfl ⟨(exA 1 x.p x.o x.n [] nl 0 false false false false nl nl), rfl, by rw [HR.out]; exact ⟨i + 1, fp, rfl, by omega, Q2.rd.off oe (by simp; omega), Tr.leaf (Sl.nil _ _ _) (Sl.nil _ _ _), Q2.off.trans oe (by simp)⟩⟩
 have hk : (x.k == 2) = false := by rw [beq_eq_false_iff_ne]; exact k2
 by_cases k1 : x.k = 1
 ·
  have hk1 : (x.k == 1) = true := by rw [k1]; rfl
  have hlt : i < R.n := HLT.out i (by rw [hx.out, k1]; decide)
  have hs : sg x [40] = false := by rw [sg, k1]; rfl
  have KN : Hid (∀ r, namP R.q c (R.T.drop i) = r → RES = r) := fun r q => KEY.out r (by unfold prmP; rw [hx.out, if_neg k2, if_pos k1]; exact q)
  clear KEY k1 k2
  cases ha : isAggB x.t with
  | true =>
   cases ho : o with
   | true =>
    have hk5 : y.k ≠ 1 := by rw [sg_k (HO.out.trans ho)]; decide
    have hg1 : g = false := by rw [← HG.out, beq_eq_false_iff_ne.2 hk5]; rfl
    have HR : Hid (RES = bnd (brkP R.q c (R.T.drop (i + 1))) fun z => .inr (eAgg x.p x.t false false [] z.1, z.2)) := KN.out _ (by
     unfold namP
     rw [hx.out, tl.out, hy.out, ha, HO.out, ho, if_pos rfl, aggP, tl.out, grpP, hy.out, if_pos hk5, hx.out]
     rfl)
    have hin : i < R.n := hlt
    subst ho hg1
    clear hfl KN hk5
    have k0 := (cell_at Q.t 0).trans rfl
    have k2 := (cell_at Q.t 2).trans rfl
    have hsg := rsign_any R [40] Q.rd
    rw [hx.out, hs] at hsg
    go_wp2_with fail
    refine hsg.mono ?_
    rintro e w7 ⟨rfl, b_w7⟩
    have Q2 := Q.later b_w7
    clear Q hsg b_w7
    have k0' := (cell_at Q2.t 0).trans rfl
    have k2' := (cell_at Q2.t 2).trans rfl
    clear k0 k2
    have hag := rAgg_any x.t w7
    rw [ha] at hag
    go_wp2_with fail
    refine hag.mono ?_
    rintro e w8 ⟨rfl, b8⟩
    have Q3 := Q2.later b8
    have j0 := (cell_at Q3.t 0).trans rfl
    have j1 := (cell_at Q3.t 1).trans rfl
    have j2 := (cell_at Q3.t 2).trans rfl
    clear Q2 hag b8 k0' k2'
    go_upto_region 13 with (refine wp_new (w := w8) rfl 29 _ _ rfl zE (exA 4 x.p false 0 x.t nl 0 false false false false nl nl) rfl rfl 13 inf29 rfl ⟨rfl, rfl⟩ ?_; intro w9 l9 b9 s9)
    have Q4 := Q3.later b9
    have hnb1 := lt_of_heap Q3.n
    have hb1 := Q3.bl
    have hl1 := Q3.l1
    clear Q3 j0 j1 j2 b9 s9
    generalize w8.heap.size = nb at *
    have l10 := (set_off w9 R.b 1 (.int .i64 ((i : Int) + 1))).heap l9 (by simp; omega)
    clear l9
    have Q5 := Q4.next (i + 1) (by omega)
    have c1 := Q4.rd.c1
    have g1 := Q4.rd.fz 1
    have ec : ((i + 1 : Nat) : Int) = (i : Int) + 1 := by omega
    rw [ec] at Q5
    clear ec
    go_upto_region 18 with fail
    generalize w9.setCell ⟨R.b, 1, none⟩ (.int .i64 ((i : Int) + 1)) = w10 at *
    clear c1 g1 Q4
    have HX : Hid _ := HR
    have hj : i + 1 ≤ R.n := hin
    have hc := hI _ (i + 1) _ hj Q5.rd
    go_wp2_with fail
    refine hc.mono ?_
    rintro e u1 ⟨cs, rfl, V⟩
    have row := V.row
    obtain ⟨jj, fq, fy, A⟩ := V.at
    have U1 := Q5.read A.rd V.heap
    have oV := V.heap
    have HV : Hid _ := V
    clear A hc V
    have n1 := oV.heap l10 (by simp; omega)
    have zV := oV.size
    have hz0 := lt_of_heap l10
    clear Q5 l10
    have hz1 := lt_of_heap n1
    go_upto_region 19 with (first | (refine wp_mk1 rfl _ rfl cs rfl row.1 ?_; intro u2 k2 b2 s2) | (refine wp_st rfl 27 _ _ rfl nb 12 (.slice (some ⟨u1.heap.size, 0, none⟩) 1 1) rfl rfl (exA 4 x.p false 0 x.t nl 0 false false false false nl nl) 29 (below_heap b2 n1) (by simp) inf27 rfl (exA 4 x.p false 0 x.t nl 0 false false false false nl (.slice (some ⟨u1.heap.size, 0, none⟩) 1 1)) rfl ?_; intro u3 n3 o3 z3))
    have U2 := U1.later b2
    have U3 := U2.node (by omega) o3
    have z2 := b2.size
    have k3 := o3.heap k2 (by simp; omega)
    have rs := U3.res
    have hl1 := U3.l1
    have hb1 := U3.bl
    go_wp2_with (first | (refine wp_get rfl 29 _ rfl nb (exA 4 x.p false 0 x.t nl 0 false false false false nl (.slice (some ⟨u1.heap.size, 0, none⟩) 1 1)) 29 rfl n3 _ Tryz.underlying29 rfl 13 inf29 rfl ?_) | (refine wp_put rfl 29 _ _ rfl w.heap.size (exA 4 x.p false 0 x.t nl 0 false false false false nl (.slice (some ⟨u1.heap.size, 0, none⟩) 1 1)) rfl rfl _ 29 rs 13 inf29 rfl ⟨rfl, rfl⟩ ?_; intro we re oe ze))
    refine bodyPost_ret (res_cell Tryz.results111 _ _ w.heap.size 29 (exA 4 x.p false 0 x.t nl 0 false false false false nl (.slice (some ⟨u1.heap.size, 0, none⟩) 1 1)) _ rfl re Tryz.underlying29 rfl 13 inf29 rfl) rfl ⟨(exA 4 x.p false 0 x.t nl 0 false false false false nl (.slice (some ⟨u1.heap.size, 0, none⟩) 1 1)), rfl, ?_⟩
    rw [HX.out]
    have HV' := HV.out
    cases hr : brkP R.q c (R.T.drop (i + 1)) with
    | inr z' =>
     rw [hr] at HV'
     obtain ⟨j', fq', h1, h2, h3, h4, h5⟩ := HV'
     exact ⟨j', fq', h1, h2, ((h3.later b2).off o3 (by simp; omega)).off oe (by simp; omega), Tr.kid1 (Sl.nil _ _ _) (Sl.nil _ _ _) (oe.heap k3 (by simp; omega)) (show w.heap.size ≤ u1.heap.size by omega) (Tr.lower (by omega) _ (Tr.off oe (by simp; omega) _ (Tr.off o3 (by simp; omega) _ (h4.later b2)))), U3.off.trans oe (by simp)⟩
    | inl er' =>
     rw [hr] at HV'
     obtain ⟨j', h1, h2, h3, h4, h5⟩ := HV'
     exact ⟨j', ⟨rfl, rfl⟩, h2, h3, ((h4.later b2).off o3 (by simp; omega)).off oe (by simp; omega), U3.off.trans oe (by simp)⟩
   | false =>
    cases hg : g with
    | true =>
     have hgk : y.k = 1 := by
      have q := HG.out.trans hg
      rw [Bool.and_eq_true] at q
      exact eq_of_beq q.1
     have hin2 : i + 2 ≤ R.n := HLT.out (i + 1) (by rw [hy.out, hgk]; decide)
     have hk5 : ¬ y.k ≠ 1 := by rw [hgk]; decide
     have HR : Hid (RES = bnd (nmP R.q (R.T.drop (i + 2))) fun z => bnd (brkP R.q c z.2) fun z' => .inr (eAgg x.p x.t (y.t == wBy) (y.t == wWo) z.1 z'.1, z'.2)) := KN.out _ (by
      unfold namP
      rw [hx.out, tl.out, hy.out, ha, HO.out, ho, HG.out, hg, if_pos (show (true && (false || true)) = true from rfl), aggP, tl.out, grpP, hy.out, if_neg hk5, hx.out, tl2.out]
      cases nmP R.q (R.T.drop (i + 2)) <;> rfl)
     subst ho hg
     clear hfl KN hk5 hgk
     have k0 := (cell_at Q.t 0).trans rfl
     have k2 := (cell_at Q.t 2).trans rfl
     have hsg := rsign_any R [40] Q.rd
     rw [hx.out, hs] at hsg
     go_wp2_with fail
     refine hsg.mono ?_
     rintro e w7 ⟨rfl, b_w7⟩
     have Q2 := Q.later b_w7
     clear Q hsg b_w7
     have k0' := (cell_at Q2.t 0).trans rfl
     have k2' := (cell_at Q2.t 2).trans rfl
     clear k0 k2
     have hag := rAgg_any x.t w7
     rw [ha] at hag
     go_wp2_with fail
     refine hag.mono ?_
     rintro e w8 ⟨rfl, b8⟩
     have Q3 := Q2.later b8
     have j0 := (cell_at Q3.t 0).trans rfl
     have j1 := (cell_at Q3.t 1).trans rfl
     have j2 := (cell_at Q3.t 2).trans rfl
     clear Q2 hag b8 k0' k2'
     go_upto_region 13 with (refine wp_new (w := w8) rfl 29 _ _ rfl zE (exA 4 x.p false 0 x.t nl 0 false false false false nl nl) rfl rfl 13 inf29 rfl ⟨rfl, rfl⟩ ?_; intro w9 l9 b9 s9)
     have Q4 := Q3.later b9
     have hnb1 := lt_of_heap Q3.n
     have hb1 := Q3.bl
     have hl1 := Q3.l1
     clear Q3 j0 j1 j2 b9 s9
     generalize w8.heap.size = nb at *
     have l10 := (set_off w9 R.b 1 (.int .i64 ((i : Int) + 1))).heap l9 (by simp; omega)
     clear l9
     have Q5 := Q4.next (i + 1) (by omega)
     have c1 := Q4.rd.c1
     have g1 := Q4.rd.fz 1
     have ec : ((i + 1 : Nat) : Int) = (i : Int) + 1 := by omega
     rw [ec] at Q5
     clear ec
     go_upto_region 15 with fail
     generalize w9.setCell ⟨R.b, 1, none⟩ (.int .i64 ((i : Int) + 1)) = w10 at *
     clear c1 g1 Q4
     go_cut [] from 89 (fun W => Ph R w tb W x y (i + 1) dp fp 0 ∧ W.heap[nb]? = some (.cells (exA 4 x.p false 0 x.t nl 0 (y.t == [98, 121]) (y.t == [119, 105, 116, 104, 111, 117, 116]) false false nl nl) 29))
     case first =>
      have Q6 := Q5.later (drew_below w10)
      have l11 := below_heap (drew_below w10) l10
      clear Q5 l10
      have S6 : (fun W => W.cell? ⟨tb + 1, 2, none⟩ = some (tx y.t)) w10.drew := (cell_at Q6.n 2).trans rfl
      refine wp_region_noPanic ?_
      refine wp_region_held_drew (S := fun W => W.cell? ⟨tb + 1, 2, none⟩ = some (tx y.t)) (by kernel_rfl) ?_ (fun _ => ?_)
      ·
       exact S6
      generalize w10.drew = w11 at *
      refine tk 0 89 (.pointer (some ⟨tb + 1, 2, none⟩)) rfl (fun W hSw => by go_simp) S6 ?_
      simp only [Act.put, pB, pC, pD]
      refine tk 1 90 (tx y.t) rfl (fun W hSw => by (have s2 : W.cell? ⟨tb + 1, 2, none⟩ = some (tx y.t) := hSw; go_simp)) S6 ?_
      simp only [Act.put, pB, pC, pD]
      refine tk 2 91 (.bool (y.t == [98, 121])) rfl (fun W hSw => by go_simp) S6 ?_
      simp only [Act.put, pB, pC, pD]
      refine tk 3 92 (.pointer (some ⟨tb + 1, 2, none⟩)) rfl (fun W hSw => by go_simp) S6 ?_
      simp only [Act.put, pB, pC, pD]
      refine tk 4 93 (tx y.t) rfl (fun W hSw => by (have s2 : W.cell? ⟨tb + 1, 2, none⟩ = some (tx y.t) := hSw; go_simp)) S6 ?_
      simp only [Act.put, pB, pC, pD]
      refine tk 5 94 (.bool (y.t == [119, 105, 116, 104, 111, 117, 116])) rfl (fun W hSw => by go_simp) S6 ?_
      simp only [Act.put, pB, pC, pD]
      refine tk 6 95 (.pointer (some ⟨nb, 7, none⟩)) rfl (fun W hSw => by go_simp) S6 ?_
      simp only [Act.put, pB, pC, pD]
      refine wpAnyH_ready (rs := [7]) (by kernel_rfl) (by simp) ?_
      refine AllReadyH.cons rfl (fun K hK => ?_) AllReadyH.nil
      refine step_st 4 _ _ none rfl rfl (by rfl) nb 7 (.bool (y.t == [98, 121])) rfl rfl (exA 4 x.p false 0 x.t nl 0 false false false false nl nl) 29 l11 (by simp) inf4 rfl (exA 4 x.p false 0 x.t nl 0 (y.t == [98, 121]) false false false nl nl) rfl ?_
      intro w12 l12 o12 z12
      have Q7 := Q6.node (by omega) o12
      have S7 : (fun W => W.cell? ⟨tb + 1, 2, none⟩ = some (tx y.t)) w12 := (cell_at Q7.n 2).trans rfl
      clear Q6 l11
      refine hK.out _ _ ?_ (fun _ => ?_)
      ·
       exact S7
      clear hK K
      refine tk 8 96 (.pointer (some ⟨nb, 8, none⟩)) rfl (fun W hSw => by go_simp) S7 ?_
      simp only [Act.put, pB, pC, pD]
      refine wpAnyH_ready (rs := [9]) (by kernel_rfl) (by simp) ?_
      refine AllReadyH.cons rfl (fun K hK => ?_) AllReadyH.nil
      refine step_st 4 _ _ none rfl rfl (by rfl) nb 8 (.bool (y.t == [119, 105, 116, 104, 111, 117, 116])) rfl rfl (exA 4 x.p false 0 x.t nl 0 (y.t == [98, 121]) false false false nl nl) 29 l12 (by simp) inf4 rfl (exA 4 x.p false 0 x.t nl 0 (y.t == [98, 121]) (y.t == [119, 105, 116, 104, 111, 117, 116]) false false nl nl) rfl ?_
      intro w13 l13 o13 z13
      have Q8 := Q7.node (by omega) o13
      have S8 : (fun W => W.cell? ⟨tb + 1, 2, none⟩ = some (tx y.t)) w13 := (cell_at Q8.n 2).trans rfl
      clear Q7 l12
      refine hK.out _ _ ?_ (fun _ => ?_)
      ·
       exact S8
      clear hK K
      refine wpAnyH_done (by kernel_rfl) ?_ _
      refine NoPanic.normal ?_
      go_wp2_with fail
      go_meet
      case rel => exact ⟨Q8, l13⟩
     clear Q5 l10
     obtain ⟨Q6, l11⟩ := hcut
     have l12 := (set_off wc R.b 1 (.int .i64 ((i : Int) + 1 + 1))).heap l11 (by simp; omega)
     clear l11
     have Q7 := Q6.next (i + 2) (by omega)
     have c1 := Q6.rd.c1
     have g1 := Q6.rd.fz 1
     have ec : ((i + 2 : Nat) : Int) = (i : Int) + 1 + 1 := by omega
     rw [ec] at Q7
     have ea : ((i + 1 : Nat) : Int) = (i : Int) + 1 := by omega
     rw [ea] at c1
     clear ea
     clear ec
     go_upto_region 17 with fail
     generalize wc.setCell ⟨R.b, 1, none⟩ (.int .i64 ((i : Int) + 1 + 1)) = w12 at *
     clear c1 g1 Q6
     have hnm := rnames_any R Q7.rd hin2
     have hz7 := lt_of_heap l12
     cases hn : nmP R.q (R.T.drop (i + 2)) with
     | inr z =>
      rw [hn] at hnm HR
      clear hn
      go_wp2_with fail
      refine hnm.mono ?_
      rintro e w13 ⟨an, nn, cn, j, rfl, hzj, hj, NL⟩
      have HX : Hid (RES = bnd (brkP R.q c (R.T.drop j)) fun z' => .inr (eAgg x.p x.t (y.t == wBy) (y.t == wWo) z.1 z'.1, z'.2)) := by
       show _ = _
       rw [HR.out, ← hzj]
       rfl
      have Q8 := Q7.read NL.rd NL.off
      have l13 := NL.off.heap l12 (by simp; omega)
      have zN := NL.off.size
      have ow := NL.own
      clear hnm HR Q7 l12
      go_upto_region 18 with (refine wp_st rfl 26 _ _ rfl nb 11 (.slice an nn cn) rfl rfl (exA 4 x.p false 0 x.t nl 0 (y.t == [98, 121]) (y.t == [119, 105, 116, 104, 111, 117, 116]) false false nl nl) 29 l13 (by simp) inf26 rfl (exA 4 x.p false 0 x.t nl 0 (y.t == [98, 121]) (y.t == [119, 105, 116, 104, 111, 117, 116]) false false (.slice an nn cn) nl) rfl ?_; intro w14 l14 o14 z14)
      have Q9 := Q8.node (by omega) o14
      have ow9 := ow.kept o14 (by simp; omega)
      clear Q8 l13 ow NL
      have hc := hI _ j _ hj Q9.rd
      go_wp2_with fail
      refine hc.mono ?_
      rintro e u1 ⟨cs, rfl, V⟩
      have row := V.row
      obtain ⟨jj, fq, fy, A⟩ := V.at
      have U1 := Q9.read A.rd V.heap
      have oV := V.heap
      have HV : Hid _ := V
      clear A hc V
      have n1 := oV.heap l14 (by simp; omega)
      have zV := oV.size
      have ow1 := ow9.kept oV (by simp; omega)
      have hz0 := lt_of_heap l14
      clear Q9 l14
      have hz1 := lt_of_heap n1
      go_upto_region 19 with (first | (refine wp_mk1 rfl _ rfl cs rfl row.1 ?_; intro u2 k2 b2 s2) | (refine wp_st rfl 27 _ _ rfl nb 12 (.slice (some ⟨u1.heap.size, 0, none⟩) 1 1) rfl rfl (exA 4 x.p false 0 x.t nl 0 (y.t == [98, 121]) (y.t == [119, 105, 116, 104, 111, 117, 116]) false false (.slice an nn cn) nl) 29 (below_heap b2 n1) (by simp) inf27 rfl (exA 4 x.p false 0 x.t nl 0 (y.t == [98, 121]) (y.t == [119, 105, 116, 104, 111, 117, 116]) false false (.slice an nn cn) (.slice (some ⟨u1.heap.size, 0, none⟩) 1 1)) rfl ?_; intro u3 n3 o3 z3))
      have U2 := U1.later b2
      have U3 := U2.node (by omega) o3
      have z2 := b2.size
      have k3 := o3.heap k2 (by simp; omega)
      have ow3 := (ow1.later b2).kept o3 (by simp; omega)
      have rs := U3.res
      have hl1 := U3.l1
      have hb1 := U3.bl
      go_wp2_with (first | (refine wp_get rfl 29 _ rfl nb (exA 4 x.p false 0 x.t nl 0 (y.t == [98, 121]) (y.t == [119, 105, 116, 104, 111, 117, 116]) false false (.slice an nn cn) (.slice (some ⟨u1.heap.size, 0, none⟩) 1 1)) 29 rfl n3 _ Tryz.underlying29 rfl 13 inf29 rfl ?_) | (refine wp_put rfl 29 _ _ rfl w.heap.size (exA 4 x.p false 0 x.t nl 0 (y.t == [98, 121]) (y.t == [119, 105, 116, 104, 111, 117, 116]) false false (.slice an nn cn) (.slice (some ⟨u1.heap.size, 0, none⟩) 1 1)) rfl rfl _ 29 rs 13 inf29 rfl ⟨rfl, rfl⟩ ?_; intro we re oe ze))
      refine bodyPost_ret (res_cell Tryz.results111 _ _ w.heap.size 29 (exA 4 x.p false 0 x.t nl 0 (y.t == [98, 121]) (y.t == [119, 105, 116, 104, 111, 117, 116]) false false (.slice an nn cn) (.slice (some ⟨u1.heap.size, 0, none⟩) 1 1)) _ rfl re Tryz.underlying29 rfl 13 inf29 rfl) rfl ⟨(exA 4 x.p false 0 x.t nl 0 (y.t == [98, 121]) (y.t == [119, 105, 116, 104, 111, 117, 116]) false false (.slice an nn cn) (.slice (some ⟨u1.heap.size, 0, none⟩) 1 1)), rfl, ?_⟩
      rw [HX.out]
      have HV' := HV.out
      cases hr : brkP R.q c (R.T.drop j) with
      | inr z' =>
       rw [hr] at HV'
       obtain ⟨j', fq', h1, h2, h3, h4, h5⟩ := HV'
       have ow4 := ow3.kept oe (by simp; omega)
       have sl4 := (Sl.owns (cs := z.1.map tx) ow4 (by simp)).lower (show w.heap.size ≤ _ by omega)
       exact ⟨j', fq', h1, h2, ((h3.later b2).off o3 (by simp; omega)).off oe (by simp; omega), Tr.kid1 (Sl.nil _ _ _) sl4 (oe.heap k3 (by simp; omega)) (show w.heap.size ≤ u1.heap.size by omega) (Tr.lower (by omega) _ (Tr.off oe (by simp; omega) _ (Tr.off o3 (by simp; omega) _ (h4.later b2)))), U3.off.trans oe (by simp)⟩
      | inl er' =>
       rw [hr] at HV'
       obtain ⟨j', h1, h2, h3, h4, h5⟩ := HV'
       exact ⟨j', ⟨rfl, rfl⟩, h2, h3, ((h4.later b2).off o3 (by simp; omega)).off oe (by simp; omega), U3.off.trans oe (by simp)⟩
     | inl er =>
      rw [hn] at hnm HR
      clear hn
      go_wp2_with fail
      refine hnm.mono ?_
      rintro e w13 ⟨an, nn, cn, j, ll, rfl, hj, hy0, NL⟩
      have HX : Hid (RES = .inl er) := by
       show _ = _
       rw [HR.out]
       rfl
      have Q8 := Q7.read NL.rd NL.off
      have l13 := NL.off.heap l12 (by simp; omega)
      have zN := NL.off.size
      have ow := NL.own
      clear hnm HR Q7 l12
      go_upto_region 18 with (refine wp_st rfl 26 _ _ rfl nb 11 (.slice an nn cn) rfl rfl (exA 4 x.p false 0 x.t nl 0 (y.t == [98, 121]) (y.t == [119, 105, 116, 104, 111, 117, 116]) false false nl nl) 29 l13 (by simp) inf26 rfl (exA 4 x.p false 0 x.t nl 0 (y.t == [98, 121]) (y.t == [119, 105, 116, 104, 111, 117, 116]) false false (.slice an nn cn) nl) rfl ?_; intro w14 l14 o14 z14)
      have Q9 := Q8.node (by omega) o14
      have ow9 := ow.kept o14 (by simp; omega)
      clear Q8 l13 ow NL
      have hc := rinner_old R dp _ j _ _ hy0 (by omega) Q9.rd
      go_wp2_with fail
      refine hc.mono ?_
      rintro e u1 ⟨cs, jj, rfl, row, hjj, P1, oV⟩
      have U1 := Q9.read P1 oV
      clear hc P1
      have n1 := oV.heap l14 (by simp; omega)
      have zV := oV.size
      have hz0 := lt_of_heap l14
      clear Q9 l14
      have hz1 := lt_of_heap n1
      go_upto_region 19 with (first | (refine wp_mk1 rfl _ rfl cs rfl row.1 ?_; intro u2 k2 b2 s2) | (refine wp_st rfl 27 _ _ rfl nb 12 (.slice (some ⟨u1.heap.size, 0, none⟩) 1 1) rfl rfl (exA 4 x.p false 0 x.t nl 0 (y.t == [98, 121]) (y.t == [119, 105, 116, 104, 111, 117, 116]) false false (.slice an nn cn) nl) 29 (below_heap b2 n1) (by simp) inf27 rfl (exA 4 x.p false 0 x.t nl 0 (y.t == [98, 121]) (y.t == [119, 105, 116, 104, 111, 117, 116]) false false (.slice an nn cn) (.slice (some ⟨u1.heap.size, 0, none⟩) 1 1)) rfl ?_; intro u3 n3 o3 z3))
      have U2 := U1.later b2
      have U3 := U2.node (by omega) o3
      have z2 := b2.size
      have k3 := o3.heap k2 (by simp; omega)
      have rs := U3.res
      have hl1 := U3.l1
      have hb1 := U3.bl
      go_wp2_with (first | (refine wp_get rfl 29 _ rfl nb (exA 4 x.p false 0 x.t nl 0 (y.t == [98, 121]) (y.t == [119, 105, 116, 104, 111, 117, 116]) false false (.slice an nn cn) (.slice (some ⟨u1.heap.size, 0, none⟩) 1 1)) 29 rfl n3 _ Tryz.underlying29 rfl 13 inf29 rfl ?_) | (refine wp_put rfl 29 _ _ rfl w.heap.size (exA 4 x.p false 0 x.t nl 0 (y.t == [98, 121]) (y.t == [119, 105, 116, 104, 111, 117, 116]) false false (.slice an nn cn) (.slice (some ⟨u1.heap.size, 0, none⟩) 1 1)) rfl rfl _ 29 rs 13 inf29 rfl ⟨rfl, rfl⟩ ?_; intro we re oe ze))
      refine bodyPost_ret (res_cell Tryz.results111 _ _ w.heap.size 29 (exA 4 x.p false 0 x.t nl 0 (y.t == [98, 121]) (y.t == [119, 105, 116, 104, 111, 117, 116]) false false (.slice an nn cn) (.slice (some ⟨u1.heap.size, 0, none⟩) 1 1)) _ rfl re Tryz.underlying29 rfl 13 inf29 rfl) rfl ⟨(exA 4 x.p false 0 x.t nl 0 (y.t == [98, 121]) (y.t == [119, 105, 116, 104, 111, 117, 116]) false false (.slice an nn cn) (.slice (some ⟨u1.heap.size, 0, none⟩) 1 1)), rfl, ?_⟩
      rw [HX.out]
      exact ⟨jj, ⟨rfl, rfl⟩, by omega, hy0, U3.rd.off oe (by simp; omega), U3.off.trans oe (by simp)⟩
    | false =>
     have HR : Hid (selP R.q (R.T.drop i) = RES) := (KN.out _ (by
      unfold namP
      rw [hx.out, tl.out, hy.out, ha, HO.out, ho, HG.out, hg, if_neg (show ¬ (true && (false || false)) = true by decide), Bool.and_false, if_neg (by decide), if_neg (by decide)])).symm
     subst ho hg
     clear hfl KN
     have k0 := (cell_at Q.t 0).trans rfl
     have k2 := (cell_at Q.t 2).trans rfl
     have hsg := rsign_any R [40] Q.rd
     rw [hx.out, hs] at hsg
     go_wp2_with fail
     refine hsg.mono ?_
     rintro e w7 ⟨rfl, b_w7⟩
     have Q2 := Q.later b_w7
     clear Q hsg b_w7
     have k0' := (cell_at Q2.t 0).trans rfl
     have k2' := (cell_at Q2.t 2).trans rfl
     clear k0 k2
     have hag := rAgg_any x.t w7
     rw [ha] at hag
     go_wp2_with fail
     refine hag.mono ?_
     rintro e w8 ⟨rfl, b8⟩
     have Q3 := Q2.later b8
     have j0 := (cell_at Q3.t 0).trans rfl
     have j1 := (cell_at Q3.t 1).trans rfl
     have j2 := (cell_at Q3.t 2).trans rfl
     clear Q2 hag b8 k0' k2'
     have hc := rsel_any R dp h15 _ i fp hin Q3.rd
     go_wp2_with fail
     refine hc.mono ?_
     rintro e w9 ⟨cs, rfl, V⟩
     have row := V.row
     have hl1 := Q3.l1
     have hb1 := Q3.bl
     have hsz := lt_of_heap Q3.t
     have rs := V.heap.heap Q3.res (by simp <;> omega)
     clear hc
     go_wp2_with (refine wp_put rfl 29 _ _ rfl w.heap.size cs rfl rfl _ 29 rs 13 inf29 rfl row ?_; intro we re oe ze)
     exact bodyPost_ret (res_cell Tryz.results111 _ _ w.heap.size 29 cs _ rfl re Tryz.underlying29 rfl 13 inf29 row.1) rfl ⟨cs, rfl, (by have q := V.hand Q3.off (by omega) hb1 oe; rw [HR.out] at q; exact q)⟩
  | false =>
   cases ho : o with
   | true =>
    cases hm : isModB x.t with
    | true =>
     have HR : Hid (RES = .inl (x.p, 71)) := KN.out _ (by
      unfold namP
      rw [hx.out, tl.out, hy.out, ha, HO.out, ho, Bool.false_and, if_neg (by decide), hm, if_pos (show (true && true) = true from rfl), bad, hx.out])
     subst ho
     clear KN
     have k0 := (cell_at Q.t 0).trans rfl
     have k2 := (cell_at Q.t 2).trans rfl
     have hsg := rsign_any R [40] Q.rd
     rw [hx.out, hs] at hsg
     go_wp2_with fail
     refine hsg.mono ?_
     rintro e w7 ⟨rfl, b_w7⟩
     have Q2 := Q.later b_w7
     clear Q hsg b_w7
     have k0' := (cell_at Q2.t 0).trans rfl
     have k2' := (cell_at Q2.t 2).trans rfl
     clear k0 k2
     have hag := rAgg_any x.t w7
     rw [ha] at hag
     go_wp2_with fail
     refine hag.mono ?_
     rintro e w8 ⟨rfl, b8⟩
     have Q3 := Q2.later b8
     have j0 := (cell_at Q3.t 0).trans rfl
     have j1 := (cell_at Q3.t 1).trans rfl
     have j2 := (cell_at Q3.t 2).trans rfl
     clear Q2 hag b8 k0' k2'
     have hmd := rMod_any x.t w8
     rw [hm] at hmd
     go_wp2_with fail
     refine hmd.mono ?_
     rintro e w9' ⟨rfl, rfl⟩
     clear hmd j0 j1 j2
     go_wp2_with fail
     refine (hfl _ Q3.rd).mono ?_
     rintro e w9 ⟨rfl, P9, o9⟩
     have Q9 := Q3.read P9 o9
     clear Q3 hfl P9 o9
     have rs := Q9.res
     go_wp2_with (refine wp_put rfl 29 _ _ rfl w.heap.size zE rfl rfl _ 29 rs 13 inf29 rfl rowZ ?_; intro we re oe ze)
     have hb := Q9.bl
     have hl1 := Q9.l1
     exact bodyPost_ret (res_cell Tryz.results111 _ _ w.heap.size 29 zE _ rfl re Tryz.underlying29 rfl 13 inf29 rfl) rfl ⟨zE, rfl, by rw [HR.out]; exact ⟨i, rowZ, by omega, by show (71 : Int) ≠ 0; decide, Q9.rd.off oe (by simp; omega), Q9.off.trans oe (by simp)⟩⟩
    | false =>
     have HR : Hid (RES = bnd (brkP R.q c (R.T.drop (i + 1))) fun z => .inr (eCall x.p x.t z.1, z.2)) := KN.out _ (by
      unfold namP
      rw [hx.out, tl.out, hy.out, ha, HO.out, ho, Bool.false_and, if_neg (by decide), hm, if_neg (show ¬ (false && true) = true by decide), if_pos rfl, callP, hx.out, tl.out])
     have hin : i < R.n := hlt
     subst ho
     clear hfl KN
     have k0 := (cell_at Q.t 0).trans rfl
     have k2 := (cell_at Q.t 2).trans rfl
     have hsg := rsign_any R [40] Q.rd
     rw [hx.out, hs] at hsg
     go_wp2_with fail
     refine hsg.mono ?_
     rintro e w7 ⟨rfl, b_w7⟩
     have Q2 := Q.later b_w7
     clear Q hsg b_w7
     have k0' := (cell_at Q2.t 0).trans rfl
     have k2' := (cell_at Q2.t 2).trans rfl
     clear k0 k2
     have hag := rAgg_any x.t w7
     rw [ha] at hag
     go_wp2_with fail
     refine hag.mono ?_
     rintro e w8 ⟨rfl, b8⟩
     have Q3 := Q2.later b8
     have j0 := (cell_at Q3.t 0).trans rfl
     have j1 := (cell_at Q3.t 1).trans rfl
     have j2 := (cell_at Q3.t 2).trans rfl
     clear Q2 hag b8 k0' k2'
     have hmd := rMod_any x.t w8
     rw [hm] at hmd
     go_upto_region 23 with fail
     refine hmd.mono ?_
     rintro e w9' ⟨rfl, rfl⟩
     clear hmd
     go_upto_region 24 with fail
     have Q4 := Q3.next (i + 1) (by omega)
     have c1 := Q3.rd.c1
     have g1 := Q3.rd.fz 1
     have ec : ((i + 1 : Nat) : Int) = (i : Int) + 1 := by omega
     rw [ec] at Q4
     clear ec
     go_upto_region 25 with fail
     generalize w8.setCell ⟨R.b, 1, none⟩ (.int .i64 ((i : Int) + 1)) = w9 at *
     clear c1 g1 Q3
     clear j0 j1 j2
     have Q5 := Q4.later (drew_below w9)
     clear Q4
     have S5 : HeldPx tb x w9.drew := ⟨(cell_at Q5.t 1).trans rfl, (cell_at Q5.t 2).trans rfl⟩
     refine wp_region_noPanic ?_
     refine wp_region_held_drew (S := HeldPx tb x) (by kernel_rfl) ?_ (fun _ => ?_)
     ·
      exact S5
     generalize w9.drew = w10 at *
     refine tk 0 141 (.pointer (some ⟨tb, 1, none⟩)) rfl (fun W hSw => by go_simp) S5 ?_
     simp only [Act.put, pB, pC, pD]
     refine tk 1 142 (.int .i64 x.p) rfl (fun W hSw => by (obtain ⟨s1, s2⟩ := hSw; go_simp)) S5 ?_
     simp only [Act.put, pB, pC, pD]
     refine tk 2 143 (.pointer (some ⟨tb, 2, none⟩)) rfl (fun W hSw => by go_simp) S5 ?_
     simp only [Act.put, pB, pC, pD]
     refine tk 3 144 (tx x.t) rfl (fun W hSw => by (obtain ⟨s1, s2⟩ := hSw; go_simp)) S5 ?_
     simp only [Act.put, pB, pC, pD]
     refine tk 4 145 (R.ptr) rfl (fun W hSw => by go_simp) S5 ?_
     simp only [Act.put, pB, pC, pD]
     have hc := hI w10 (i + 1) fp (by omega) Q5.rd
     refine wpAnyH_ready (rs := [5]) (by kernel_rfl) (by simp) ?_
     refine AllReadyH.cons rfl (fun K hK => ?_) AllReadyH.nil
     go_simp
     refine hc.mono ?_
     rintro e w11 ⟨cs, rfl, V⟩
     have row := V.row
     obtain ⟨j, fq, fy, A⟩ := V.at
     have HA : Hid _ := A
     have Q6 := Q5.read A.rd V.heap
     have oV := V.heap
     have HV : Hid _ := V
     have S6 : HeldPx tb x w11 := ⟨(cell_at Q6.t 1).trans rfl, (cell_at Q6.t 2).trans rfl⟩
     clear A hc
     refine hK.out _ _ ?_ (fun _ => ?_)
     ·
      exact S6
     clear hK K
     refine wpAnyH_ready (rs := [6]) (by kernel_rfl) (by simp) ?_
     refine AllReadyH.cons rfl (fun K hK => ?_) AllReadyH.nil
     refine rmk1 _ (some 147) rfl rfl (by rfl) cs rfl row.1 ?_
     intro w12 k12 b12 s12
     have Q7 := Q6.later b12
     have S7 : HeldPx tb x w12 := ⟨(cell_at Q7.t 1).trans rfl, (cell_at Q7.t 2).trans rfl⟩
     refine hK.out _ _ ?_ (fun _ => ?_)
     ·
      exact S7
     clear hK K
     refine tk 7 148 (.agg (exA 3 x.p false 0 x.t nl 0 false false false false nl (.slice (some ⟨w11.heap.size, 0, none⟩) 1 1))) rfl (fun W hSw => by go_simp) S7 ?_
     simp only [Act.put, pB, pC, pD]
     refine wpAnyH_ready (rs := [8]) (by kernel_rfl) (by simp) ?_
     refine AllReadyH.cons rfl (fun K hK => ?_) AllReadyH.nil
     have rs := Q7.res
     have hl1 := Q7.l1
     have hb1 := Q7.bl
     refine step_put 29 _ _ none rfl rfl (by rfl) w.heap.size (exA 3 x.p false 0 x.t nl 0 false false false false nl (.slice (some ⟨w11.heap.size, 0, none⟩) 1 1)) rfl rfl _ 29 rs 13 inf29 rfl ⟨rfl, rfl⟩ ?_
     intro we re oe ze
     have S8 : HeldPx tb x we := ⟨(cell_at (oe.heap Q7.t (by simp; omega)) 1).trans rfl, (cell_at (oe.heap Q7.t (by simp; omega)) 2).trans rfl⟩
     refine hK.out _ _ ?_ (fun _ => ?_)
     ·
      exact S8
     clear hK K
     refine wpAnyH_done (by kernel_rfl) ?_ _
     refine NoPanic.normal ?_
     go_wp2_with fail
     have hz5 := lt_of_heap Q5.t
     have zV := oV.size
     refine bodyPost_ret (res_cell Tryz.results111 _ _ w.heap.size 29 (exA 3 x.p false 0 x.t nl 0 false false false false nl (.slice (some ⟨w11.heap.size, 0, none⟩) 1 1)) _ rfl re Tryz.underlying29 rfl 13 inf29 rfl) rfl ⟨(exA 3 x.p false 0 x.t nl 0 false false false false nl (.slice (some ⟨w11.heap.size, 0, none⟩) 1 1)), rfl, ?_⟩
     rw [HR.out]
     have HV' := HV.out
     have HA' := HA.out
     cases hr : brkP R.q c (R.T.drop (i + 1)) with
     | inr z =>
      rw [hr] at HV'
      obtain ⟨j', fq', h1, h2, h3, h4, h5⟩ := HV'
      have kd := oe.heap k12 (by simp; omega)
      exact ⟨j', fq', h1, h2, (h3.later b12).off oe (by simp; omega), Tr.kid1 (Sl.nil _ _ _) (Sl.nil _ _ _) kd (show w.heap.size ≤ w11.heap.size by omega) (Tr.lower (by omega) _ (Tr.off oe (by simp; omega) _ (h4.later b12))), Q7.off.trans oe (by simp)⟩
     | inl er =>
      rw [hr] at HV'
      obtain ⟨j', h1, h2, h3, h4, h5⟩ := HV'
      exact ⟨j', ⟨rfl, rfl⟩, h2, h3, (h4.later b12).off oe (by simp; omega), Q7.off.trans oe (by simp)⟩
   | false =>
    have HR : Hid (selP R.q (R.T.drop i) = RES) := (KN.out _ (by
     unfold namP
     rw [hx.out, tl.out, hy.out, ha, HO.out, ho, Bool.false_and, if_neg (by decide), Bool.and_false, if_neg (by decide), if_neg (by decide)])).symm
    subst ho
    clear hfl KN
    have k0 := (cell_at Q.t 0).trans rfl
    have k2 := (cell_at Q.t 2).trans rfl
    have hsg := rsign_any R [40] Q.rd
    rw [hx.out, hs] at hsg
    go_wp2_with fail
    refine hsg.mono ?_
    rintro e w7 ⟨rfl, b_w7⟩
    have Q2 := Q.later b_w7
    clear Q hsg b_w7
    have k0' := (cell_at Q2.t 0).trans rfl
    have k2' := (cell_at Q2.t 2).trans rfl
    clear k0 k2
    have hag := rAgg_any x.t w7
    rw [ha] at hag
    go_wp2_with fail
    refine hag.mono ?_
    rintro e w8 ⟨rfl, b8⟩
    have Q3 := Q2.later b8
    have j0 := (cell_at Q3.t 0).trans rfl
    have j1 := (cell_at Q3.t 1).trans rfl
    have j2 := (cell_at Q3.t 2).trans rfl
    clear Q2 hag b8 k0' k2'
    have hc := rsel_any R dp h15 _ i fp hin Q3.rd
    go_wp2_with fail
    refine hc.mono ?_
    rintro e w9 ⟨cs, rfl, V⟩
    have row := V.row
    have hl1 := Q3.l1
    have hb1 := Q3.bl
    have hsz := lt_of_heap Q3.t
    have rs := V.heap.heap Q3.res (by simp <;> omega)
    clear hc
    go_wp2_with (refine wp_put rfl 29 _ _ rfl w.heap.size cs rfl rfl _ 29 rs 13 inf29 rfl row ?_; intro we re oe ze)
    exact bodyPost_ret (res_cell Tryz.results111 _ _ w.heap.size 29 cs _ rfl re Tryz.underlying29 rfl 13 inf29 row.1) rfl ⟨cs, rfl, (by have q := V.hand Q3.off (by omega) hb1 oe; rw [HR.out] at q; exact q)⟩
 have hk1 : (x.k == 1) = false := by rw [beq_eq_false_iff_ne]; exact k1
 have KN : Hid (∀ r, (if sg x [40] = true then brkP R.q c (R.T.drop i) else if sg x [123] = true then selP R.q (R.T.drop i) else .inl (bad R.q (R.T.drop i) 71)) = r → RES = r) := fun r q => KEY.out r (by unfold prmP; rw [hx.out, if_neg k2, if_neg k1]; exact q)
 clear KEY k1 k2
 cases hs : sg x [40] with
 | true =>
  have HR : Hid (brkP R.q c (R.T.drop i) = RES) := (KN.out _ (by rw [hs, if_pos rfl])).symm
  clear hfl KN hk1
  have k0 := (cell_at Q.t 0).trans rfl
  have hsg := rsign_any R [40] Q.rd
  rw [hx.out, hs] at hsg
  go_wp2_with fail
  refine hsg.mono ?_
  rintro e w7 ⟨rfl, b_w7⟩
  have Q2 := Q.later b_w7
  clear Q hsg b_w7
  clear k0
  have hc := hI _ i fp hin Q2.rd
  go_wp2_with fail
  refine hc.mono ?_
  rintro e w8 ⟨cs, rfl, V⟩
  have row := V.row
  have hl1 := Q2.l1
  have hb1 := Q2.bl
  have hsz := lt_of_heap Q2.t
  have rs := V.heap.heap Q2.res (by simp <;> omega)
  clear hc
  go_wp2_with (refine wp_put rfl 29 _ _ rfl w.heap.size cs rfl rfl _ 29 rs 13 inf29 rfl row ?_; intro we re oe ze)
  exact bodyPost_ret (res_cell Tryz.results111 _ _ w.heap.size 29 cs _ rfl re Tryz.underlying29 rfl 13 inf29 row.1) rfl ⟨cs, rfl, (by have q := V.hand Q2.off (by omega) hb1 oe; rw [HR.out] at q; exact q)⟩
 | false =>
  cases hb : sg x [123] with
  | true =>
   have HR : Hid (selP R.q (R.T.drop i) = RES) := (KN.out _ (by rw [hs, if_neg (by decide), hb, if_pos rfl])).symm
   clear hfl KN
   have k0 := (cell_at Q.t 0).trans rfl
   have k2 := (cell_at Q.t 2).trans rfl
   have hsg := rsign_any R [40] Q.rd
   rw [hx.out, hs] at hsg
   go_wp2_with fail
   refine hsg.mono ?_
   rintro e w7 ⟨rfl, b_w7⟩
   have Q2 := Q.later b_w7
   clear Q hsg b_w7
   have k0' := (cell_at Q2.t 0).trans rfl
   have k2' := (cell_at Q2.t 2).trans rfl
   clear k0 k2
   have hsg := rsign_any R [123] Q2.rd
   rw [hx.out, hb] at hsg
   go_wp2_with fail
   refine hsg.mono ?_
   rintro e w8 ⟨rfl, b_w8⟩
   have Q3 := Q2.later b_w8
   clear Q2 hsg b_w8
   clear k0' k2'
   have hc := rsel_any R dp h15 _ i fp hin Q3.rd
   go_wp2_with fail
   refine hc.mono ?_
   rintro e w9 ⟨cs, rfl, V⟩
   have row := V.row
   have hl1 := Q3.l1
   have hb1 := Q3.bl
   have hsz := lt_of_heap Q3.t
   have rs := V.heap.heap Q3.res (by simp <;> omega)
   clear hc
   go_wp2_with (refine wp_put rfl 29 _ _ rfl w.heap.size cs rfl rfl _ 29 rs 13 inf29 rfl row ?_; intro we re oe ze)
   exact bodyPost_ret (res_cell Tryz.results111 _ _ w.heap.size 29 cs _ rfl re Tryz.underlying29 rfl 13 inf29 row.1) rfl ⟨cs, rfl, (by have q := V.hand Q3.off (by omega) hb1 oe; rw [HR.out] at q; exact q)⟩
  | false =>
   have HR : Hid (RES = .inl (x.p, 71)) := KN.out _ (by rw [hs, if_neg (by decide), hb, if_neg (by decide), bad, hx.out])
   clear KN
   have k0 := (cell_at Q.t 0).trans rfl
   have k2 := (cell_at Q.t 2).trans rfl
   have hsg := rsign_any R [40] Q.rd
   rw [hx.out, hs] at hsg
   go_wp2_with fail
   refine hsg.mono ?_
   rintro e w7 ⟨rfl, b_w7⟩
   have Q2 := Q.later b_w7
   clear Q hsg b_w7
   have k0' := (cell_at Q2.t 0).trans rfl
   have k2' := (cell_at Q2.t 2).trans rfl
   clear k0 k2
   have hsg := rsign_any R [123] Q2.rd
   rw [hx.out, hb] at hsg
   go_wp2_with fail
   refine hsg.mono ?_
   rintro e w8 ⟨rfl, b_w8⟩
   have Q3 := Q2.later b_w8
   clear Q2 hsg b_w8
   clear k0' k2'
   go_wp2_with fail
   refine (hfl _ Q3.rd).mono ?_
   rintro e w9 ⟨rfl, P9, o9⟩
   have Q9 := Q3.read P9 o9
   clear Q3 hfl P9 o9
   have rs := Q9.res
   go_wp2_with (refine wp_put rfl 29 _ _ rfl w.heap.size zE rfl rfl _ 29 rs 13 inf29 rfl rowZ ?_; intro we re oe ze)
   have hb := Q9.bl
   have hl1 := Q9.l1
   exact bodyPost_ret (res_cell Tryz.results111 _ _ w.heap.size 29 zE _ rfl re Tryz.underlying29 rfl 13 inf29 rfl) rfl ⟨zE, rfl, by rw [HR.out]; exact ⟨i, rowZ, by omega, by show (71 : Int) ≠ 0; decide, Q9.rd.off oe (by simp; omega), Q9.off.trans oe (by simp)⟩⟩
end Go.Proofs.YteankdaegdhfiaaGreatDoor
