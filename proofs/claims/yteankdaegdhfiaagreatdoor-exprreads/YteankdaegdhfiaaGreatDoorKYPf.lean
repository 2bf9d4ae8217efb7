/- Texts that the others lean on. -/
import Derived.Deep.DeepCutAuto
import Derived.Test.YteankdaegdhfiaaGreatDoorKYPf0
namespace Go.Proofs.YteankdaegdhfiaaGreatDoor
open Go.RowKit
set_option maxHeartbeats 16000000 in
set_option maxRecDepth 20000 in
theorem rbin_any (R : Rc) (lev dp : Int) (hl1 : 0 ≤ lev) (hl2 : lev ≤ 2) (h15 : dp ≤ 15) (u : List Tk → Rs Ex) (hS : Shr u) (hA : AnyR R 42 #[R.ptr, .int .i64 (lev + 1)] dp u) : AnyR R 42 #[R.ptr, .int .i64 lev] dp (chP R.q (lev + 1) u) := by
 intro w i0 fp0 fy0 ha hb h
 have hbl := h.bl
 have hnb := h.nb
 have HLT : Hid (R.T.length = R.n) := h.ts.1
 obtain ⟨RES, HC⟩ : ∃ RES, Hid (chP R.q (lev + 1) u (R.T.drop i0) = RES) := ⟨_, rfl⟩
 have HS : Hid (Shr u) := hS
 have hl3 : (lev == 3) = false := by rw [beq_eq_false_iff_ne]; omega
 clear hS
 go_enter Tryz.func42, Tryz.ntmps42
 have a1 := bal (Below.refl w.heap.size w) (.cells zE 29)
 have zz := size_le w (.cells zE 29)
 have rd1 := h.later a1
 have O1 := (Off.refl [R.b] w).on a1
 have res1 := heap_new w (.cells zE 29)
 clear h a1
 go_upto_region 3 with fail
 generalize w.alloc (.cells zE 29) = w1 at *
 have hc := hA w1 i0 fp0 fy0 ha hb rd1
 go_wp2_with fail
 refine hc.mono ?_
 rintro e w2 ⟨cs, j, fp', fy', rfl, row, P2, o2, HO⟩
 have O2 := O1.then o2
 have res2 := o2.heap res1 (by simp <;> omega)
 have z2 := o2.size
 clear hc rd1 O1 res1
 go_wp2_with (refine wp_new (w := w2) rfl 29 _ _ rfl zE cs rfl rfl 13 inf29 rfl row ?_; intro w3 l3 b3 s3)
 have B3 : Bn R w w2.heap.size w3 cs j dp fp' fy' := ⟨P2.later b3, l3, row, below_heap b3 res2, O2.on b3, hbl, by omega⟩
 have S3 : Hid (BnS R (fun b => w1.heap.size ≤ b ∧ b ≠ w2.heap.size) (lev + 1) u RES w3 dp i0 fp0 fy0 j fp' fy' cs) := by
  rcases HO.out with ⟨q0, rfl, rfl, q⟩ | ⟨q0, ⟨x, q1, q2, q3, rfl, q4⟩ | ⟨er, q1, rfl, rfl, q2, q3⟩⟩
  ·
   exact Or.inr (Or.inr ⟨q0, q0, rfl, rfl, q⟩)
  ·
   refine Or.inl ⟨q0, rfl, q3, x.1, x.2.length + 1, TrP.later (TrP.cut q4 (Nat.le_refl _)) b3, ?_, ?_⟩
   ·
    rw [q2, List.length_drop, HLT.out]; omega
   ·
    rw [← HC.out, chP, q1, ← q2]; rfl
  ·
   exact Or.inr (Or.inl ⟨q0, q2, by rw [← HC.out, chP, q1]; rfl, q3⟩)
 have hw12 : w.heap.size < w1.heap.size := by omega
 have hw13 : w1.heap.size ≤ w2.heap.size := by omega
 clear HO P2 o2 O2 res2 l3 b3 s3 z2 zz row
 obtain ⟨P, hPd⟩ : ∃ P, Hid ((fun b => w1.heap.size ≤ b ∧ b ≠ w2.heap.size) = P) := ⟨_, rfl⟩
 rw [hPd.out] at S3
 have hPa : Hid (∀ b, w2.heap.size < b → P b) := fun b hb => by rw [← hPd.out]; show w1.heap.size ≤ b ∧ b ≠ w2.heap.size; omega
 have hPb : Hid (∀ b, P b → w1.heap.size ≤ b ∧ b ≠ w2.heap.size) := fun b hb => by rw [← hPd.out] at hb; exact hb
 clear hPd
 generalize w2.heap.size = eb at *
 dsimp only [Act.put]
 go_loopw [] (fun wr => ∃ (cs : Array Value) (i : Nat) (fp fy : Int), Bn R w eb wr cs i dp fp fy ∧ Hid (BnS R P (lev + 1) u RES wr dp i0 fp0 fy0 i fp fy cs)) (fun wr => mesN R wr)
 case atStart => exact ⟨cs, j, fp', fy', B3, S3⟩
 case round =>
  clear B3 S3
  obtain ⟨cs, i, fp, fy, B, S⟩ := hrel
  have row := B.row
  have c3 := B.rd.c3
  have hb1 := B.bl
  have hl4 := B.l1
  by_cases hy : fy = 0
  ·
   subst hy
   have hy0 : fy0 = 0 := by
    rcases S.out with ⟨q, _⟩ | ⟨q, _⟩ | ⟨_, q, _⟩
    ·
     exact q
    ·
     exact q
    ·
     exact absurd rfl q
   subst hy0
   obtain ⟨hin, e0, k, HT, hk, HR⟩ : i ≤ R.n ∧ ∃ e k, Hid (TrP P wr e cs) ∧ R.n - i < k + 1 ∧ Hid (RES = chF R.q (lev + 1) u (k + 1) e (R.T.drop i)) := by
    rcases S.out with ⟨_, _, hin, e, k0, q1, q2, q3⟩ | ⟨_, q, _⟩ | ⟨q, _⟩
    ·
     obtain ⟨k, rfl⟩ : ∃ k, k0 = k + 1 := ⟨k0 - 1, by omega⟩
     exact ⟨hin, e, k, q1, q2, q3⟩
    ·
     exact absurd rfl q
    ·
     exact absurd rfl q
   clear S
   have hp0 := fun W (hW : Pd R W i dp fp 0) => peek0_any R hW
   have hfar : Hid ((hd R.q (R.T.drop i)).k ≠ 0 → i < R.n) := fun q => phd_lt B.rd q
   have HB : Hid (Pd R wr i dp fp 0) := B.rd
   obtain ⟨x, hx⟩ : ∃ x, Hid (hd R.q (R.T.drop i) = x) := ⟨_, rfl⟩
   simp only [hx.out] at hp0
   rw [hx.out] at hfar
   have f0 := fld0 x
   have f1 := fld1 x
   have f2 := fld2 x
   have E0 := Off.refl [R.b] wr
   have HOP : Hid (isOp R.q (lev + 1) (R.T.drop i) = (x.k == 5 && lv x.t == lev + 1)) := by show _ = _; rw [isOp, hx.out]
   cases k5 : x.k == 5 with
   | false =>
    have HX : Hid (RES = .inr (e0, R.T.drop i)) := by show _ = _; rw [HR.out, chF, if_pos (by rw [HOP.out, k5]; rfl)]
    clear HR
    have hq := hp0 _ B.rd
    go_wp2_with fail
    refine hq.mono ?_
    rintro e w4 ⟨rfl, b4⟩
    have B4 := B.later b4
    have E4 := E0.on b4
    clear hq b4 B E0
    clear c3
    have lc := B4.lc
    have rs := B4.res
    have T4 : Hid (TrP P w4 e0 cs) := TrP.off E4 (fun x hx hq => by have e := List.mem_singleton.1 hx; subst e; have := hPb.out _ hq; omega) _ HT.out
    go_wp2_with (first | (refine wp_get rfl 29 _ rfl eb cs 29 rfl lc _ Tryz.underlying29 rfl 13 inf29 row.1 ?_) | (refine wp_put rfl 29 _ _ rfl w.heap.size cs rfl rfl _ 29 rs 13 inf29 rfl row ?_; intro we re oe ze))
    exact bodyPost_ret (res_cell Tryz.results42 _ _ w.heap.size 29 cs _ rfl re Tryz.underlying29 rfl 13 inf29 row.1) rfl ⟨cs, i, fp, 0, rfl, row, B4.rd.off oe (by simp <;> omega), B4.off.trans oe (by simp), Or.inr ⟨rfl, Or.inl ⟨(e0, R.T.drop i), by rw [HC.out]; exact HX.out, rfl, hin, rfl, TrP.mono (fun b hb => by have := hPb.out b hb; show w.heap.size ≤ b; omega) _ (TrP.off oe (fun x hx hq => by have e := List.mem_singleton.1 hx; subst e; have := hPb.out _ hq; omega) _ T4.out)⟩⟩⟩
   | true =>
    have hi : i < R.n := hfar.out (by rw [eq_of_beq k5]; decide)
    have hlv := fun W => level_any x.t W
    clear hfar
    have hq := hp0 _ B.rd
    go_wp2_with fail
    refine hq.mono ?_
    rintro e w4 ⟨rfl, b4⟩
    have B4 := B.later b4
    have E4 := E0.on b4
    clear hq b4 B E0
    clear c3
    have hq := hp0 _ B4.rd
    go_wp2_with fail
    refine hq.mono ?_
    rintro e w5 ⟨rfl, b5⟩
    have B5 := B4.later b5
    have E5 := E4.on b5
    clear hq b5 B4 E4
    obtain ⟨lx, hlx⟩ : ∃ lx, Hid (lv x.t - 1 = lx) := ⟨_, rfl⟩
    simp only [hlx.out] at hlv
    have HOP2 : Hid (isOp R.q (lev + 1) (R.T.drop i) = (lx == lev)) := by
     show _ = _
     rw [HOP.out, k5, Bool.true_and, ← hlx.out, Bool.eq_iff_iff, beq_iff_eq, beq_iff_eq]
     omega
    cases hq : lx == lev with
    | false =>
     have HX : Hid (RES = .inr (e0, R.T.drop i)) := by show _ = _; rw [HR.out, chF, if_pos (by rw [HOP2.out, hq])]
     clear HR
     have hr := hlv w5
     go_wp2_with fail
     refine hr.mono ?_
     rintro e w6 ⟨rfl, b6⟩
     have B6 := B5.later b6
     have E6 := E5.on b6
     clear hr b6 B5 E5
     have lc := B6.lc
     have rs := B6.res
     have T4 : Hid (TrP P w6 e0 cs) := TrP.off E6 (fun x hx hq => by have e := List.mem_singleton.1 hx; subst e; have := hPb.out _ hq; omega) _ HT.out
     go_wp2_with (first | (refine wp_get rfl 29 _ rfl eb cs 29 rfl lc _ Tryz.underlying29 rfl 13 inf29 row.1 ?_) | (refine wp_put rfl 29 _ _ rfl w.heap.size cs rfl rfl _ 29 rs 13 inf29 rfl row ?_; intro we re oe ze))
     exact bodyPost_ret (res_cell Tryz.results42 _ _ w.heap.size 29 cs _ rfl re Tryz.underlying29 rfl 13 inf29 row.1) rfl ⟨cs, i, fp, 0, rfl, row, B6.rd.off oe (by simp <;> omega), B6.off.trans oe (by simp), Or.inr ⟨rfl, Or.inl ⟨(e0, R.T.drop i), by rw [HC.out]; exact HX.out, rfl, hin, rfl, TrP.mono (fun b hb => by have := hPb.out b hb; show w.heap.size ≤ b; omega) _ (TrP.off oe (fun x hx hq => by have e := List.mem_singleton.1 hx; subst e; have := hPb.out _ hq; omega) _ T4.out)⟩⟩⟩
    | true =>
     rw [hq] at HOP2
     have hr := hlv w5
     go_wp2_with fail
     refine hr.mono ?_
     rintro e w6 ⟨rfl, b6⟩
     have B6 := B5.later b6
     have E6 := E5.on b6
     clear hr b6 B5 E5
     have hr := hp0 _ B6.rd
     go_wp2_with fail
     refine hr.mono ?_
     rintro e w7 ⟨rfl, b7⟩
     have B7 := B6.later b7
     have E7 := E6.on b7
     clear hr b7 B6 E6
     have hr := hp0 _ B7.rd
     go_wp2_with fail
     refine hr.mono ?_
     rintro e w8 ⟨rfl, b8⟩
     have B8 := B7.later b8
     have E8 := E7.on b8
     clear hr b8 B7 E7
     go_upto_region 6 with (refine wp_new (w := w8) rfl 29 _ _ rfl zE (exA 5 x.p false 0 x.t nl 0 false false false false nl nl) rfl rfl 13 inf29 rfl ⟨rfl, rfl⟩ ?_; intro w9 l9 b9 s9)
     have B9 := B8.later b9
     have E9 := E8.on b9
     have hn1 := lt_of_heap B8.lc
     have hzr := E8.size
     clear B8 E8 b9 s9
     generalize w8.heap.size = nb at *
     have B10 := B9.next (i + 1) (by omega)
     have c1 := B9.rd.c1
     have g1 := B9.rd.fz 1
     have ec : ((i + 1 : Nat) : Int) = (i : Int) + 1 := by omega
     rw [ec] at B10
     have o10 := set_off w9 R.b 1 (.int .i64 ((i : Int) + 1))
     have l10 := o10.heap l9 (by simp <;> omega)
     have E10 := E9.then o10
     clear ec l9 o10 E9
     go_upto_region 7 with fail
     generalize w9.setCell ⟨R.b, 1, none⟩ (.int .i64 ((i : Int) + 1)) = w10 at *
     clear c1 g1 B9 hp0 f0 f1 f2
     have hp0 := fun W (hW : Pd R W (i + 1) dp fp 0) => peek0_any R hW
     have hp1 := fun W (hW : Pd R W (i + 1) dp fp 0) => peek1_any R hW
     obtain ⟨y, hyy⟩ : ∃ y, Hid (hd R.q (R.T.drop (i + 1)) = y) := ⟨_, rfl⟩
     obtain ⟨z, hzz⟩ : ∃ z, Hid (hd R.q (R.T.drop (i + 2)) = z) := ⟨_, rfl⟩
     have hz1 : hd R.q (R.T.drop (i + 1 + 1)) = z := hzz.out
     simp only [hyy.out] at hp0
     simp only [hz1] at hp1
     clear hz1
     have hr := hp0 _ B10.rd
     go_wp2_with fail
     refine hr.mono ?_
     rintro e w11 ⟨rfl, b11⟩
     have B11 := B10.later b11
     have E11 := E10.on b11
     have l11 := below_heap b11 l10
     clear hr b11 B10 E10 l10
     go_upto_region 8 with (refine wp_new (w := w11) rfl 39 _ _ rfl zT (tcs y) rfl rfl 6 inf39 rfl ⟨rfl, rfl⟩ ?_; intro w12 t12 b12 s12)
     have B12 := B11.later b12
     have E12 := E11.on b12
     have l12 := below_heap b12 l11
     have ht1 := lt_of_heap l11
     clear B11 E11 l11 b12 s12
     generalize w11.heap.size = tb at *
     obtain ⟨m, HM⟩ : ∃ m, Hid (hasMod R.q (R.T.drop (i + 1)) = m) := ⟨_, rfl⟩
     have HM2 : Hid (m = (y.k == 1 && isModB y.t && sg z [40])) := by show _ = _; rw [← HM.out, hasMod, List.tail_drop, hyy.out]; show _ = (y.k == 1 && isModB y.t && sg z [40]); rw [← hzz.out]
     have hmo := fun W => rMod_any y.t W
     have d0 := (cell_at t12 0).trans rfl
     have d2 := (cell_at t12 2).trans rfl
     have g0 := fld0 z
     have g2 := fld2 z
     dsimp only [Act.put]
     go_cut [70] (fun s70 W => s70 = .bool m ∧ Bn R w eb W cs (i + 1) dp fp 0 ∧ W.heap[nb]? = some (.cells (exA 5 x.p false 0 x.t nl 0 false false false false nl nl) 29) ∧ W.heap[tb]? = some (.cells (tcs y) 39) ∧ Off [R.b] wr W)
     case first =>
      cases k1 : y.k == 1 with
      | false =>
       have em : m = false := by rw [HM2.out, k1]; rfl
       go_wp2_with fail
       go_meet
       case rel => exact ⟨pair_bool em.symm, B12, l12, t12, E12⟩
      | true =>
       have hm := hmo w12
       cases hmd : isModB y.t with
       | false =>
        have em : m = false := by rw [HM2.out, k1, hmd]; rfl
        rw [hmd] at hm
        go_wp2_with fail
        refine hm.mono ?_
        rintro e w13 ⟨rfl, rfl⟩
        go_wp2_with fail
        go_meet
        case rel => exact ⟨pair_bool em.symm, B12, l12, t12, E12⟩
       | true =>
        rw [hmd] at hm
        go_wp2_with fail
        refine hm.mono ?_
        rintro e w13 ⟨rfl, rfl⟩
        clear hm
        have hr := hp1 _ B12.rd
        go_wp2_with fail
        refine hr.mono ?_
        rintro e w14 ⟨rfl, b14⟩
        have B14 := B12.later b14
        have E14 := E12.on b14
        have l14 := below_heap b14 l12
        have t14 := below_heap b14 t12
        clear hr b14 d0 d2
        cases z5 : z.k == 5 with
        | false =>
         have em : m = false := by rw [HM2.out, k1, hmd, sg, z5]; rfl
         go_wp2_with fail
         go_meet
         case rel => exact ⟨pair_bool em.symm, B14, l14, t14, E14⟩
        | true =>
         have hr := hp1 _ B14.rd
         go_wp2_with fail
         refine hr.mono ?_
         rintro e w15 ⟨rfl, b15⟩
         have B15 := B14.later b15
         have E15 := E14.on b15
         have l15 := below_heap b15 l14
         have t15 := below_heap b15 t14
         clear hr b15
         cases zt : z.t == [40] with
         | false =>
          have em : m = false := by rw [HM2.out, k1, hmd, sg, z5, zt]; rfl
          go_wp2_with fail
          go_meet
          case rel => exact ⟨pair_bool em.symm, B15, l15, t15, E15⟩
         | true =>
          have em : m = true := by rw [HM2.out, k1, hmd, sg, z5, zt]; rfl
          go_wp2_with fail
          go_meet
          case rel => exact ⟨pair_bool em.symm, B15, l15, t15, E15⟩
     clear B12 l12 t12 E12 d0 d2 hmo hp1 hp0 g0 g2
     obtain ⟨rfl, B16, l16, t16, E16⟩ := hcut
     go_upto_if 70 with fail
     go_cut [70] (fun _ W => ∃ (on ig : Bool) (an : Option Addr) (nn cn : Nat) (ns : List Str) (j : Nat) (fp2 fy2 : Int), Bn R w eb W cs j dp fp2 fy2 ∧ W.heap[nb]? = some (.cells (exA 5 x.p false 0 x.t nl 0 false false on ig (.slice an nn cn) nl) 29) ∧ Off [R.b] wr W ∧ Hid (MdO R nb W (i + 1) on ig (.slice an nn cn) ns j fp2 fy2))
     case first =>
      cases m with
      | false =>
       have hmP : modP R.q (R.T.drop (i + 1)) = .inr (⟨false, false, []⟩, R.T.drop (i + 1)) := by rw [modP, if_pos HM.out]
       have HMO : Hid (MdO R nb wc (i + 1) false false (.slice none 0 0) [] (i + 1) fp 0) := Or.inl ⟨rfl, hi, hmP, Sl.nil _ _ _⟩
       clear hmP
       go_wp2_with fail
       go_meet
       case rel => exact ⟨false, false, none, 0, 0, [], i + 1, fp, 0, B16, l16, E16, HMO⟩
      | true =>
       have hi2 : i + 2 ≤ R.n := by
        have q := HM2.out
        rw [eq_comm, Bool.and_eq_true, Bool.and_eq_true] at q
        have := phd_lt B16.rd (by rw [hyy.out, eq_of_beq q.1.1]; decide)
        omega
       have B17 := B16.next (i + 2) (by omega)
       have c1 := B16.rd.c1
       have g1 := B16.rd.fz 1
       have ec : ((i + 2 : Nat) : Int) = (i : Int) + 1 + 1 := by omega
       rw [ec] at B17
       have ea : ((i + 1 : Nat) : Int) = (i : Int) + 1 := by omega
       rw [ea] at c1
       have o17 := set_off wc R.b 1 (.int .i64 ((i : Int) + 1 + 1))
       have l17 := o17.heap l16 (by simp <;> omega)
       have t17 := o17.heap t16 (by simp <;> omega)
       have E17 := E16.then o17
       clear ec ea l16 t16 o17 E16
       go_upto_region 10 with fail
       generalize wc.setCell ⟨R.b, 1, none⟩ (.int .i64 ((i : Int) + 1 + 1)) = w17 at *
       clear c1 g1 B16
       have B18 := B17.later (drew_below w17)
       have l18 := below_heap (drew_below w17) l17
       have t18 := below_heap (drew_below w17) t17
       have E18 := E17.on (drew_below w17)
       clear B17 l17 t17 E17
       have S6 : (fun W => W.cell? ⟨tb, 2, none⟩ = some (tx y.t)) w17.drew := (cell_at t18 2).trans rfl
       refine wp_region_noPanic ?_
       refine wp_region_held_drew (S := fun W => W.cell? ⟨tb, 2, none⟩ = some (tx y.t)) (by kernel_rfl) ?_ (fun _ => ?_)
       ·
        exact S6
       generalize w17.drew = w18 at *
       refine tk 0 78 (.pointer (some ⟨tb, 2, none⟩)) rfl (fun W hSw => by go_simp) S6 ?_
       simp only [Act.put, pB, pC, pD]
       refine tk 1 79 (tx y.t) rfl (fun W hSw => by (have s2 : W.cell? ⟨tb, 2, none⟩ = some (tx y.t) := hSw; go_simp)) S6 ?_
       simp only [Act.put, pB, pC, pD]
       refine tk 2 80 (.bool (y.t == [111, 110])) rfl (fun W hSw => by go_simp) S6 ?_
       simp only [Act.put, pB, pC, pD]
       refine tk 3 81 (.pointer (some ⟨tb, 2, none⟩)) rfl (fun W hSw => by go_simp) S6 ?_
       simp only [Act.put, pB, pC, pD]
       refine tk 4 82 (tx y.t) rfl (fun W hSw => by (have s2 : W.cell? ⟨tb, 2, none⟩ = some (tx y.t) := hSw; go_simp)) S6 ?_
       simp only [Act.put, pB, pC, pD]
       refine tk 5 83 (.bool (y.t == [105, 103, 110, 111, 114, 105, 110, 103])) rfl (fun W hSw => by go_simp) S6 ?_
       simp only [Act.put, pB, pC, pD]
       refine tk 6 84 (.pointer (some ⟨nb, 9, none⟩)) rfl (fun W hSw => by go_simp) S6 ?_
       simp only [Act.put, pB, pC, pD]
       refine wpAnyH_ready (rs := [7]) (by kernel_rfl) (by simp) ?_
       refine AllReadyH.cons rfl (fun K hK => ?_) AllReadyH.nil
       refine step_st 4 _ _ none rfl rfl (by rfl) nb 9 (.bool (y.t == [111, 110])) rfl rfl (exA 5 x.p false 0 x.t nl 0 false false false false nl nl) 29 l18 (by simp) inf4 rfl (exA 5 x.p false 0 x.t nl 0 false false (y.t == [111, 110]) false nl nl) rfl ?_
       intro w19 l19 o19 z19
       have B19 := B18.node (by omega) o19
       have t19 := o19.heap t18 (by simp <;> omega)
       have E19 := E18.trans o19 (by simp <;> omega)
       have S7 : (fun W => W.cell? ⟨tb, 2, none⟩ = some (tx y.t)) w19 := (cell_at t19 2).trans rfl
       clear B18 l18 t18 E18
       refine hK.out _ _ ?_ (fun _ => ?_)
       ·
        exact S7
       clear hK K
       refine tk 8 85 (.pointer (some ⟨nb, 10, none⟩)) rfl (fun W hSw => by go_simp) S7 ?_
       simp only [Act.put, pB, pC, pD]
       refine wpAnyH_ready (rs := [9]) (by kernel_rfl) (by simp) ?_
       refine AllReadyH.cons rfl (fun K hK => ?_) AllReadyH.nil
       refine step_st 4 _ _ none rfl rfl (by rfl) nb 10 (.bool (y.t == [105, 103, 110, 111, 114, 105, 110, 103])) rfl rfl (exA 5 x.p false 0 x.t nl 0 false false (y.t == [111, 110]) false nl nl) 29 l19 (by simp) inf4 rfl (exA 5 x.p false 0 x.t nl 0 false false (y.t == [111, 110]) (y.t == [105, 103, 110, 111, 114, 105, 110, 103]) nl nl) rfl ?_
       intro w20 l20 o20 z20
       have B20 := B19.node (by omega) o20
       have t20 := o20.heap t19 (by simp <;> omega)
       have E20 := E19.trans o20 (by simp <;> omega)
       have S8 : (fun W => W.cell? ⟨tb, 2, none⟩ = some (tx y.t)) w20 := (cell_at t20 2).trans rfl
       clear B19 l19 t19 E19
       refine hK.out _ _ ?_ (fun _ => ?_)
       ·
        exact S8
       clear hK K
       refine wpAnyH_done (by kernel_rfl) ?_ _
       refine NoPanic.normal ?_
       have hnm := rnames_any R B20.rd hi2
       have hmP : modP R.q (R.T.drop (i + 1)) = bnd (nmP R.q (R.T.drop (i + 2))) fun x => .inr (⟨y.t == wOn, y.t == wIgn, x.1⟩, x.2) := by rw [modP, if_neg (by rw [HM.out]; decide), List.tail_drop, hyy.out]
       cases hn : nmP R.q (R.T.drop (i + 2)) with
       | inr q =>
        rw [hn] at hnm hmP
        clear hn
        have HmP : Hid _ := hmP
        clear hmP
        go_wp2_with fail
        refine hnm.mono ?_
        rintro e w21 ⟨an, nn, cn, j, rfl, hzj, hj, NL⟩
        have B21 := B20.read NL.rd NL.off
        have l21 := NL.off.heap l20 (by simp <;> omega)
        have E21 := E20.then NL.off
        have zN := NL.off.size
        have hz20 := lt_of_heap l20
        have ow := NL.own
        clear hnm B20 l20 t20 E20
        go_wp2_with (refine wp_st rfl 26 _ _ rfl nb 11 (.slice an nn cn) rfl rfl (exA 5 x.p false 0 x.t nl 0 false false (y.t == [111, 110]) (y.t == [105, 103, 110, 111, 114, 105, 110, 103]) nl nl) 29 l21 (by simp) inf26 rfl (exA 5 x.p false 0 x.t nl 0 false false (y.t == [111, 110]) (y.t == [105, 103, 110, 111, 114, 105, 110, 103]) (.slice an nn cn) nl) rfl ?_; intro w22 l22 o22 z22)
        have B22 := B21.node (by omega) o22
        have E22 := E21.trans o22 (by simp <;> omega)
        have ow22 := ow.kept o22 (by simp; omega)
        clear B21 E21 l21 ow NL
        go_meet
        case rel => exact ⟨_, _, an, nn, cn, q.1, j, fp, 0, B22, l22, E22, Or.inl ⟨rfl, hj, by rw [HmP.out, ← hzj]; rfl, SlP.mono (Sl.owns (cs := q.1.map tx) ow22 (by simp)) (fun b hb => by have hb' : w20.heap.size ≤ b := hb; omega)⟩⟩
       | inl er =>
        rw [hn] at hnm hmP
        clear hn
        have HmP : Hid _ := hmP
        clear hmP
        go_wp2_with fail
        refine hnm.mono ?_
        rintro e w21 ⟨an, nn, cn, j, ll, rfl, hj, hy0, NL⟩
        have B21 := B20.read NL.rd NL.off
        have l21 := NL.off.heap l20 (by simp <;> omega)
        have E21 := E20.then NL.off
        have zN := NL.off.size
        have hz20 := lt_of_heap l20
        have ow := NL.own
        clear hnm B20 l20 t20 E20
        go_wp2_with (refine wp_st rfl 26 _ _ rfl nb 11 (.slice an nn cn) rfl rfl (exA 5 x.p false 0 x.t nl 0 false false (y.t == [111, 110]) (y.t == [105, 103, 110, 111, 114, 105, 110, 103]) nl nl) 29 l21 (by simp) inf26 rfl (exA 5 x.p false 0 x.t nl 0 false false (y.t == [111, 110]) (y.t == [105, 103, 110, 111, 114, 105, 110, 103]) (.slice an nn cn) nl) rfl ?_; intro w22 l22 o22 z22)
        have B22 := B21.node (by omega) o22
        have E22 := E21.trans o22 (by simp <;> omega)
        have ow22 := ow.kept o22 (by simp; omega)
        clear B21 E21 l21 ow NL
        go_meet
        case rel => exact ⟨_, _, an, nn, cn, [], j, er.1, er.2, B22, l22, E22, Or.inr ⟨hy0, by omega, by rw [HmP.out]; rfl⟩⟩
     clear B16 l16 t16 E16 HM HM2
     obtain ⟨on, ig, an, nn, cn, ns, j, fp2, fy2, B23, l23, E23, HMO⟩ := hcut
     have hj1 : fy2 = 0 → j ≤ R.n := fun q => by rcases HMO.out with ⟨_, h, _⟩ | ⟨h, _⟩; exact h; exact absurd q h
     have hj2 : fy2 ≠ 0 → j + 1 ≤ R.n + 100 := fun q => by rcases HMO.out with ⟨h, _⟩ | ⟨_, h, _⟩; exact absurd h q; omega
     go_upto_region 12 with fail
     have B24 := B23.later (drew_below wc)
     have l24 := below_heap (drew_below wc) l23
     have E24 := E23.on (drew_below wc)
     have Z24 : Off [R.b] wc wc.drew := Off.of (drew_below wc) _
     clear B23 l23 E23
     have S9 : (fun W => W.heap[eb]? = some (.cells cs 29)) wc.drew := B24.lc
     refine wp_region_noPanic ?_
     refine wp_region_held_drew (S := fun W => W.heap[eb]? = some (.cells cs 29)) (by kernel_rfl) ?_ (fun _ => ?_)
     ·
      exact S9
     generalize wc.drew = w24 at *
     have hc := hA w24 j fp2 fy2 hj1 hj2 B24.rd
     refine tk 0 89 (.agg cs) rfl (fun W hSw => by exact exec_get 29 _ rfl eb cs 29 rfl W hSw _ Tryz.underlying29 rfl 13 inf29 row.1) S9 ?_
     simp only [Act.put, pB, pC, pD]
     refine tk 1 90 (R.ptr) rfl (fun W hSw => by go_simp) S9 ?_
     simp only [Act.put, pB, pC, pD]
     refine tk 2 91 (.int .i64 lev) rfl (fun W hSw => by go_simp) S9 ?_
     simp only [Act.put, pB, pC, pD]
     refine tk 3 92 (.int .i64 (lev + 1)) rfl (fun W hSw => by (go_simp; exact i64w _ (by omega) (by omega))) S9 ?_
     simp only [Act.put, pB, pC, pD]
     refine wpAnyH_ready (rs := [4]) (by kernel_rfl) (by simp) ?_
     refine AllReadyH.cons rfl (fun K hK => ?_) AllReadyH.nil
     go_simp
     refine hc.mono ?_
     rintro e w25 ⟨cs2, j3, fp3, fy3, rfl, row2, P25, o25, HO⟩
     have B25 := B24.read P25 o25
     have l25 := o25.heap l24 (by simp <;> omega)
     have E25 := E24.then o25
     have Z25 := Z24.then o25
     have z25 := o25.size
     have hz24 := lt_of_heap l24
     have S10 : (fun W => W.heap[eb]? = some (.cells cs 29)) w25 := B25.lc
     clear hc B24 l24 E24 P25
     refine hK.out _ _ ?_ (fun _ => ?_)
     ·
      exact S10
     clear hK K
     refine wpAnyH_ready (rs := [5]) (by kernel_rfl) (by simp) ?_
     refine AllReadyH.cons rfl (fun K hK => ?_) AllReadyH.nil
     refine rmk2 _ _ (some 94) rfl rfl (by rfl) cs cs2 rfl rfl row.1 row2.1 ?_
     intro w26 k26 b26 s26
     have B26 := B25.later b26
     have l26 := below_heap b26 l25
     have E26 := E25.on b26
     have S11 : (fun W => W.heap[eb]? = some (.cells cs 29)) w26 := B26.lc
     clear B25 l25 E25
     refine hK.out _ _ ?_ (fun _ => ?_)
     ·
      exact S11
     clear hK K
     refine tk 6 95 (.pointer (some ⟨nb, 12, none⟩)) rfl (fun W hSw => by go_simp) S11 ?_
     simp only [Act.put, pB, pC, pD]
     refine wpAnyH_ready (rs := [7]) (by kernel_rfl) (by simp) ?_
     refine AllReadyH.cons rfl (fun K hK => ?_) AllReadyH.nil
     refine step_st 27 _ _ none rfl rfl (by rfl) nb 12 (.slice (some ⟨w25.heap.size, 0, none⟩) 2 2) rfl rfl (exA 5 x.p false 0 x.t nl 0 false false on ig (.slice an nn cn) nl) 29 l26 (by simp) inf27 rfl (exA 5 x.p false 0 x.t nl 0 false false on ig (.slice an nn cn) (.slice (some ⟨w25.heap.size, 0, none⟩) 2 2)) rfl ?_
     intro w27 l27 o27 z27
     have B27 := B26.node (by omega) o27
     have E27 := E26.trans o27 (by simp <;> omega)
     have k27 := o27.heap k26 (by simp <;> omega)
     have S12 : (fun W => W.heap[eb]? = some (.cells cs 29)) w27 := B27.lc
     clear B26 l26 E26 k26
     refine hK.out _ _ ?_ (fun _ => ?_)
     ·
      exact S12
     clear hK K
     refine wpAnyH_done (by kernel_rfl) ?_ _
     refine NoPanic.normal ?_
     have lc := B27.lc
     go_wp2_with (first | (refine wp_get rfl 29 _ rfl nb (exA 5 x.p false 0 x.t nl 0 false false on ig (.slice an nn cn) (.slice (some ⟨w25.heap.size, 0, none⟩) 2 2)) 29 rfl l27 _ Tryz.underlying29 rfl 13 inf29 rfl ?_) | (refine wp_put rfl 29 _ _ rfl eb (exA 5 x.p false 0 x.t nl 0 false false on ig (.slice an nn cn) (.slice (some ⟨w25.heap.size, 0, none⟩) 2 2)) rfl rfl cs 29 lc 13 inf29 row.1 ⟨rfl, rfl⟩ ?_; intro w28 l28 o28 z28))
     have B28 := B27.put ⟨rfl, rfl⟩ l28 o28
     have k28 := o28.heap k27 (by simp <;> omega)
     have hst := bn_step R (lev := lev + 1) (i0 := i0) (fp0 := fp0) (nb := nb) (kb := w25.heap.size) (eb := eb) (lo := w24.heap.size) (wn := w28) h15 HS.out HLT.out hi hx.out HOP2.out HR.out hk HMO.out HO.out hPa.out (by omega) (by omega) (by omega) (fun n cs' q => SlP.off (SlP.off (SlP.later (SlP.off q Z25 (by simp <;> omega)) b26) o27 (by simp)) o28 (by simp <;> omega)) k28 (TrP.off o28 (fun b hb hq => (hPb.out _ hq).2 (List.mem_singleton.1 hb)) _ (TrP.off E27 (fun b hb hq => by have e := List.mem_singleton.1 hb; subst e; have := hPb.out _ hq; omega) _ HT.out)) (fun e' q => Tr.off o28 (by simp <;> omega) _ (Tr.off o27 (by simp <;> omega) _ (q.later b26)))
     have HST : Hid _ := hst
     clear hst HMO HO HR HT
     go_roundw
     case rel => (repeat apply Exists.intro); exact ⟨⟨_, j3, fp3, fy3, B28, HST.out.1⟩, rfl⟩
     case measure => exact mes_lt2 HB.out B28.rd HST.out.2 hin
  ·
   have hy' : (fy == 0) = false := by rw [beq_eq_false_iff_ne]; exact hy
   have HY : Hid (fy ≠ 0) := hy
   have HF : Hid (AnyO R w.heap.size dp (chP R.q (lev + 1) u) i0 fp0 fy0 cs wr i fp fy) := by
    rcases S.out with ⟨_, q, _⟩ | ⟨q0, q1, q2, q3⟩ | ⟨q0, q1, q2, q3, q4⟩
    ·
     exact absurd q hy
    ·
     exact Or.inr ⟨q0, Or.inr ⟨(fp, fy), by rw [HC.out, q2], rfl, rfl, q1, q3⟩⟩
    ·
     exact Or.inl ⟨q0, q2, q3, q4⟩
   clear hy S
   have lc := B.lc
   have rs := B.res
   go_wp2_with (first | (refine wp_get rfl 29 _ rfl eb cs 29 rfl lc _ Tryz.underlying29 rfl 13 inf29 row.1 ?_) | (refine wp_put rfl 29 _ _ rfl w.heap.size cs rfl rfl _ 29 rs 13 inf29 rfl row ?_; intro we re oe ze))
   refine bodyPost_ret (res_cell Tryz.results42 _ _ w.heap.size 29 cs _ rfl re Tryz.underlying29 rfl 13 inf29 row.1) rfl ⟨cs, i, fp, fy, rfl, row, B.rd.off oe (by simp <;> omega), B.off.trans oe (by simp), ?_⟩
   rcases HF.out with q | ⟨q0, ⟨x, q1, q2, q3, q5, q4⟩ | q⟩
   ·
    exact Or.inl q
   ·
    exact absurd q5 HY.out
   ·
    exact Or.inr ⟨q0, Or.inr q⟩
end Go.Proofs.YteankdaegdhfiaaGreatDoor
