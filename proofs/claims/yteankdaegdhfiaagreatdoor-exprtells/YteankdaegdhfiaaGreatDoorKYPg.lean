/- Texts that the others lean on. -/
import Derived.Test.YteankdaegdhfiaaGreatDoorKYPe
import Derived.Test.YteankdaegdhfiaaGreatDoorKYPf
namespace Go.Proofs.YteankdaegdhfiaaGreatDoor
open Go.RowKit
theorem rcmp_of (R : Rc) (dp : Int) (h15 : dp ≤ 15) (u : List Tk → Rs Ex) (hS : Shr u) (hU : AnyR R 66 #[R.ptr] dp u) : AnyR R 42 #[R.ptr, .int .i64 0] dp (cmpP R.q u) := by
 have a3 := rbin3 R dp u hU
 have a2 : AnyR R 42 #[R.ptr, .int .i64 2] dp (chP R.q 3 u) := rbin_any R 2 dp (by decide) (by decide) h15 u hS a3
 have s2 := shr_chP R.q 3 u hS
 have a1 : AnyR R 42 #[R.ptr, .int .i64 1] dp (chP R.q 2 (chP R.q 3 u)) := rbin_any R 1 dp (by decide) (by decide) h15 _ s2 a2
 exact rbin_any R 0 dp (by decide) (by decide) h15 _ (shr_chP R.q 2 _ s2) a1
theorem run_ok (R : Rc) : ∀ d : Nat, d ≤ 15 → AnyR R 66 #[R.ptr] (15 - d) (unD R.q d)
 | 0, _ => AnyR.of (runary_deep R (deep R.q) (rprim_any R 15 (deep R.q) (by decide) (rinner_deep R))) (runary_old R 15 (rprim_old R 15))
 | d + 1, h => by
  have ih := run_ok R d (by omega)
  have e : (15 - ((d + 1 : Nat) : Int)) + 1 = 15 - (d : Int) := by omega
  have hc := rcmp_of R (15 - d) (by omega) (unD R.q d) (shr_unD R.q d) ih
  have hP := rprim_any R (15 - ((d + 1 : Nat) : Int)) (cmpP R.q (unD R.q d)) (by omega) (rinner_s R _ _ (by omega) (by omega) (by rw [e]; exact hc.run))
  exact AnyR.of (runary_s R _ _ _ (by omega) (by omega) (by rw [e]; exact ih.run) hP) (runary_old R _ (rprim_old R _))
theorem rcmp_ok (R : Rc) : RunR R 42 #[R.ptr, .int .i64 0] 0 (cmpP R.q (unD R.q 15)) := (rcmp_of R 0 (by decide) _ (shr_unD R.q 15) (run_ok R 15 (by omega))).run
set_option maxHeartbeats 16000000 in
set_option maxRecDepth 20000 in
theorem rread_any (ta : Option Addr) (n c : Nat) (T : List Tk) (w : World) (hn : n ≤ 1000000) (h : Ts w ta n T) : Calls Tryz.prog 17 #[.slice ta n c] w fun e w' => ∃ cs, e = .returned (.tuple #[.agg cs, .int .i64 (rdA T), .int .i64 (rdE T)]) ∧ Tr w.heap.size w' (rdX T) cs ∧ Below w.heap.size w w' := by
 have hlt : ∀ a, ta = some a → 0 < n → a.block < w.heap.size := fun a ha hp => by
  obtain ⟨b, off, e, hc⟩ := h.2 hp
  rw [ha] at e
  injection e with e
  subst e
  exact World.block_lt_of_cell? _ _ (hc 0 hp 0 (by omega))
 have HD : Hid (∀ r, whP (endP T) T = r → rdA T = (match r with | .inl er => er.1 | .inr _ => 0) ∧ rdE T = (match r with | .inl er => er.2 | .inr _ => 0) ∧ rdX T = (match r with | .inl _ => ex0 | .inr e => e)) := fun r hr => by
  unfold rdA rdE rdX rdP
  rw [hr]
  exact ⟨rfl, rfl, rfl⟩
 generalize rdA T = vA at *
 generalize rdE T = vE at *
 generalize rdX T = vX at *
 have ts1 := h.later (bal (Below.refl _ _) (.cells zE 29))
 have r1 := heap_new w (.cells zE 29)
 have B1 := bal (Below.refl w.heap.size w) (.cells zE 29)
 have z1 := size_le w (.cells zE 29)
 go_enter Tryz.func17, Tryz.ntmps17
 go_upto_region 1 with fail
 generalize w.alloc (.cells zE 29) = w1 at *
 obtain ⟨R, hR⟩ : ∃ R : Rc, R = ⟨w1.heap.size, ta, n, c, T, endP T⟩ := ⟨_, rfl⟩
 have rdn := heap_new w1 (.cells #[.slice ta n c, .int .i64 0, .int .i64 0, .int .i64 0, .int .i64 0] 81)
 have b2 := bal (Below.refl w1.heap.size w1) (.cells #[.slice ta n c, .int .i64 0, .int .i64 0, .int .i64 0, .int .i64 0] 81)
 have z2 := size_le w1 (.cells #[.slice ta n c, .int .i64 0, .int .i64 0, .int .i64 0, .int .i64 0] 81)
 have r2 := below_heap b2 r1
 have B2 := Below.chain B1 b2
 have P2 : Pd R (w1.alloc (.cells #[.slice ta n c, .int .i64 0, .int .i64 0, .int .i64 0, .int .i64 0] 81)) 0 0 0 0 := by
  subst hR
  exact ⟨rdn, ts1.later b2, fun a ha hp => by have := hlt a ha hp; show a.block < w1.heap.size; omega, Nat.zero_le _, hn, rfl⟩
 have HW : Hid (whP (endP T) T = bnd (cmpP R.q (unD R.q 15) (R.T.drop 0)) fun x => if (hd R.q x.2).k = 0 then .inr x.1 else .inl (bad R.q x.2 71)) := by subst hR; rfl
 have hw := rcmp_ok R _ 0 0 (Nat.zero_le _) P2
 have hRb : R.b = w1.heap.size := by rw [hR]
 have hptr : R.ptr = .pointer (some ⟨w1.heap.size, 0, none⟩) := by rw [hR]
 rw [hptr] at hw
 clear rdn b2 r1 ts1 hR hlt h
 go_upto_region 2 with fail
 generalize w1.alloc (.cells #[.slice ta n c, .int .i64 0, .int .i64 0, .int .i64 0, .int .i64 0] 81) = w2 at *
 have hpk := fun W j fp fy (hW : Pd R W j 0 fp fy) => peek0_any R hW
 have hfl := fun W j fp (hW : Pd R W j 0 fp 0) => fail_new R 71 hW
 rw [hptr] at hpk hfl
 clear hptr
 go_wp2_with fail
 refine hw.mono ?_
 rintro e w3 ⟨cs, rfl, V⟩
 have row := V.row
 have o3 := V.heap
 have r3 := o3.heap r2 (by rw [hRb]; simp <;> omega)
 have z3 := o3.size
 have B3 : Off [w1.heap.size] w w3 := (Off.of B2 _).trans o3 (by rw [hRb]; simp)
 obtain ⟨RES, HS⟩ : ∃ RES, Hid (cmpP R.q (unD R.q 15) (R.T.drop 0) = RES) := ⟨_, rfl⟩
 rw [HS.out] at V HW
 clear hw P2 r2 B2 o3 HS
 go_upto_region 3 with (refine wp_new (w := w3) rfl 29 _ _ rfl zE cs rfl rfl 13 inf29 rfl row ?_; intro w4 l4 b4 s4)
 have r4 := below_heap b4 r3
 have B4 := B3.on b4
 have hb1 : w.heap.size < w1.heap.size := by omega
 have hb2 : w1.heap.size < w3.heap.size := by omega
 cases RES with
 | inr x =>
  obtain ⟨e0, l0⟩ := x
  obtain ⟨j, fp, hx, hj, P3, t3, _⟩ := V
  dsimp only at hx t3
  subst hx
  have P4 := P3.later b4
  have T4 : Hid (Tr w2.heap.size w4 e0 cs) := t3.later b4
  clear P3 t3 b4 r3 B3 s4
  have hp4 := hpk _ _ _ _ P4
  have hf4 := fun W (hW : Pd R W j 0 fp 0) => hfl W j fp hW
  obtain ⟨y, hy⟩ : ∃ y, Hid (hd R.q (R.T.drop j) = y) := ⟨_, rfl⟩
  simp only [hy.out] at hp4 hf4
  have f0 := fld0 y
  have c3 := P4.c3
  rw [hRb] at c3
  have HW2 : Hid (whP (endP T) T = if y.k = 0 then .inr e0 else .inl (y.p, 71)) := by
   show _ = _
   rw [HW.out, ← hy.out]
   rfl
  clear HW hpk hfl
  go_wp2_with fail
  refine hp4.mono ?_
  rintro e w5 ⟨rfl, b5⟩
  have P5 := P4.later b5
  have r5 := below_heap b5 r4
  have l5 := below_heap b5 l4
  have B5 := B4.on b5
  have T5 : Hid (Tr w2.heap.size w5 e0 cs) := Tr.later T4.out b5
  clear P4 r4 l4 B4 T4 b5 hp4 c3
  cases hk : y.k != 0 with
  | false =>
   have hk2 : y.k = 0 := by simpa using hk
   obtain ⟨a1, a2, a3⟩ := HD.out (.inr e0) (by rw [HW2.out, if_pos hk2])
   dsimp only at a1 a2 a3
   subst a1 a2 a3
   have d3 := P5.c3
   rw [hRb] at d3
   clear HD hk2 HW2 hf4
   go_wp2_with (first | (refine wp_get rfl 29 _ rfl w3.heap.size cs 29 rfl l5 _ Tryz.underlying29 rfl 13 inf29 row.1 ?_) | (refine wp_put rfl 29 _ _ rfl w.heap.size cs rfl rfl _ 29 r5 13 inf29 rfl row ?_; intro we re oe ze))
   have B6 := B5.trans oe (by simp <;> omega)
   exact bodyPost_ret (results_three Tryz.results17 _ _ w.heap.size 29 cs _ rfl re Tryz.underlying29 rfl 13 inf29 row.1) rfl ⟨cs, rfl, Tr.lower (by omega) _ (Tr.off oe (by simp <;> omega) _ T5.out), B6.below (by simp <;> omega)⟩
  | true =>
   have hk2 : ¬ y.k = 0 := by simpa using hk
   obtain ⟨a1, a2, a3⟩ := HD.out (.inl (y.p, 71)) (by rw [HW2.out, if_neg hk2])
   dsimp only at a1 a2 a3
   subst a1 a2 a3
   clear HD hk2 HW2
   go_wp2_with fail
   refine (hf4 _ P5).mono ?_
   rintro e w6 ⟨rfl, P6, o6⟩
   have r6 := o6.heap r5 (by rw [hRb]; simp <;> omega)
   have B6 : Off [w1.heap.size] w w6 := B5.trans o6 (by rw [hRb]; simp)
   have z6 := o6.size
   have c3 := P6.c3
   have c4 := P6.c4
   rw [hRb] at c3 c4
   clear hf4 P5 r5 l5 B5 T5 P6 o6
   go_upto_region 6 with fail
   have dr := drew_below w6
   have k4 := (dr.cell (p := ⟨w1.heap.size, 4, none⟩) (World.block_lt_of_cell? _ _ c4)).trans c4
   have k3 := (dr.cell (p := ⟨w1.heap.size, 3, none⟩) (World.block_lt_of_cell? _ _ c3)).trans c3
   have S5 : (fun W => W.cell? ⟨w1.heap.size, 4, none⟩ = some (.int .i64 y.p) ∧ W.cell? ⟨w1.heap.size, 3, none⟩ = some (.int .i64 71)) (World.drew w6) := ⟨k4, k3⟩
   have rr := below_heap dr r6
   have BB := B6.on dr
   clear dr r6 B6 c3 c4
   refine wp_region_noPanic ?_
   refine wp_region_held_drew (S := fun W => W.cell? ⟨w1.heap.size, 4, none⟩ = some (.int .i64 y.p) ∧ W.cell? ⟨w1.heap.size, 3, none⟩ = some (.int .i64 71)) (by kernel_rfl) ?_ (fun _ => ?_)
   ·
    exact S5
   generalize w6.drew = wd at *
   refine tk 0 30 (.agg zE) rfl (fun W hSw => by go_simp) S5 ?_
   simp only [Act.put, pB, pC, pD]
   refine tk 1 31 (.pointer (some ⟨w1.heap.size, 0, none⟩)) rfl (fun W hSw => by go_simp) S5 ?_
   simp only [Act.put, pB, pC, pD]
   refine tk 2 32 (.pointer (some ⟨w1.heap.size, 0, none⟩)) rfl (fun W hSw => by go_simp) S5 ?_
   simp only [Act.put, pB, pC, pD]
   refine tk 3 33 (.pointer (some ⟨w1.heap.size, 4, none⟩)) rfl (fun W hSw => by go_simp) S5 ?_
   simp only [Act.put, pB, pC, pD]
   refine tk 4 34 (.int .i64 y.p) rfl (fun W hSw => by (obtain ⟨s1, s2⟩ := hSw; go_simp)) S5 ?_
   simp only [Act.put, pB, pC, pD]
   refine tk 5 35 (.pointer (some ⟨w1.heap.size, 0, none⟩)) rfl (fun W hSw => by go_simp) S5 ?_
   simp only [Act.put, pB, pC, pD]
   refine tk 6 36 (.pointer (some ⟨w1.heap.size, 0, none⟩)) rfl (fun W hSw => by go_simp) S5 ?_
   simp only [Act.put, pB, pC, pD]
   refine tk 7 37 (.pointer (some ⟨w1.heap.size, 3, none⟩)) rfl (fun W hSw => by go_simp) S5 ?_
   simp only [Act.put, pB, pC, pD]
   refine tk 8 38 (.int .i64 71) rfl (fun W hSw => by (obtain ⟨s1, s2⟩ := hSw; go_simp)) S5 ?_
   simp only [Act.put, pB, pC, pD]
   refine wpAnyH_ready (rs := [9]) (by kernel_rfl) (by simp) ?_
   refine AllReadyH.cons rfl (fun K hK => ?_) AllReadyH.nil
   refine step_put 29 _ _ none rfl rfl (by rfl) w.heap.size zE rfl rfl _ 29 rr 13 inf29 rfl rowZ ?_
   intro we re oe ze
   have S6 : (fun W => W.cell? ⟨w1.heap.size, 4, none⟩ = some (.int .i64 y.p) ∧ W.cell? ⟨w1.heap.size, 3, none⟩ = some (.int .i64 71)) we := ⟨oe.cell k4 (by simp <;> omega), oe.cell k3 (by simp <;> omega)⟩
   refine hK.out _ _ ?_ (fun _ => ?_)
   ·
    exact S6
   clear hK K
   refine tk 10 3 (.int .i64 y.p) rfl (fun W hSw => by go_simp) S6 ?_
   simp only [Act.put, pB, pC, pD]
   refine tk 11 4 (.int .i64 71) rfl (fun W hSw => by go_simp) S6 ?_
   simp only [Act.put, pB, pC, pD]
   refine wpAnyH_done (by kernel_rfl) ?_ _
   refine NoPanic.normal ?_
   go_wp2_with fail
   have B9 := BB.trans oe (by simp <;> omega)
   exact bodyPost_ret (results_three Tryz.results17 _ _ w.heap.size 29 zE _ rfl re Tryz.underlying29 rfl 13 inf29 rfl) rfl ⟨zE, rfl, Tr.leaf (Sl.nil _ _ _) (Sl.nil _ _ _), B9.below (by simp <;> omega)⟩
 | inl er =>
  obtain ⟨j, _, hj, hy0, P3, _⟩ := V
  have P4 := P3.later b4
  obtain ⟨a1, a2, a3⟩ := HD.out (.inl er) (by rw [HW.out]; rfl)
  dsimp only at a1 a2 a3
  subst a1 a2 a3
  have c3 := P4.c3
  have c4 := P4.c4
  rw [hRb] at c3 c4
  have hy1 : (er.2 == 0) = false := by rw [beq_eq_false_iff_ne]; exact hy0
  have hy2 : (er.2 != 0) = true := by rw [bne_iff_ne]; exact hy0
  clear HD HW P3 P4 b4 r3 B3 s4 hpk hfl hy0 l4
  go_upto_region 6 with fail
  have dr := drew_below w4
  have k4 := (dr.cell (p := ⟨w1.heap.size, 4, none⟩) (World.block_lt_of_cell? _ _ c4)).trans c4
  have k3 := (dr.cell (p := ⟨w1.heap.size, 3, none⟩) (World.block_lt_of_cell? _ _ c3)).trans c3
  have S5 : (fun W => W.cell? ⟨w1.heap.size, 4, none⟩ = some (.int .i64 er.1) ∧ W.cell? ⟨w1.heap.size, 3, none⟩ = some (.int .i64 er.2)) (World.drew w4) := ⟨k4, k3⟩
  have rr := below_heap dr r4
  have BB := B4.on dr
  clear dr r4 B4 c3 c4
  refine wp_region_noPanic ?_
  refine wp_region_held_drew (S := fun W => W.cell? ⟨w1.heap.size, 4, none⟩ = some (.int .i64 er.1) ∧ W.cell? ⟨w1.heap.size, 3, none⟩ = some (.int .i64 er.2)) (by kernel_rfl) ?_ (fun _ => ?_)
  ·
   exact S5
  generalize w4.drew = wd at *
  refine tk 0 30 (.agg zE) rfl (fun W hSw => by go_simp) S5 ?_
  simp only [Act.put, pB, pC, pD]
  refine tk 1 31 (.pointer (some ⟨w1.heap.size, 0, none⟩)) rfl (fun W hSw => by go_simp) S5 ?_
  simp only [Act.put, pB, pC, pD]
  refine tk 2 32 (.pointer (some ⟨w1.heap.size, 0, none⟩)) rfl (fun W hSw => by go_simp) S5 ?_
  simp only [Act.put, pB, pC, pD]
  refine tk 3 33 (.pointer (some ⟨w1.heap.size, 4, none⟩)) rfl (fun W hSw => by go_simp) S5 ?_
  simp only [Act.put, pB, pC, pD]
  refine tk 4 34 (.int .i64 er.1) rfl (fun W hSw => by (obtain ⟨s1, s2⟩ := hSw; go_simp)) S5 ?_
  simp only [Act.put, pB, pC, pD]
  refine tk 5 35 (.pointer (some ⟨w1.heap.size, 0, none⟩)) rfl (fun W hSw => by go_simp) S5 ?_
  simp only [Act.put, pB, pC, pD]
  refine tk 6 36 (.pointer (some ⟨w1.heap.size, 0, none⟩)) rfl (fun W hSw => by go_simp) S5 ?_
  simp only [Act.put, pB, pC, pD]
  refine tk 7 37 (.pointer (some ⟨w1.heap.size, 3, none⟩)) rfl (fun W hSw => by go_simp) S5 ?_
  simp only [Act.put, pB, pC, pD]
  refine tk 8 38 (.int .i64 er.2) rfl (fun W hSw => by (obtain ⟨s1, s2⟩ := hSw; go_simp)) S5 ?_
  simp only [Act.put, pB, pC, pD]
  refine wpAnyH_ready (rs := [9]) (by kernel_rfl) (by simp) ?_
  refine AllReadyH.cons rfl (fun K hK => ?_) AllReadyH.nil
  refine step_put 29 _ _ none rfl rfl (by rfl) w.heap.size zE rfl rfl _ 29 rr 13 inf29 rfl rowZ ?_
  intro we re oe ze
  have S6 : (fun W => W.cell? ⟨w1.heap.size, 4, none⟩ = some (.int .i64 er.1) ∧ W.cell? ⟨w1.heap.size, 3, none⟩ = some (.int .i64 er.2)) we := ⟨oe.cell k4 (by simp <;> omega), oe.cell k3 (by simp <;> omega)⟩
  refine hK.out _ _ ?_ (fun _ => ?_)
  ·
   exact S6
  clear hK K
  refine tk 10 3 (.int .i64 er.1) rfl (fun W hSw => by go_simp) S6 ?_
  simp only [Act.put, pB, pC, pD]
  refine tk 11 4 (.int .i64 er.2) rfl (fun W hSw => by go_simp) S6 ?_
  simp only [Act.put, pB, pC, pD]
  refine wpAnyH_done (by kernel_rfl) ?_ _
  refine NoPanic.normal ?_
  go_wp2_with fail
  have B9 := BB.trans oe (by simp <;> omega)
  exact bodyPost_ret (results_three Tryz.results17 _ _ w.heap.size 29 zE _ rfl re Tryz.underlying29 rfl 13 inf29 rfl) rfl ⟨zE, rfl, Tr.leaf (Sl.nil _ _ _) (Sl.nil _ _ _), B9.below (by simp <;> omega)⟩
end Go.Proofs.YteankdaegdhfiaaGreatDoor
