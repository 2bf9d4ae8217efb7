/- Texts that the others lean on. -/
import Derived.BigQuiet
import Derived.Test.YteankdaegdhfiaaGreatDoorKMB
import Derived.Test.YteankdaegdhfiaaGreatDoorKMC
import Derived.Test.YteankdaegdhfiaaGreatDoorKYLev
namespace Go.Proofs.YteankdaegdhfiaaGreatDoor
open Go.RowKit
abbrev prC (R : Rc) (i dp fp fy : Int) : Array Value := #[.slice R.ta R.n R.c, .int .i64 i, .int .i64 dp, .int .i64 fy, .int .i64 fp]
structure Pd (R : Rc) (w : World) (i : Nat) (dp fp fy : Int) : Prop where
 h : w.heap[R.b]? = some (.cells (prC R i dp fp fy) 81)
 ts : Ts w R.ta R.n R.T
 lt : ∀ a, R.ta = some a → 0 < R.n → a.block < R.b
 ib : i ≤ R.n + 100
 nb : R.n ≤ 1000000
 hq : R.q = endP R.T
theorem Pd.c0 {R : Rc} {w : World} {i : Nat} {dp fp fy : Int} (h : Pd R w i dp fp fy) : w.cell? ⟨R.b, 0, none⟩ = some (.slice R.ta R.n R.c) := (cell_at h.h 0).trans rfl
theorem Pd.c1 {R : Rc} {w : World} {i : Nat} {dp fp fy : Int} (h : Pd R w i dp fp fy) : w.cell? ⟨R.b, 1, none⟩ = some (.int .i64 i) := (cell_at h.h 1).trans rfl
theorem Pd.c2 {R : Rc} {w : World} {i : Nat} {dp fp fy : Int} (h : Pd R w i dp fp fy) : w.cell? ⟨R.b, 2, none⟩ = some (.int .i64 dp) := (cell_at h.h 2).trans rfl
theorem Pd.c3 {R : Rc} {w : World} {i : Nat} {dp fp fy : Int} (h : Pd R w i dp fp fy) : w.cell? ⟨R.b, 3, none⟩ = some (.int .i64 fy) := (cell_at h.h 3).trans rfl
theorem Pd.c4 {R : Rc} {w : World} {i : Nat} {dp fp fy : Int} (h : Pd R w i dp fp fy) : w.cell? ⟨R.b, 4, none⟩ = some (.int .i64 fp) := (cell_at h.h 4).trans rfl
theorem Pd.fz {R : Rc} {w : World} {i : Nat} {dp fp fy : Int} (h : Pd R w i dp fp fy) (j : Nat) : w.frozen? ⟨R.b, j, none⟩ = false := frozen_at h.h j
theorem Pd.bl {R : Rc} {w : World} {i : Nat} {dp fp fy : Int} (h : Pd R w i dp fp fy) : R.b < w.heap.size := lt_of_heap h.h
theorem Pd.off {R : Rc} {X : List Nat} {w w' : World} {i : Nat} {dp fp fy : Int} (h : Pd R w i dp fp fy) (ho : Off X w w') (hX : ∀ x ∈ X, R.b < x) : Pd R w' i dp fp fy :=
 ⟨ho.heap h.h (fun hm => by have := hX _ hm; omega), h.ts.off ho (fun a e hp hm => by have := hX _ hm; have := h.lt a e hp; omega), h.lt, h.ib, h.nb, h.hq⟩
theorem Pd.later {R : Rc} {w w' : World} {i : Nat} {dp fp fy : Int} (h : Pd R w i dp fp fy) (hb : Below w.heap.size w w') : Pd R w' i dp fp fy := h.off (Off.of hb []) (fun _ hx => by cases hx)
theorem Pd.put {R : Rc} {w w' : World} {i j : Nat} {dp fp fy dp' fp' fy' : Int} (h : Pd R w i dp fp fy) (ho : Off [R.b] w w') (hj : j ≤ R.n + 100) (hh : w'.heap[R.b]? = some (.cells (prC R j dp' fp' fy') 81)) : Pd R w' j dp' fp' fy' :=
 ⟨hh, h.ts.off ho (fun a e hp hm => by have := h.lt a e hp; simp at hm; omega), h.lt, hj, h.nb, h.hq⟩
theorem i64w (n : Int) (h0 : 0 ≤ n) (h1 : n < 9223372036854775808) : IntKind.i64.wrap n = n := by
 have hm : n % 18446744073709551616 = n := by omega
 unfold IntKind.wrap
 simp [IntKind.bits, IntKind.signed, hm]
 omega
theorem exec_tok {a : Act} {o : Oper} (x : Operand) (ho : o.op = .load 39 x) (b off : Nat) (cs : Array Value) (hx : a.eval x = .pointer (some ⟨b, off, none⟩)) (W : World) (hr : W.rangeAt b off cs.toList) (hn : cs.size = 6) : (execOp a.eval o).run Tryz.prog W = .ok (.value (.agg cs)) W := by
 unfold execOp
 simp only [ho, hx, Instr.loadAt, Instr.sureAddr, Sem.run_bind, Sem.run_pure, Result.andThen_ok, run_loadVar_mid W b off 39 cs.toList _ hr Tryz.underlying39 rfl (by rw [inf39]; simp [hn])]
theorem endP_at9 {T : List Tk} (h : 0 < T.length) : endP T = (T.getD (T.length - 1) tk0).p := by
 unfold endP
 rw [List.getLast?_eq_getElem?, List.getD, List.getElem?_eq_getElem (by omega)]
 rfl
theorem endP_nil {T : List Tk} (h : T.length = 0) : endP T = 0 := by
 obtain rfl := List.eq_nil_of_length_eq_zero h
 rfl
set_option maxHeartbeats 4000000 in
set_option maxRecDepth 20000 in
theorem peek_any (R : Rc) {w : World} {i : Nat} {dp fp fy : Int} (k j : Nat) (hj : (i : Int) + (k : Int) = (j : Int)) (hk : k ≤ 10) (h : Pd R w i dp fp fy) :
  Calls Tryz.prog 43 #[R.ptr, .int .i64 k] w fun e w' => e = .returned (tv (hd R.q (R.T.drop j))) ∧ Below w.heap.size w w' := by
 have h1 := h.later (bal (Below.refl _ _) (.cells (tcs tk0) 39))
 have r0 := heap_new w (.cells (tcs tk0) 39)
 have B0 := bal (Below.refl w.heap.size w) (.cells (tcs tk0) 39)
 have hbl := h.bl
 have z0 := size_le w (.cells (tcs tk0) 39)
 have hl := h.ts.1
 have hnb := h.nb
 have hib := h.ib
 have hq := h.hq
 simp only [tk0] at h1 r0 B0 z0
 by_cases hlt : j < R.n
 ·
  obtain ⟨tb, off, hta, -⟩ := h.ts.2 (by omega)
  rw [hd_at (by rw [hl]; exact hlt)]
  have hlt' : (j : Int) < R.n := by omega
  have ht : ∀ W, Pd R W i dp fp fy → W.rangeAt tb (off + j * 6) (tcs (R.T.getD j tk0)).toList := fun W hW => by
   have hts := hW.ts
   rw [hta] at hts
   obtain ⟨d0, d1, d2, d3, d4, d5⟩ := hts.at j hlt
   intro m v hv
   match m, hv with
   | 0, hv => simp at hv; subst hv; exact d0
   | 1, hv => simp at hv; subst hv; exact d1
   | 2, hv => simp at hv; subst hv; exact d2
   | 3, hv => simp at hv; subst hv; exact d3
   | 4, hv => simp at hv; subst hv; exact d4
   | 5, hv => simp at hv; subst hv; exact d5
   | m + 6, hv => simp at hv
  generalize R.T.getD j tk0 = x at *
  clear hl h hq
  go_enter Tryz.func43, Tryz.ntmps43
  go_upto_region 1 with fail
  generalize w.alloc (.cells (tcs ⟨0, 0, [], false, 0, 0⟩) 39) = w1 at *
  have c0 := h1.c0
  have c1 := h1.c1
  go_quiet (fail)
  have C : Below w1.heap.size w1 (w1.drewN nq) := below_drewN (Below.refl _ _) nq
  generalize w1.drewN nq = w2 at *
  go_upto_region 2 with fail
  refine wp_region_noPanic ?_
  have SO : ∀ W, Off [w.heap.size] w1 W → Pd R W i dp fp fy := fun W hW => h1.off hW (by simp; omega)
  refine wp_region_held_drew (S := fun W => Off [w.heap.size] w1 W) (by kernel_rfl) ?_ (fun _ => ?_)
  ·
   exact Off.of (C.trans ((drew_below w2).mono C.size)) _
  have C0 : Off [w.heap.size] w1 w2.drew := Off.of (C.trans ((drew_below w2).mono C.size)) _
  have r3 := below_heap (C.trans ((drew_below w2).mono C.size)) r0
  generalize w2.drew = w3 at *
  refine tk 0 18 (R.ptr) rfl (fun W hSw => by go_simp) C0 ?_
  simp only [Act.put, pB, pC, pD]
  refine tk 1 19 (R.ptr) rfl (fun W hSw => by go_simp) C0 ?_
  simp only [Act.put, pB, pC, pD]
  refine tk 2 20 (.pointer (some ⟨R.b, 0, none⟩)) rfl (fun W hSw => by go_simp) C0 ?_
  simp only [Act.put, pB, pC, pD]
  refine tk 3 21 (.slice (some ⟨tb, off, none⟩) R.n R.c) rfl (fun W hSw => by (have hk := (SO _ hSw).c0; rw [hta] at hk; go_simp)) C0 ?_
  simp only [Act.put, pB, pC, pD]
  refine tk 4 22 (R.ptr) rfl (fun W hSw => by go_simp) C0 ?_
  simp only [Act.put, pB, pC, pD]
  refine tk 5 23 (R.ptr) rfl (fun W hSw => by go_simp) C0 ?_
  simp only [Act.put, pB, pC, pD]
  refine tk 6 24 (.pointer (some ⟨R.b, 1, none⟩)) rfl (fun W hSw => by go_simp) C0 ?_
  simp only [Act.put, pB, pC, pD]
  refine tk 7 25 (.int .i64 i) rfl (fun W hSw => by (have hk := (SO _ hSw).c1; go_simp)) C0 ?_
  simp only [Act.put, pB, pC, pD]
  refine tk 8 26 (.int .i64 k) rfl (fun W hSw => by go_simp) C0 ?_
  simp only [Act.put, pB, pC, pD]
  refine tk 9 27 (.int .i64 j) rfl (fun W hSw => by go_simp; exact i64w _ (by omega) (by omega)) C0 ?_
  simp only [Act.put, pB, pC, pD]
  refine tk 10 28 (.pointer (some ⟨tb, off + j * 6, none⟩)) rfl (fun W hSw => by go_simp) C0 ?_
  simp only [Act.put, pB, pC, pD]
  refine tk 11 29 (.agg (tcs x)) rfl (fun W hSw => by exact exec_tok _ rfl tb (off + j * 6) (tcs x) rfl W (ht _ (SO _ hSw)) rfl) C0 ?_
  simp only [Act.put, pB, pC, pD]
  refine wpAnyH_ready (rs := [12]) (by kernel_rfl) (by simp) ?_
  refine AllReadyH.cons rfl (fun K hK => ?_) AllReadyH.nil
  refine step_put 39 _ _ none rfl rfl (by rfl) w.heap.size (tcs x) rfl rfl _ 39 r3 6 inf39 rfl ⟨rfl, rfl⟩ ?_
  intro w4 q4 o4 z4
  clear z4
  refine hK.out _ _ ?_ (fun _ => ?_)
  ·
   exact C0.then o4
  clear hK K
  refine wpAnyH_done (by kernel_rfl) ?_ _
  refine NoPanic.normal ?_
  have B4 := ((Off.of B0 [w.heap.size]).trans (C0.then o4) (by simp)).below (by simp)
  go_wp2_with fail
  exact bodyPost_ret (res_cell Tryz.results43 _ _ w.heap.size 39 (tcs x) _ rfl q4 Tryz.underlying39 rfl 6 inf39 rfl) rfl ⟨rfl, B4⟩
 ·
  have hlt' : ¬ (j : Int) < R.n := by omega
  rw [hd_end (by rw [hl]; omega)]
  by_cases hn : 0 < R.n
  ·
   have hn' : (0 : Int) < R.n := by omega
   obtain ⟨tb, off, hta, -⟩ := h.ts.2 hn
   have hp : ∀ W, Pd R W i dp fp fy → W.cell? ⟨tb, off + (R.n - 1) * 6 + 1, none⟩ = some (.int .i64 R.q) := fun W hW => by
    have hts := hW.ts
    rw [hta] at hts
    rw [hq, endP_at9 (by rw [hl]; exact hn), hl]
    exact (hts.at (R.n - 1) (by omega)).2.1
   have hm1 : ((R.n : Int) - 1) = ((R.n - 1 : Nat) : Int) := by omega
   obtain ⟨m, HM⟩ : ∃ m, Hid (R.n - 1 = m) := ⟨_, rfl⟩
   have hmn : (m : Int) < R.n := by have := HM.out; omega
   rw [HM.out] at hp hm1
   clear hl h hq
   go_enter Tryz.func43, Tryz.ntmps43
   go_upto_region 1 with fail
   generalize w.alloc (.cells (tcs ⟨0, 0, [], false, 0, 0⟩) 39) = w1 at *
   have c0 := h1.c0
   have c1 := h1.c1
   go_quiet (fail)
   have C : Below w1.heap.size w1 (w1.drewN nq) := below_drewN (Below.refl _ _) nq
   generalize w1.drewN nq = w2 at *
   have h2 := h1.later C
   have r2 := below_heap C r0
   have d0 := h2.c0
   have d1 := hp _ h2
   rw [hta] at d0
   clear c0 c1
   go_upto_region 5 with fail
   go_quiet (fail)
   have C3 : Below w2.heap.size w2 (w2.drewN nq) := below_drewN (Below.refl _ _) nq
   generalize w2.drewN nq = w3 at *
   have r3 := below_heap C3 r2
   go_wp2_with (refine wp_put rfl 39 _ _ rfl w.heap.size (tcs ⟨0, R.q, [], false, 0, 0⟩) rfl rfl _ 39 r3 6 inf39 rfl ⟨rfl, rfl⟩ ?_; intro w4 q4 o4 z4)
   have B2 := B0.trans (C.mono B0.size)
   have B3 := B2.trans (C3.mono B2.size)
   exact bodyPost_ret (res_cell Tryz.results43 _ _ w.heap.size 39 (tcs ⟨0, R.q, [], false, 0, 0⟩) _ rfl q4 Tryz.underlying39 rfl 6 inf39 rfl) rfl ⟨rfl, ((Off.of B3 [w.heap.size]).then o4).below (by simp)⟩
  ·
   have hn' : ¬ (0 : Int) < R.n := by omega
   have hq0 : R.q = 0 := by rw [hq, endP_nil (by rw [hl]; omega)]
   rw [hq0]
   clear hl h hq hq0
   go_enter Tryz.func43, Tryz.ntmps43
   go_upto_region 1 with fail
   generalize w.alloc (.cells (tcs ⟨0, 0, [], false, 0, 0⟩) 39) = w1 at *
   have c0 := h1.c0
   have c1 := h1.c1
   go_quiet (fail)
   have C : Below w1.heap.size w1 (w1.drewN nq) := below_drewN (Below.refl _ _) nq
   generalize w1.drewN nq = w2 at *
   have h2 := h1.later C
   have r2 := below_heap C r0
   have d0 := h2.c0
   clear c0 c1
   go_wp2_with (refine wp_put rfl 39 _ _ rfl w.heap.size (tcs ⟨0, 0, [], false, 0, 0⟩) rfl rfl _ 39 r2 6 inf39 rfl ⟨rfl, rfl⟩ ?_; intro w4 q4 o4 z4)
   have B2 := B0.trans (C.mono B0.size)
   exact bodyPost_ret (res_cell Tryz.results43 _ _ w.heap.size 39 (tcs ⟨0, 0, [], false, 0, 0⟩) _ rfl q4 Tryz.underlying39 rfl 6 inf39 rfl) rfl ⟨rfl, ((Off.of B2 [w.heap.size]).then o4).below (by simp)⟩
theorem peek0_any (R : Rc) {w : World} {i : Nat} {dp fp fy : Int} (h : Pd R w i dp fp fy) :
  Calls Tryz.prog 43 #[R.ptr, .int .i64 0] w fun e w' => e = .returned (tv (hd R.q (R.T.drop i))) ∧ Below w.heap.size w w' :=
 peek_any R 0 i (by simp) (by omega) h
theorem peek1_any (R : Rc) {w : World} {i : Nat} {dp fp fy : Int} (h : Pd R w i dp fp fy) :
  Calls Tryz.prog 43 #[R.ptr, .int .i64 1] w fun e w' => e = .returned (tv (hd R.q (R.T.drop (i + 1)))) ∧ Below w.heap.size w w' :=
 peek_any R 1 (i + 1) (by simp) (by omega) h
end Go.Proofs.YteankdaegdhfiaaGreatDoor
