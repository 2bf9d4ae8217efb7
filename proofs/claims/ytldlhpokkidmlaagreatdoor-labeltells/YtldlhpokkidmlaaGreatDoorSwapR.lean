/- slices' swapRange, rotate on rows of pairs. -/
import Derived.Test.YtldlhpokkidmlaaGreatDoorSymPlain
import Derived.Test.YtldlhpokkidmlaaGreatDoorConcat
import Derived.Test.YtldlhpokkidmlaaGreatDoorCopy2
import Derived.Test.YtldlhpokkidmlaaGreatDoorHeld
namespace Go.Proofs.YtldlhpokkidmlaaGreatDoor
open Go.RowKit

theorem row_cells {w : World} {base g M cap : Nat} {R : List Pr} (ho : Own w base (.slice (some ⟨g, 0, none⟩) M cap) R) (i : Nat) (h : i < M) : w.cell? ⟨g, i * 2, none⟩ = some (tx (R.getD i ([], [])).1) ∧ w.cell? ⟨g, i * 2 + 1, none⟩ = some (tx (R.getD i ([], [])).2) := by
  obtain ⟨ao, cap', e, hp, _⟩ := ho.slice
  cases e
  obtain ⟨b, o, e, hc⟩ := hp.2 (by omega)
  cases e
  have := hc i h
  simpa using this
theorem row_frozen {w : World} {base g M cap : Nat} {R : List Pr} (ho : Own w base (.slice (some ⟨g, 0, none⟩) M cap) R) (i : Nat) : w.frozen? ⟨g, i, none⟩ = false := by
  obtain ⟨ao, cap', e, hp, _⟩ := ho.slice
  cases e
  exact World.ownsRow.frozenAt ho i

set_option maxRecDepth 100000 in
set_option maxHeartbeats 2000000 in
theorem swapRange_any (g cap base N : Nat) (P X M Y S : List Pr) (a b n : Nat) (f : Value) (w0 w : World) (hX : X.length = n) (hY : Y.length = n) (ha : P.length = a) (hb : a + n + M.length = b) (hN : N ≤ 1000000)
    (ho : Own w base (.slice (some ⟨g, 0, none⟩) N cap) (P ++ (X ++ (M ++ (Y ++ S))))) (hbw : Below base w0 w) :
    Calls Tryz.prog 104 #[.slice (some ⟨g, 0, none⟩) N cap, .int .i64 a, .int .i64 b, .int .i64 n, f] w fun e w' => e = .returned (.tuple #[]) ∧ Own w' base (.slice (some ⟨g, 0, none⟩) N cap) (P ++ (Y ++ (M ++ (X ++ S)))) ∧ Below base w0 w' := by
  have hlen : a + n + M.length + n + S.length = N := by
    obtain ⟨_, _, e, _, _⟩ := ho.slice
    have := (Value.slice.inj e).2.1
    simp only [List.length_append] at this
    omega
  have hbn : b + n ≤ N := by omega
  have hab : a + n ≤ b := by omega
  have HA : Hid (P.length = a) := ha
  have HB : Hid (a + n + M.length = b) := hb
  rw [← swr_zero] at ho
  rw [← swr_full hX hY]
  have HX : Hid (X.length = n) := hX
  have HY : Hid (Y.length = n) := hY
  clear hX hY ha hb hlen
  go_enter Tryz.func104, Tryz.ntmps104
  go_wp2_with fail
  go_loopw [10] (fun i wr => ∃ k : Nat, k ≤ n ∧ i = .int .i64 k ∧ Own wr base (.slice (some ⟨g, 0, none⟩) N cap) (swr P X M Y S k) ∧ Below base w0 wr) (fun i _ => n - (intOf i).toNat)
  case atStart => exact ⟨0, by omega, rfl, ho, hbw⟩
  case round =>
    obtain ⟨k, hk, rfl, O, B⟩ := hrel
    clear ho hbw
    by_cases hlt : k < n
    · have HS : Hid (sw (swr P X M Y S k) (a + k) (b + k) = swr P X M Y S (k + 1)) := by
        have := swr_step (P := P) (M := M) (S := S) HX.out HY.out hlt
        rw [HA.out, HB.out] at this
        exact this
      have hp : IntKind.i64.wrap ((a : Int) + (k : Int)) = ((a + k : Nat) : Int) := by rw [IntKind.wrap_i64]; omega
      have hq : IntKind.i64.wrap ((b : Int) + (k : Int)) = ((b + k : Nat) : Int) := by rw [IntKind.wrap_i64]; omega
      have hp1 : a + k < N := by omega
      have hq1 : b + k < N := by omega
      generalize a + k = p at *
      generalize b + k = q at *
      generalize swr P X M Y S k = R at *
      go_wp2_with fail
      have o0 := O.later (below_drew (w := wr))
      have D0 := B.drew
      obtain ⟨c0, c1⟩ := row_cells o0 p (by omega)
      obtain ⟨d0, d1⟩ := row_cells o0 q (by omega)
      have z0 := row_frozen o0 (p * 2)
      have z1 := row_frozen o0 (p * 2 + 1)
      have hgb := (World.ownsRow.lt o0 g rfl).1
      have HSW : Hid (sw R p q = (R.set p (R.getD q ([], []))).set q (R.getD p ([], []))) := rfl
      generalize R.getD p ([], []) = x at *
      generalize R.getD q ([], []) = y at *
      clear O B
      refine wp_region_noPanic ?_
      refine wp_region_held_drew (S := fun _ => True) (by kernel_rfl) ?_ (fun _ => ?_)
      · exact trivial
      generalize wr.drew = wd at *
      refine take_at 0 (some 16) (.slice (some ⟨g, 0, none⟩) N cap) rfl rfl (by kernel_rfl) (by kernel_rfl) (by kernel_rfl) (fun _ _ _ h => h) (by rfl) (fun W hSw => by go_simp) trivial ?_
      simp only [Act.put, List.setIfInBounds_toArray, List.set_cons_zero, List.set_cons_succ]
      refine take_at 1 (some 17) (.int .i64 a) rfl rfl (by kernel_rfl) (by kernel_rfl) (by kernel_rfl) (fun _ _ _ h => h) (by rfl) (fun W hSw => by go_simp) trivial ?_
      simp only [Act.put, List.setIfInBounds_toArray, List.set_cons_zero, List.set_cons_succ]
      refine take_at 2 (some 18) (.int .i64 k) rfl rfl (by kernel_rfl) (by kernel_rfl) (by kernel_rfl) (fun _ _ _ h => h) (by rfl) (fun W hSw => by go_simp) trivial ?_
      simp only [Act.put, List.setIfInBounds_toArray, List.set_cons_zero, List.set_cons_succ]
      refine take_at 3 (some 19) (.int .i64 p) rfl rfl (by kernel_rfl) (by kernel_rfl) (by kernel_rfl) (fun _ _ _ h => h) (by rfl) (fun W hSw => by go_simp) trivial ?_
      simp only [Act.put, List.setIfInBounds_toArray, List.set_cons_zero, List.set_cons_succ]
      refine take_at 4 (some 20) (.slice (some ⟨g, 0, none⟩) N cap) rfl rfl (by kernel_rfl) (by kernel_rfl) (by kernel_rfl) (fun _ _ _ h => h) (by rfl) (fun W hSw => by go_simp) trivial ?_
      simp only [Act.put, List.setIfInBounds_toArray, List.set_cons_zero, List.set_cons_succ]
      refine take_at 5 (some 21) (.int .i64 b) rfl rfl (by kernel_rfl) (by kernel_rfl) (by kernel_rfl) (fun _ _ _ h => h) (by rfl) (fun W hSw => by go_simp) trivial ?_
      simp only [Act.put, List.setIfInBounds_toArray, List.set_cons_zero, List.set_cons_succ]
      refine take_at 6 (some 22) (.int .i64 k) rfl rfl (by kernel_rfl) (by kernel_rfl) (by kernel_rfl) (fun _ _ _ h => h) (by rfl) (fun W hSw => by go_simp) trivial ?_
      simp only [Act.put, List.setIfInBounds_toArray, List.set_cons_zero, List.set_cons_succ]
      refine take_at 7 (some 23) (.int .i64 q) rfl rfl (by kernel_rfl) (by kernel_rfl) (by kernel_rfl) (fun _ _ _ h => h) (by rfl) (fun W hSw => by go_simp) trivial ?_
      simp only [Act.put, List.setIfInBounds_toArray, List.set_cons_zero, List.set_cons_succ]
      refine take_at 8 (some 24) (.slice (some ⟨g, 0, none⟩) N cap) rfl rfl (by kernel_rfl) (by kernel_rfl) (by kernel_rfl) (fun _ _ _ h => h) (by rfl) (fun W hSw => by go_simp) trivial ?_
      simp only [Act.put, List.setIfInBounds_toArray, List.set_cons_zero, List.set_cons_succ]
      refine take_at 9 (some 25) (.int .i64 b) rfl rfl (by kernel_rfl) (by kernel_rfl) (by kernel_rfl) (fun _ _ _ h => h) (by rfl) (fun W hSw => by go_simp) trivial ?_
      simp only [Act.put, List.setIfInBounds_toArray, List.set_cons_zero, List.set_cons_succ]
      refine take_at 10 (some 26) (.int .i64 k) rfl rfl (by kernel_rfl) (by kernel_rfl) (by kernel_rfl) (fun _ _ _ h => h) (by rfl) (fun W hSw => by go_simp) trivial ?_
      simp only [Act.put, List.setIfInBounds_toArray, List.set_cons_zero, List.set_cons_succ]
      refine take_at 11 (some 27) (.int .i64 q) rfl rfl (by kernel_rfl) (by kernel_rfl) (by kernel_rfl) (fun _ _ _ h => h) (by rfl) (fun W hSw => by go_simp) trivial ?_
      simp only [Act.put, List.setIfInBounds_toArray, List.set_cons_zero, List.set_cons_succ]
      refine take_at 12 (some 28) (.pointer (some ⟨g, q * 2, none⟩)) rfl rfl (by kernel_rfl) (by kernel_rfl) (by kernel_rfl) (fun _ _ _ h => h) (by rfl) (fun W hSw => by go_simp) trivial ?_
      simp only [Act.put, List.setIfInBounds_toArray, List.set_cons_zero, List.set_cons_succ]
      refine take_at 14 (some 30) (.slice (some ⟨g, 0, none⟩) N cap) rfl rfl (by kernel_rfl) (by kernel_rfl) (by kernel_rfl) (fun _ _ _ h => h) (by rfl) (fun W hSw => by go_simp) trivial ?_
      simp only [Act.put, List.setIfInBounds_toArray, List.set_cons_zero, List.set_cons_succ]
      refine take_at 15 (some 31) (.int .i64 a) rfl rfl (by kernel_rfl) (by kernel_rfl) (by kernel_rfl) (fun _ _ _ h => h) (by rfl) (fun W hSw => by go_simp) trivial ?_
      simp only [Act.put, List.setIfInBounds_toArray, List.set_cons_zero, List.set_cons_succ]
      refine take_at 16 (some 32) (.int .i64 k) rfl rfl (by kernel_rfl) (by kernel_rfl) (by kernel_rfl) (fun _ _ _ h => h) (by rfl) (fun W hSw => by go_simp) trivial ?_
      simp only [Act.put, List.setIfInBounds_toArray, List.set_cons_zero, List.set_cons_succ]
      refine take_at 17 (some 33) (.int .i64 p) rfl rfl (by kernel_rfl) (by kernel_rfl) (by kernel_rfl) (fun _ _ _ h => h) (by rfl) (fun W hSw => by go_simp) trivial ?_
      simp only [Act.put, List.setIfInBounds_toArray, List.set_cons_zero, List.set_cons_succ]
      refine take_at 18 (some 34) (.pointer (some ⟨g, p * 2, none⟩)) rfl rfl (by kernel_rfl) (by kernel_rfl) (by kernel_rfl) (fun _ _ _ h => h) (by rfl) (fun W hSw => by go_simp) trivial ?_
      simp only [Act.put, List.setIfInBounds_toArray, List.set_cons_zero, List.set_cons_succ]
      refine wpAnyH_ready (rs := [13, 19]) (by kernel_rfl) (by simp) ?_
      refine AllReadyH.cons rfl (fun K hK => ?_) (AllReadyH.cons rfl (fun K hK => ?_) AllReadyH.nil)
      · go_simp
        refine hK.out _ _ ?_ (fun _ => ?_)
        · exact trivial
        clear hK K
        refine wpAnyH_ready (rs := [19]) (by kernel_rfl) (by simp) ?_
        refine AllReadyH.cons rfl (fun K hK => ?_) AllReadyH.nil
        go_simp
        refine hK.out _ _ ?_ (fun _ => ?_)
        · exact trivial
        clear hK K
        refine take_at 20 (some 36) (.pointer (some ⟨g, p * 2, none⟩)) rfl rfl (by kernel_rfl) (by kernel_rfl) (by kernel_rfl) (fun _ _ _ h => h) (by rfl) (fun W hSw => by go_simp) trivial ?_
        simp only [Act.put, List.setIfInBounds_toArray, List.set_cons_zero, List.set_cons_succ]
        refine wpAnyH_ready (rs := [21]) (by kernel_rfl) (by simp) ?_
        refine AllReadyH.cons rfl (fun K hK => ?_) AllReadyH.nil
        go_simp
        have o1 := own_put o0 p y (by omega)
        have D1 := (D0.setCell (p := ⟨g, p * 2, none⟩) hgb (tx y.1)).setCell (p := ⟨g, p * 2 + 1, none⟩) hgb (tx y.2)
        generalize (wd.setCell ⟨g, p * 2, none⟩ (.string ⟨y.1.toArray⟩)).setCell ⟨g, p * 2 + 1, none⟩ (.string ⟨y.2.toArray⟩) = y1 at *
        refine hK.out _ _ ?_ (fun _ => ?_)
        · exact trivial
        clear hK K
        obtain ⟨t0, t1⟩ := row_cells o1 q (by omega)
        have z2 := row_frozen o1 (q * 2)
        have z3 := row_frozen o1 (q * 2 + 1)
        refine take_at 22 (some 37) (.pointer (some ⟨g, q * 2, none⟩)) rfl rfl (by kernel_rfl) (by kernel_rfl) (by kernel_rfl) (fun _ _ _ h => h) (by rfl) (fun W hSw => by go_simp) trivial ?_
        simp only [Act.put, List.setIfInBounds_toArray, List.set_cons_zero, List.set_cons_succ]
        refine wpAnyH_ready (rs := [23]) (by kernel_rfl) (by simp) ?_
        refine AllReadyH.cons rfl (fun K hK => ?_) AllReadyH.nil
        go_simp
        have o2 := own_put o1 q x (by omega)
        have D2 := (D1.setCell (p := ⟨g, q * 2, none⟩) hgb (tx x.1)).setCell (p := ⟨g, q * 2 + 1, none⟩) hgb (tx x.2)
        clear t0 t1 z2 z3
        generalize (y1.setCell ⟨g, q * 2, none⟩ (.string ⟨x.1.toArray⟩)).setCell ⟨g, q * 2 + 1, none⟩ (.string ⟨x.2.toArray⟩) = y2 at *
        refine hK.out _ _ ?_ (fun _ => ?_)
        · exact trivial
        clear hK K
        refine wpAnyH_done (by kernel_rfl) ?_ _
        refine NoPanic.normal ?_
        rw [← HSW.out] at o2
        rw [HS.out] at o2
        go_wp2_with fail
        go_roundw
        case rel => exact ⟨k + 1, by omega, by go_num, o2, D2⟩
        case measure => simp [intOf]; omega
      · go_simp
        refine hK.out _ _ ?_ (fun _ => ?_)
        · exact trivial
        clear hK K
        refine wpAnyH_ready (rs := [13]) (by kernel_rfl) (by simp) ?_
        refine AllReadyH.cons rfl (fun K hK => ?_) AllReadyH.nil
        go_simp
        refine hK.out _ _ ?_ (fun _ => ?_)
        · exact trivial
        clear hK K
        refine take_at 20 (some 36) (.pointer (some ⟨g, p * 2, none⟩)) rfl rfl (by kernel_rfl) (by kernel_rfl) (by kernel_rfl) (fun _ _ _ h => h) (by rfl) (fun W hSw => by go_simp) trivial ?_
        simp only [Act.put, List.setIfInBounds_toArray, List.set_cons_zero, List.set_cons_succ]
        refine wpAnyH_ready (rs := [21]) (by kernel_rfl) (by simp) ?_
        refine AllReadyH.cons rfl (fun K hK => ?_) AllReadyH.nil
        go_simp
        have o1 := own_put o0 p y (by omega)
        have D1 := (D0.setCell (p := ⟨g, p * 2, none⟩) hgb (tx y.1)).setCell (p := ⟨g, p * 2 + 1, none⟩) hgb (tx y.2)
        generalize (wd.setCell ⟨g, p * 2, none⟩ (.string ⟨y.1.toArray⟩)).setCell ⟨g, p * 2 + 1, none⟩ (.string ⟨y.2.toArray⟩) = y1 at *
        refine hK.out _ _ ?_ (fun _ => ?_)
        · exact trivial
        clear hK K
        obtain ⟨t0, t1⟩ := row_cells o1 q (by omega)
        have z2 := row_frozen o1 (q * 2)
        have z3 := row_frozen o1 (q * 2 + 1)
        refine take_at 22 (some 37) (.pointer (some ⟨g, q * 2, none⟩)) rfl rfl (by kernel_rfl) (by kernel_rfl) (by kernel_rfl) (fun _ _ _ h => h) (by rfl) (fun W hSw => by go_simp) trivial ?_
        simp only [Act.put, List.setIfInBounds_toArray, List.set_cons_zero, List.set_cons_succ]
        refine wpAnyH_ready (rs := [23]) (by kernel_rfl) (by simp) ?_
        refine AllReadyH.cons rfl (fun K hK => ?_) AllReadyH.nil
        go_simp
        have o2 := own_put o1 q x (by omega)
        have D2 := (D1.setCell (p := ⟨g, q * 2, none⟩) hgb (tx x.1)).setCell (p := ⟨g, q * 2 + 1, none⟩) hgb (tx x.2)
        clear t0 t1 z2 z3
        generalize (y1.setCell ⟨g, q * 2, none⟩ (.string ⟨x.1.toArray⟩)).setCell ⟨g, q * 2 + 1, none⟩ (.string ⟨x.2.toArray⟩) = y2 at *
        refine hK.out _ _ ?_ (fun _ => ?_)
        · exact trivial
        clear hK K
        refine wpAnyH_done (by kernel_rfl) ?_ _
        refine NoPanic.normal ?_
        rw [← HSW.out] at o2
        rw [HS.out] at o2
        go_wp2_with fail
        go_roundw
        case rel => exact ⟨k + 1, by omega, by go_num, o2, D2⟩
        case measure => simp [intOf]; omega
    · have e : k = n := by omega
      subst e
      go_wp2_with fail
      go_end0
      exact ⟨rfl, O, B⟩
end Go.Proofs.YtldlhpokkidmlaaGreatDoor
