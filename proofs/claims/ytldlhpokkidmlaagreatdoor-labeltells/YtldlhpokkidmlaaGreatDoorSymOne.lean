/- slices' symMerge where the first piece is one pair. -/
import Derived.Test.YtldlhpokkidmlaaGreatDoorRotate
namespace Go.Proofs.YtldlhpokkidmlaaGreatDoor
open Go.RowKit

set_option maxRecDepth 200000 in
set_option maxHeartbeats 2000000 in
theorem symOne_any (g cap base N : Nat) (P : List Pr) (x : Pr) (R S : List Pr) (a m b : Nat) (w0 w : World) (ha : P.length = a) (hm : a + 1 = m) (hb : m + R.length = b) (hs : sortedN R) (hN : N ≤ 1000000)
    (ho : Own w base (.slice (some ⟨g, 0, none⟩) N cap) (P ++ (x :: (R ++ S)))) (hbw : Below base w0 w) (hB0 : base ≤ w0.heap.size) :
    Calls Tryz.prog 88 #[.slice (some ⟨g, 0, none⟩) N cap, .int .i64 a, .int .i64 m, .int .i64 b, .func (.func 28) #[] #[]] w fun e w' => e = .returned (.tuple #[]) ∧ ∃ M, Merged [x] R M ∧ Own w' base (.slice (some ⟨g, 0, none⟩) N cap) (P ++ (M ++ S)) ∧ Below base w0 w' := by
  have hlen : b + S.length = N := by
    obtain ⟨_, _, e, _, _⟩ := ho.slice
    have := (Value.slice.inj e).2.1
    simp only [List.length_append, List.length_cons] at this
    omega
  have hbN : b ≤ N := by omega
  have hw0 : IntKind.i64.wrap ((m : Int) - (a : Int)) = 1 := by rw [IntKind.wrap_i64]; omega
  have HA : Hid (P.length = a) := ha
  have HM : Hid (a + 1 = m) := hm
  have HB : Hid (m + R.length = b) := hb
  have hmb : m ≤ b := by omega
  have ham : a < m := by omega
  clear hlen ha hm hb
  rw [← slid_zero] at ho
  go_enter Tryz.func88, Tryz.ntmps88
  go_wp2_with fail
  go_loopw [10, 11] (fun u v wr => ∃ i j : Nat, u = .int .i64 i ∧ v = .int .i64 j ∧ m ≤ i ∧ i ≤ j ∧ j ≤ b ∧ Hid (∀ y ∈ R.take (i - m), y.1 < x.1) ∧ Hid (∀ y ∈ R.drop (j - m), ¬ y.1 < x.1) ∧ Own wr base (.slice (some ⟨g, 0, none⟩) N cap) (slid P x R S 0) ∧ Below base w0 wr) (fun u v _ => (intOf v).toNat - (intOf u).toNat)
  case atStart => exact ⟨m, b, rfl, rfl, Nat.le_refl _, hmb, Nat.le_refl _, (by show ∀ y ∈ R.take (m - m), _; simp), (by show ∀ y ∈ R.drop (b - m), _; rw [List.drop_of_length_le (by have := HB.out; omega)]; simp), ho, hbw⟩
  case round =>
    clear ho hbw
    obtain ⟨i, j, rfl, rfl, hmi, hij, hjb, HI, HJ, O, B⟩ := hrel
    by_cases hlt : i < j
    · obtain ⟨h, HH⟩ : ∃ h, Hid (h = (i + j) / 2) := ⟨_, rfl⟩
      have hH : ((i : Int) + (j : Int)) / 2 = (h : Int) := by rw [HH.out]; omega
      have hih : i ≤ h := by rw [HH.out]; omega
      have hhj : h < j := by rw [HH.out]; omega
      have hq : h - m < R.length := by have := HB.out; omega
      have hhN : h < N := by omega
      have haN : a < N := by omega
      have HL : Hid (R[h - m].1 < x.1 → ∀ y ∈ R.take (h + 1 - m), y.1 < x.1) := fun k => by
        have := take_lt hs hq k
        rw [show h - m + 1 = h + 1 - m from by omega] at this
        exact this
      have HG : Hid (¬ R[h - m].1 < x.1 → ∀ y ∈ R.drop (h - m), ¬ y.1 < x.1) := fun k => drop_ge hs hq k
      have EU : Hid ((slid P x R S 0).getD h ([], []) = R[h - m]) := by
        show _ = _
        rw [slid_zero]
        have e : P ++ (x :: (R ++ S)) = (P ++ [x]) ++ (R ++ S) := by simp
        have e2 : h = m + (h - m) := by omega
        have := HA.out
        have := HM.out
        conv => lhs; rw [e, e2]
        rw [getD_app (by simp; omega) (by simp; omega), List.getElem_append_left]
      obtain ⟨v, hv⟩ : ∃ v, v = x := ⟨_, rfl⟩
      have EV : Hid ((slid P x R S 0).getD a ([], []) = v) := by
        show _ = _
        rw [slid_zero, hv]
        have := getD_app (P := P) (R := x :: (R ++ S)) (q := 0) HA.out (by simp)
        simpa using this
      generalize R[h - m] = u at *
      rw [← hv] at HL HG
      by_cases hc : u.1 < v.1
      · have hc' : Lib.compareBytes u.1 v.1 < 0 := by have := cmpB_lt u.1 v.1; rw [decide_eq_true hc, decide_eq_true_eq] at this; exact this
        have HR : Hid (∀ y ∈ R.take (h + 1 - m), y.1 < x.1) := by rw [← hv]; exact HL.out hc
        clear HL HG HI hc HH hv
        generalize slid P x R S 0 = Dl at *
        go_wp2_with fail
        have D0 := B.drew
        have o0 := O.later (below_drew (w := wr))
        obtain ⟨c0, c1⟩ := row_cells o0 h (by omega)
        obtain ⟨d0, d1⟩ := row_cells o0 a (by omega)
        rw [EU.out] at c0 c1
        rw [EV.out] at d0 d1
        have m0 : ∀ W, Below wr.drew.heap.size wr.drew W → W.cell? ⟨g, h * 2, none⟩ = _ := fun W hW => (hW.cell (p := ⟨g, h * 2, none⟩) (World.block_lt_of_cell? _ _ c0)).trans c0
        have m1 : ∀ W, Below wr.drew.heap.size wr.drew W → W.cell? ⟨g, h * 2 + 1, none⟩ = _ := fun W hW => (hW.cell (p := ⟨g, h * 2 + 1, none⟩) (World.block_lt_of_cell? _ _ c1)).trans c1
        have n0 : ∀ W, Below wr.drew.heap.size wr.drew W → W.cell? ⟨g, a * 2, none⟩ = _ := fun W hW => (hW.cell (p := ⟨g, a * 2, none⟩) (World.block_lt_of_cell? _ _ d0)).trans d0
        have n1 : ∀ W, Below wr.drew.heap.size wr.drew W → W.cell? ⟨g, a * 2 + 1, none⟩ = _ := fun W hW => (hW.cell (p := ⟨g, a * 2 + 1, none⟩) (World.block_lt_of_cell? _ _ d1)).trans d1
        clear c0 c1 d0 d1
        have C0 := Below.refl wr.drew.heap.size wr.drew
        refine wp_region_noPanic ?_
        refine wp_region_held_drew (S := fun W => Below wr.drew.heap.size wr.drew W) (by kernel_rfl) ?_ (fun _ => ?_)
        · exact C0
        generalize wr.drew = wd at *
        refine take_at 0 (some 40) (.func (.func 28) #[] #[]) rfl rfl (by kernel_rfl) (by kernel_rfl) (by kernel_rfl) (fun _ _ _ h => h) (by rfl) (fun W hSw => by go_simp) C0 ?_
        simp only [Act.put, List.setIfInBounds_toArray, List.set_cons_zero, List.set_cons_succ]
        refine take_at 1 (some 41) (.slice (some ⟨g, 0, none⟩) N cap) rfl rfl (by kernel_rfl) (by kernel_rfl) (by kernel_rfl) (fun _ _ _ h => h) (by rfl) (fun W hSw => by go_simp) C0 ?_
        simp only [Act.put, List.setIfInBounds_toArray, List.set_cons_zero, List.set_cons_succ]
        refine take_at 2 (some 42) (.int .i64 h) rfl rfl (by kernel_rfl) (by kernel_rfl) (by kernel_rfl) (fun _ _ _ h => h) (by rfl) (fun W hSw => by go_simp) C0 ?_
        simp only [Act.put, List.setIfInBounds_toArray, List.set_cons_zero, List.set_cons_succ]
        refine take_at 3 (some 43) (.pointer (some ⟨g, h * 2, none⟩)) rfl rfl (by kernel_rfl) (by kernel_rfl) (by kernel_rfl) (fun _ _ _ h => h) (by rfl) (fun W hSw => by go_simp) C0 ?_
        simp only [Act.put, List.setIfInBounds_toArray, List.set_cons_zero, List.set_cons_succ]
        refine take_at 4 (some 44) (.agg #[tx u.1, tx u.2]) rfl rfl (by kernel_rfl) (by kernel_rfl) (by kernel_rfl) (fun _ _ _ h => h) (by rfl) (fun W hSw => by have e0 := m0 W hSw; have e1 := m1 W hSw; go_simp) C0 ?_
        simp only [Act.put, List.setIfInBounds_toArray, List.set_cons_zero, List.set_cons_succ]
        refine take_at 5 (some 45) (.slice (some ⟨g, 0, none⟩) N cap) rfl rfl (by kernel_rfl) (by kernel_rfl) (by kernel_rfl) (fun _ _ _ h => h) (by rfl) (fun W hSw => by go_simp) C0 ?_
        simp only [Act.put, List.setIfInBounds_toArray, List.set_cons_zero, List.set_cons_succ]
        refine take_at 6 (some 46) (.int .i64 a) rfl rfl (by kernel_rfl) (by kernel_rfl) (by kernel_rfl) (fun _ _ _ h => h) (by rfl) (fun W hSw => by go_simp) C0 ?_
        simp only [Act.put, List.setIfInBounds_toArray, List.set_cons_zero, List.set_cons_succ]
        refine take_at 7 (some 47) (.pointer (some ⟨g, a * 2, none⟩)) rfl rfl (by kernel_rfl) (by kernel_rfl) (by kernel_rfl) (fun _ _ _ h => h) (by rfl) (fun W hSw => by go_simp) C0 ?_
        simp only [Act.put, List.setIfInBounds_toArray, List.set_cons_zero, List.set_cons_succ]
        refine take_at 8 (some 48) (.agg #[tx v.1, tx v.2]) rfl rfl (by kernel_rfl) (by kernel_rfl) (by kernel_rfl) (fun _ _ _ h => h) (by rfl) (fun W hSw => by have e0 := n0 W hSw; have e1 := n1 W hSw; go_simp) C0 ?_
        simp only [Act.put, List.setIfInBounds_toArray, List.set_cons_zero, List.set_cons_succ]
        refine wpAnyH_ready (rs := [9]) (by kernel_rfl) (by simp) ?_
        refine AllReadyH.cons rfl (fun K hK => ?_) AllReadyH.nil
        go_simp
        refine (byName_any _ _ _).mono ?_
        rintro e y1 ⟨rfl, hy1⟩
        have C1 := Below.chain C0 hy1
        refine hK.out _ _ ?_ (fun _ => ?_)
        · exact C1
        clear hK K
        refine take_at 10 (some 50) (.bool true) rfl rfl (by kernel_rfl) (by kernel_rfl) (by kernel_rfl) (fun _ _ _ h => h) (by rfl) (fun W hSw => by go_simp) C1 ?_
        simp only [Act.put, List.setIfInBounds_toArray, List.set_cons_zero, List.set_cons_succ]
        refine wpAnyH_done (by kernel_rfl) ?_ _
        refine NoPanic.normal ?_
        have o1 := o0.later C1
        have D1 := D0.trans (C1.mono (Nat.le_trans hB0 D0.size))
        clear o0 D0 C0 C1 hy1 m0 m1 n0 n1
        go_wp2_with fail
        go_roundw
        case rel => exact ⟨h + 1, j, by go_num, rfl, by omega, by omega, hjb, HR, HJ, o1, D1⟩
        case measure => simp [intOf]; omega
      · have hc' : ¬ Lib.compareBytes u.1 v.1 < 0 := by have := cmpB_lt u.1 v.1; rw [decide_eq_false hc, decide_eq_false_iff_not] at this; exact this
        have HR : Hid (∀ y ∈ R.drop (h - m), ¬ y.1 < x.1) := by rw [← hv]; exact HG.out hc
        clear HL HG HJ hc HH hv
        generalize slid P x R S 0 = Dl at *
        go_wp2_with fail
        have D0 := B.drew
        have o0 := O.later (below_drew (w := wr))
        obtain ⟨c0, c1⟩ := row_cells o0 h (by omega)
        obtain ⟨d0, d1⟩ := row_cells o0 a (by omega)
        rw [EU.out] at c0 c1
        rw [EV.out] at d0 d1
        have m0 : ∀ W, Below wr.drew.heap.size wr.drew W → W.cell? ⟨g, h * 2, none⟩ = _ := fun W hW => (hW.cell (p := ⟨g, h * 2, none⟩) (World.block_lt_of_cell? _ _ c0)).trans c0
        have m1 : ∀ W, Below wr.drew.heap.size wr.drew W → W.cell? ⟨g, h * 2 + 1, none⟩ = _ := fun W hW => (hW.cell (p := ⟨g, h * 2 + 1, none⟩) (World.block_lt_of_cell? _ _ c1)).trans c1
        have n0 : ∀ W, Below wr.drew.heap.size wr.drew W → W.cell? ⟨g, a * 2, none⟩ = _ := fun W hW => (hW.cell (p := ⟨g, a * 2, none⟩) (World.block_lt_of_cell? _ _ d0)).trans d0
        have n1 : ∀ W, Below wr.drew.heap.size wr.drew W → W.cell? ⟨g, a * 2 + 1, none⟩ = _ := fun W hW => (hW.cell (p := ⟨g, a * 2 + 1, none⟩) (World.block_lt_of_cell? _ _ d1)).trans d1
        clear c0 c1 d0 d1
        have C0 := Below.refl wr.drew.heap.size wr.drew
        refine wp_region_noPanic ?_
        refine wp_region_held_drew (S := fun W => Below wr.drew.heap.size wr.drew W) (by kernel_rfl) ?_ (fun _ => ?_)
        · exact C0
        generalize wr.drew = wd at *
        refine take_at 0 (some 40) (.func (.func 28) #[] #[]) rfl rfl (by kernel_rfl) (by kernel_rfl) (by kernel_rfl) (fun _ _ _ h => h) (by rfl) (fun W hSw => by go_simp) C0 ?_
        simp only [Act.put, List.setIfInBounds_toArray, List.set_cons_zero, List.set_cons_succ]
        refine take_at 1 (some 41) (.slice (some ⟨g, 0, none⟩) N cap) rfl rfl (by kernel_rfl) (by kernel_rfl) (by kernel_rfl) (fun _ _ _ h => h) (by rfl) (fun W hSw => by go_simp) C0 ?_
        simp only [Act.put, List.setIfInBounds_toArray, List.set_cons_zero, List.set_cons_succ]
        refine take_at 2 (some 42) (.int .i64 h) rfl rfl (by kernel_rfl) (by kernel_rfl) (by kernel_rfl) (fun _ _ _ h => h) (by rfl) (fun W hSw => by go_simp) C0 ?_
        simp only [Act.put, List.setIfInBounds_toArray, List.set_cons_zero, List.set_cons_succ]
        refine take_at 3 (some 43) (.pointer (some ⟨g, h * 2, none⟩)) rfl rfl (by kernel_rfl) (by kernel_rfl) (by kernel_rfl) (fun _ _ _ h => h) (by rfl) (fun W hSw => by go_simp) C0 ?_
        simp only [Act.put, List.setIfInBounds_toArray, List.set_cons_zero, List.set_cons_succ]
        refine take_at 4 (some 44) (.agg #[tx u.1, tx u.2]) rfl rfl (by kernel_rfl) (by kernel_rfl) (by kernel_rfl) (fun _ _ _ h => h) (by rfl) (fun W hSw => by have e0 := m0 W hSw; have e1 := m1 W hSw; go_simp) C0 ?_
        simp only [Act.put, List.setIfInBounds_toArray, List.set_cons_zero, List.set_cons_succ]
        refine take_at 5 (some 45) (.slice (some ⟨g, 0, none⟩) N cap) rfl rfl (by kernel_rfl) (by kernel_rfl) (by kernel_rfl) (fun _ _ _ h => h) (by rfl) (fun W hSw => by go_simp) C0 ?_
        simp only [Act.put, List.setIfInBounds_toArray, List.set_cons_zero, List.set_cons_succ]
        refine take_at 6 (some 46) (.int .i64 a) rfl rfl (by kernel_rfl) (by kernel_rfl) (by kernel_rfl) (fun _ _ _ h => h) (by rfl) (fun W hSw => by go_simp) C0 ?_
        simp only [Act.put, List.setIfInBounds_toArray, List.set_cons_zero, List.set_cons_succ]
        refine take_at 7 (some 47) (.pointer (some ⟨g, a * 2, none⟩)) rfl rfl (by kernel_rfl) (by kernel_rfl) (by kernel_rfl) (fun _ _ _ h => h) (by rfl) (fun W hSw => by go_simp) C0 ?_
        simp only [Act.put, List.setIfInBounds_toArray, List.set_cons_zero, List.set_cons_succ]
        refine take_at 8 (some 48) (.agg #[tx v.1, tx v.2]) rfl rfl (by kernel_rfl) (by kernel_rfl) (by kernel_rfl) (fun _ _ _ h => h) (by rfl) (fun W hSw => by have e0 := n0 W hSw; have e1 := n1 W hSw; go_simp) C0 ?_
        simp only [Act.put, List.setIfInBounds_toArray, List.set_cons_zero, List.set_cons_succ]
        refine wpAnyH_ready (rs := [9]) (by kernel_rfl) (by simp) ?_
        refine AllReadyH.cons rfl (fun K hK => ?_) AllReadyH.nil
        go_simp
        refine (byName_any _ _ _).mono ?_
        rintro e y1 ⟨rfl, hy1⟩
        have C1 := Below.chain C0 hy1
        refine hK.out _ _ ?_ (fun _ => ?_)
        · exact C1
        clear hK K
        refine take_at 10 (some 50) (.bool false) rfl rfl (by kernel_rfl) (by kernel_rfl) (by kernel_rfl) (fun _ _ _ h => h) (by rfl) (fun W hSw => by go_simp) C1 ?_
        simp only [Act.put, List.setIfInBounds_toArray, List.set_cons_zero, List.set_cons_succ]
        refine wpAnyH_done (by kernel_rfl) ?_ _
        refine NoPanic.normal ?_
        have o1 := o0.later C1
        have D1 := D0.trans (C1.mono (Nat.le_trans hB0 D0.size))
        clear o0 D0 C0 C1 hy1 m0 m1 n0 n1
        go_wp2_with fail
        go_roundw
        case rel => exact ⟨i, h, rfl, rfl, hmi, hih, by omega, HI, HR, o1, D1⟩
        case measure => simp [intOf]; omega
    · obtain rfl : i = j := by omega
      obtain ⟨t, HT⟩ : ∃ t, Hid (i = m + t) := ⟨i - m, by show _ = _; omega⟩
      have htR : t ≤ R.length := by have := HT.out; have := HB.out; omega
      have HMg : Hid (Merged [x] R (R.take t ++ x :: R.drop t)) := by
        have h1 := HI.out
        have h2 := HJ.out
        rw [HT.out, Nat.add_sub_cancel_left] at h1 h2
        have := merged_one (x := x) (R1 := R.take t) (R2 := R.drop t) (by rw [List.take_append_drop]; exact hs) h1 h2
        rw [List.take_append_drop] at this
        exact this
      obtain ⟨z, HZ⟩ : ∃ z, Hid (z = a + t) := ⟨_, rfl⟩
      have hw1 : IntKind.i64.wrap ((i : Int) - 1) = (z : Int) := by rw [IntKind.wrap_i64, HZ.out]; have := HT.out; have := HM.out; omega
      have hat : z + 1 ≤ N := by rw [HZ.out]; have := HT.out; have := HM.out; omega
      have haz : a ≤ z := by rw [HZ.out]; omega
      clear HI HJ
      go_wp2_with fail
      go_loopw [13] (fun u wr => ∃ k p : Nat, k ≤ t ∧ Hid (p = a + k) ∧ u = .int .i64 p ∧ p ≤ z ∧ Own wr base (.slice (some ⟨g, 0, none⟩) N cap) (slid P x R S k) ∧ Below base w0 wr) (fun u _ => z - (intOf u).toNat)
      case atStart => exact ⟨0, a, by omega, rfl, rfl, haz, O, B⟩
      case round =>
        clear O B
        obtain ⟨k, p, hk, HP, rfl, hpz, O, B⟩ := hrel
        by_cases hkt : k < t
        · have hkt' : p < z := by rw [HP.out, HZ.out]; omega
          obtain ⟨q, HQ0⟩ : ∃ q, Hid (q = p + 1) := ⟨_, rfl⟩
          have HQ : Hid (q = a + (k + 1)) := by show _ = _; rw [HQ0.out, HP.out]; omega
          have HS : Hid (sw (slid P x R S k) p q = slid P x R S (k + 1)) := by
            have := slid_step (P := P) (x := x) (S := S) (t := k) (R := R) (by omega)
            rw [HA.out] at this
            rw [HQ0.out, HP.out]
            exact this
          have hp : IntKind.i64.wrap ((p : Int) + 1) = (q : Int) := by rw [IntKind.wrap_i64, HQ0.out]; omega
          have hp1 : p < N := by omega
          have hq1 : q < N := by rw [HQ0.out]; omega
          have hq2 : q ≤ z := by rw [HQ0.out]; omega
          have hpq : p < q := by rw [HQ0.out]; omega
          clear HP HQ0
          generalize slid P x R S k = R1 at *
          go_wp2_with fail
          have o0 := O.later (below_drew (w := wr))
          have D0 := B.drew
          obtain ⟨c0, c1⟩ := row_cells o0 p (by omega)
          obtain ⟨d0, d1⟩ := row_cells o0 q (by omega)
          have z0 := row_frozen o0 (p * 2)
          have z1 := row_frozen o0 (p * 2 + 1)
          have hgb := (World.ownsRow.lt o0 g rfl).1
          have HSW : Hid (sw R1 p q = (R1.set p (R1.getD q ([], []))).set q (R1.getD p ([], []))) := rfl
          generalize R1.getD p ([], []) = x' at *
          generalize R1.getD q ([], []) = y' at *
          clear O B
          refine wp_region_noPanic ?_
          refine wp_region_held_drew (S := fun _ => True) (by kernel_rfl) ?_ (fun _ => ?_)
          · exact trivial
          generalize wr.drew = wd at *
          refine take_at 0 (some 61) (.slice (some ⟨g, 0, none⟩) N cap) rfl rfl (by kernel_rfl) (by kernel_rfl) (by kernel_rfl) (fun _ _ _ h => h) (by rfl) (fun W hSw => by go_simp) trivial ?_
          simp only [Act.put, List.setIfInBounds_toArray, List.set_cons_zero, List.set_cons_succ]
          refine take_at 1 (some 62) (.int .i64 p) rfl rfl (by kernel_rfl) (by kernel_rfl) (by kernel_rfl) (fun _ _ _ h => h) (by rfl) (fun W hSw => by go_simp) trivial ?_
          simp only [Act.put, List.setIfInBounds_toArray, List.set_cons_zero, List.set_cons_succ]
          refine take_at 2 (some 63) (.slice (some ⟨g, 0, none⟩) N cap) rfl rfl (by kernel_rfl) (by kernel_rfl) (by kernel_rfl) (fun _ _ _ h => h) (by rfl) (fun W hSw => by go_simp) trivial ?_
          simp only [Act.put, List.setIfInBounds_toArray, List.set_cons_zero, List.set_cons_succ]
          refine take_at 3 (some 64) (.int .i64 p) rfl rfl (by kernel_rfl) (by kernel_rfl) (by kernel_rfl) (fun _ _ _ h => h) (by rfl) (fun W hSw => by go_simp) trivial ?_
          simp only [Act.put, List.setIfInBounds_toArray, List.set_cons_zero, List.set_cons_succ]
          refine take_at 4 (some 65) (.int .i64 q) rfl rfl (by kernel_rfl) (by kernel_rfl) (by kernel_rfl) (fun _ _ _ h => h) (by rfl) (fun W hSw => by go_simp) trivial ?_
          simp only [Act.put, List.setIfInBounds_toArray, List.set_cons_zero, List.set_cons_succ]
          refine take_at 5 (some 66) (.slice (some ⟨g, 0, none⟩) N cap) rfl rfl (by kernel_rfl) (by kernel_rfl) (by kernel_rfl) (fun _ _ _ h => h) (by rfl) (fun W hSw => by go_simp) trivial ?_
          simp only [Act.put, List.setIfInBounds_toArray, List.set_cons_zero, List.set_cons_succ]
          refine take_at 6 (some 67) (.int .i64 p) rfl rfl (by kernel_rfl) (by kernel_rfl) (by kernel_rfl) (fun _ _ _ h => h) (by rfl) (fun W hSw => by go_simp) trivial ?_
          simp only [Act.put, List.setIfInBounds_toArray, List.set_cons_zero, List.set_cons_succ]
          refine take_at 7 (some 68) (.int .i64 q) rfl rfl (by kernel_rfl) (by kernel_rfl) (by kernel_rfl) (fun _ _ _ h => h) (by rfl) (fun W hSw => by go_simp) trivial ?_
          simp only [Act.put, List.setIfInBounds_toArray, List.set_cons_zero, List.set_cons_succ]
          refine take_at 8 (some 69) (.pointer (some ⟨g, q * 2, none⟩)) rfl rfl (by kernel_rfl) (by kernel_rfl) (by kernel_rfl) (fun _ _ _ h => h) (by rfl) (fun W hSw => by go_simp) trivial ?_
          simp only [Act.put, List.setIfInBounds_toArray, List.set_cons_zero, List.set_cons_succ]
          refine take_at 10 (some 71) (.slice (some ⟨g, 0, none⟩) N cap) rfl rfl (by kernel_rfl) (by kernel_rfl) (by kernel_rfl) (fun _ _ _ h => h) (by rfl) (fun W hSw => by go_simp) trivial ?_
          simp only [Act.put, List.setIfInBounds_toArray, List.set_cons_zero, List.set_cons_succ]
          refine take_at 11 (some 72) (.int .i64 p) rfl rfl (by kernel_rfl) (by kernel_rfl) (by kernel_rfl) (fun _ _ _ h => h) (by rfl) (fun W hSw => by go_simp) trivial ?_
          simp only [Act.put, List.setIfInBounds_toArray, List.set_cons_zero, List.set_cons_succ]
          refine take_at 12 (some 73) (.pointer (some ⟨g, p * 2, none⟩)) rfl rfl (by kernel_rfl) (by kernel_rfl) (by kernel_rfl) (fun _ _ _ h => h) (by rfl) (fun W hSw => by go_simp) trivial ?_
          simp only [Act.put, List.setIfInBounds_toArray, List.set_cons_zero, List.set_cons_succ]
          refine wpAnyH_ready (rs := [9, 13]) (by kernel_rfl) (by simp) ?_
          refine AllReadyH.cons rfl (fun K hK => ?_) (AllReadyH.cons rfl (fun K hK => ?_) AllReadyH.nil)
          · go_simp
            refine hK.out _ _ ?_ (fun _ => ?_)
            · exact trivial
            clear hK K
            refine wpAnyH_ready (rs := [13]) (by kernel_rfl) (by simp) ?_
            refine AllReadyH.cons rfl (fun K hK => ?_) AllReadyH.nil
            go_simp
            refine hK.out _ _ ?_ (fun _ => ?_)
            · exact trivial
            clear hK K
            refine take_at 14 (some 75) (.pointer (some ⟨g, p * 2, none⟩)) rfl rfl (by kernel_rfl) (by kernel_rfl) (by kernel_rfl) (fun _ _ _ h => h) (by rfl) (fun W hSw => by go_simp) trivial ?_
            simp only [Act.put, List.setIfInBounds_toArray, List.set_cons_zero, List.set_cons_succ]
            refine wpAnyH_ready (rs := [15]) (by kernel_rfl) (by simp) ?_
            refine AllReadyH.cons rfl (fun K hK => ?_) AllReadyH.nil
            go_simp
            have o1 := own_put o0 p y' (by omega)
            have D1 := (D0.setCell (p := ⟨g, p * 2, none⟩) hgb (tx y'.1)).setCell (p := ⟨g, p * 2 + 1, none⟩) hgb (tx y'.2)
            generalize (wd.setCell ⟨g, p * 2, none⟩ (.string ⟨y'.1.toArray⟩)).setCell ⟨g, p * 2 + 1, none⟩ (.string ⟨y'.2.toArray⟩) = y1 at *
            refine hK.out _ _ ?_ (fun _ => ?_)
            · exact trivial
            clear hK K
            obtain ⟨t0, t1⟩ := row_cells o1 q (by omega)
            have z2 := row_frozen o1 (q * 2)
            have z3 := row_frozen o1 (q * 2 + 1)
            refine take_at 16 (some 76) (.pointer (some ⟨g, q * 2, none⟩)) rfl rfl (by kernel_rfl) (by kernel_rfl) (by kernel_rfl) (fun _ _ _ h => h) (by rfl) (fun W hSw => by go_simp) trivial ?_
            simp only [Act.put, List.setIfInBounds_toArray, List.set_cons_zero, List.set_cons_succ]
            refine wpAnyH_ready (rs := [17]) (by kernel_rfl) (by simp) ?_
            refine AllReadyH.cons rfl (fun K hK => ?_) AllReadyH.nil
            go_simp
            have o2 := own_put o1 q x' (by omega)
            have D2 := (D1.setCell (p := ⟨g, q * 2, none⟩) hgb (tx x'.1)).setCell (p := ⟨g, q * 2 + 1, none⟩) hgb (tx x'.2)
            clear t0 t1 z2 z3
            generalize (y1.setCell ⟨g, q * 2, none⟩ (.string ⟨x'.1.toArray⟩)).setCell ⟨g, q * 2 + 1, none⟩ (.string ⟨x'.2.toArray⟩) = y2 at *
            refine hK.out _ _ ?_ (fun _ => ?_)
            · exact trivial
            clear hK K
            refine wpAnyH_done (by kernel_rfl) ?_ _
            refine NoPanic.normal ?_
            rw [← HSW.out] at o2
            rw [HS.out] at o2
            go_wp2_with fail
            go_roundw
            case rel => exact ⟨k + 1, q, by omega, HQ, rfl, by omega, o2, D2⟩
            case measure => simp only [intOf, Int.toNat_natCast]; omega
          · go_simp
            refine hK.out _ _ ?_ (fun _ => ?_)
            · exact trivial
            clear hK K
            refine wpAnyH_ready (rs := [9]) (by kernel_rfl) (by simp) ?_
            refine AllReadyH.cons rfl (fun K hK => ?_) AllReadyH.nil
            go_simp
            refine hK.out _ _ ?_ (fun _ => ?_)
            · exact trivial
            clear hK K
            refine take_at 14 (some 75) (.pointer (some ⟨g, p * 2, none⟩)) rfl rfl (by kernel_rfl) (by kernel_rfl) (by kernel_rfl) (fun _ _ _ h => h) (by rfl) (fun W hSw => by go_simp) trivial ?_
            simp only [Act.put, List.setIfInBounds_toArray, List.set_cons_zero, List.set_cons_succ]
            refine wpAnyH_ready (rs := [15]) (by kernel_rfl) (by simp) ?_
            refine AllReadyH.cons rfl (fun K hK => ?_) AllReadyH.nil
            go_simp
            have o1 := own_put o0 p y' (by omega)
            have D1 := (D0.setCell (p := ⟨g, p * 2, none⟩) hgb (tx y'.1)).setCell (p := ⟨g, p * 2 + 1, none⟩) hgb (tx y'.2)
            generalize (wd.setCell ⟨g, p * 2, none⟩ (.string ⟨y'.1.toArray⟩)).setCell ⟨g, p * 2 + 1, none⟩ (.string ⟨y'.2.toArray⟩) = y1 at *
            refine hK.out _ _ ?_ (fun _ => ?_)
            · exact trivial
            clear hK K
            obtain ⟨t0, t1⟩ := row_cells o1 q (by omega)
            have z2 := row_frozen o1 (q * 2)
            have z3 := row_frozen o1 (q * 2 + 1)
            refine take_at 16 (some 76) (.pointer (some ⟨g, q * 2, none⟩)) rfl rfl (by kernel_rfl) (by kernel_rfl) (by kernel_rfl) (fun _ _ _ h => h) (by rfl) (fun W hSw => by go_simp) trivial ?_
            simp only [Act.put, List.setIfInBounds_toArray, List.set_cons_zero, List.set_cons_succ]
            refine wpAnyH_ready (rs := [17]) (by kernel_rfl) (by simp) ?_
            refine AllReadyH.cons rfl (fun K hK => ?_) AllReadyH.nil
            go_simp
            have o2 := own_put o1 q x' (by omega)
            have D2 := (D1.setCell (p := ⟨g, q * 2, none⟩) hgb (tx x'.1)).setCell (p := ⟨g, q * 2 + 1, none⟩) hgb (tx x'.2)
            clear t0 t1 z2 z3
            generalize (y1.setCell ⟨g, q * 2, none⟩ (.string ⟨x'.1.toArray⟩)).setCell ⟨g, q * 2 + 1, none⟩ (.string ⟨x'.2.toArray⟩) = y2 at *
            refine hK.out _ _ ?_ (fun _ => ?_)
            · exact trivial
            clear hK K
            refine wpAnyH_done (by kernel_rfl) ?_ _
            refine NoPanic.normal ?_
            rw [← HSW.out] at o2
            rw [HS.out] at o2
            go_wp2_with fail
            go_roundw
            case rel => exact ⟨k + 1, q, by omega, HQ, rfl, by omega, o2, D2⟩
            case measure => simp only [intOf, Int.toNat_natCast]; omega
        · obtain rfl : k = t := by omega
          have hkt' : ¬ p < z := by rw [HP.out, HZ.out]; omega
          have HD : Hid (slid P x R S k = P ++ ((R.take k ++ x :: R.drop k) ++ S)) := by show _ = _; simp [slid]
          rw [HD.out] at O
          clear HP HD HT HZ
          go_wp2_with fail
          refine bodyPost_ret (results_none rfl _ _ _) rfl ?_
          exact ⟨rfl, _, HMg.out, O, B⟩
end Go.Proofs.YtldlhpokkidmlaaGreatDoor
